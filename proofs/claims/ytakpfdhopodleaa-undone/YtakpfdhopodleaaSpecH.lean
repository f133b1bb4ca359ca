import Derived.Test.YtakpfdhopodleaaSpecG
namespace Hedge
open Ieee
set_option linter.unusedSimpArgs false
set_option linter.unusedVariables false

theorem dnQ_le {Z i : Int} {D : Nat} (hD : 0 < D) (h1 : -I ≤ i) (h : Z ≤ v32 i * (D : Int)) : dnQ Z D ≤ i := by
  obtain ⟨a, b, c⟩ := dnQ_spec Z D
  have hD' : (0 : Int) < (D : Int) := by exact_mod_cast hD
  by_cases hk : dnQ Z D = -I
  · omega
  · have := (c _ (by omega) b).2 (Int.le_refl _)
    exact v32_le.1 (Int.le_of_mul_le_mul_right (Int.le_trans this h) hD')
theorem le_upQ {Z i : Int} {D : Nat} (hD : 0 < D) (h1 : i ≤ I) (h : v32 i * (D : Int) ≤ Z) : i ≤ upQ Z D := by
  have := dnQ_le (Z := -Z) (i := -i) hD (by omega) (by rw [v32_neg, Int.neg_mul]; omega)
  unfold upQ; omega

theorem und_add_lo {i j : Int} (i1 : -I < i) (i2 : i < I) (j1 : -I < j) (j2 : j < I) : addD (addD i j) (-j) ≤ i := by
  have hI := I_pos
  have e1 : addD i j = dnQ (v32 i + v32 j) 1 := by unfold addD; rw [if_neg (by omega), if_neg (by omega)]
  obtain ⟨a, b, c⟩ := dnQ_spec (v32 i + v32 j) 1
  rw [e1]
  by_cases hk : dnQ (v32 i + v32 j) 1 = -I
  · unfold addD; rw [if_pos (Or.inl hk)]; omega
  · have h3 := (c _ (by omega) b).2 (Int.le_refl _)
    rw [Int.natCast_one, Int.mul_one] at h3
    have e2 : addD (dnQ (v32 i + v32 j) 1) (-j) = dnQ (v32 (dnQ (v32 i + v32 j) 1) + v32 (-j)) 1 := by
      generalize dnQ (v32 i + v32 j) 1 = k at *
      unfold addD; rw [if_neg (by omega), if_neg (by omega)]
    rw [e2]
    apply dnQ_le (by omega) (by omega)
    rw [v32_neg, Int.natCast_one, Int.mul_one]; omega
theorem und_add_hi {i j : Int} (i1 : -I < i) (i2 : i < I) (j1 : -I < j) (j2 : j < I) : i ≤ addU (addU i j) (-j) := by
  have h := und_add_lo (i := -i) (j := -j) (by omega) (by omega) (by omega) (by omega)
  have e : addU (addU i j) (-j) = -addD (addD (-i) (-j)) (-(-j)) := by
    show -addD (-(-addD (-i) (-j))) (-(-j)) = _
    rw [Int.neg_neg (addD (-i) (-j))]
  rw [e]; omega

theorem mulD_zero {j : Int} : mulD 0 j = 0 := by unfold mulD; rw [if_pos (Or.inl rfl)]
theorem mulD_inf {i j : Int} (i0 : i = I ∨ i = -I) (j0 : j ≠ 0) : mulD i j = if (decide (i < 0)) = (decide (j < 0)) then I else -I := by
  have hI := I_pos
  unfold mulD; rw [if_neg (by omega), if_pos (by omega)]

theorem und_div_lo {i j : Int} (i1 : -I < i) (i2 : i < I) (j0 : j ≠ 0) (j1 : -I < j) (j2 : j < I) : mulD (divD i j) j ≤ i ∨ mulD (divU i j) j ≤ i := by
  have hI := I_pos
  by_cases h0 : i = 0
  · left
    have e1 : divD i j = 0 := by unfold divD; rw [if_pos (by omega)]
    rw [e1, mulD_zero]; omega
  · have hW : (0 : Int) < (W : Int) := by exact_mod_cast W_pos
    by_cases hj : j < 0
    · right
      rw [divU_fin h0 i1 i2 j1 j2, if_pos hj]
      obtain ⟨a, b, c⟩ := upQ_spec (-(v32 i * (W : Int))) (v32 j).natAbs
      have hvj : ((v32 j).natAbs : Int) = -v32 j := by have := v32_neg_iff.2 hj; omega
      generalize upQ (-(v32 i * (W : Int))) (v32 j).natAbs = q at *
      by_cases hq : q = I
      · rw [mulD_inf (Or.inl hq) j0]
        have h1 : ¬ q < 0 := by omega
        simp [h1, hj]; omega
      · have h3 := (c q a (by omega)).2 (Int.le_refl _)
        rw [hvj, Int.mul_neg] at h3
        by_cases hq0 : q = 0
        · rw [hq0, mulD_zero]
          rw [hq0, v32_zero, Int.zero_mul] at h3
          have h4 : 0 ≤ v32 i * (W : Int) := by omega
          apply v32_nn.1
          apply Int.le_of_not_gt
          intro hc
          have := Int.mul_neg_of_neg_of_pos hc hW
          omega
        · rw [mulD_fin hq0 j0 a (by omega) j1 j2]
          exact dnQ_le W_pos (by omega) (by omega)
    · left
      rw [divD_fin h0 i1 i2 j1 j2, if_neg hj]
      obtain ⟨a, b, c⟩ := dnQ_spec (v32 i * (W : Int)) (v32 j).natAbs
      have hvj : ((v32 j).natAbs : Int) = v32 j := by have := v32_nn.2 (show 0 ≤ j by omega); omega
      generalize dnQ (v32 i * (W : Int)) (v32 j).natAbs = q at *
      by_cases hq : q = -I
      · rw [mulD_inf (Or.inr hq) j0]
        have h1 : q < 0 := by omega
        simp [h1, hj]; omega
      · have h3 := (c q (by omega) b).2 (Int.le_refl _)
        rw [hvj] at h3
        by_cases hq0 : q = 0
        · rw [hq0, mulD_zero]
          rw [hq0, v32_zero, Int.zero_mul] at h3
          apply v32_nn.1
          apply Int.le_of_not_gt
          intro hc
          have := Int.mul_neg_of_neg_of_pos hc hW
          omega
        · rw [mulD_fin hq0 j0 (by omega) b j1 j2]
          exact dnQ_le W_pos (by omega) h3
theorem und_div_hi {i j : Int} (i1 : -I < i) (i2 : i < I) (j0 : j ≠ 0) (j1 : -I < j) (j2 : j < I) : i ≤ mulU (divD i j) j ∨ i ≤ mulU (divU i j) j := by
  have h := und_div_lo (i := -i) (by omega) (by omega) j0 j1 j2
  have e1 : divD (-i) j = -divU i j := by unfold divU; omega
  have e2 : divU (-i) j = -divD i j := by unfold divU; rw [Int.neg_neg]
  rw [e1, e2] at h
  unfold mulU
  omega

theorem und_sqrt_lo {i : Int} (i1 : 0 ≤ i) (i2 : i < I) : mulD (sqD i) (sqD i) ≤ i := by
  have hI := I_pos
  obtain ⟨a, b, c⟩ := dnS_spec i
  have h0 := dnS_nn i1
  have e : sqD i = dnS i := by unfold sqD; rw [if_neg (by omega)]
  rw [e]
  have h1 : v32 (dnS i) * v32 (dnS i) ≤ v32 i * (W : Int) := by
    rcases (c (dnS i) (by omega) b).2 (Int.le_refl _) with h | h
    · omega
    · exact h
  by_cases hz : dnS i = 0
  · rw [hz, mulD_zero]; exact i1
  · rw [mulD_fin hz hz (by omega) b (by omega) b]
    exact dnQ_le W_pos (by omega) h1
theorem und_sqrt_hi {i : Int} (i1 : 0 ≤ i) (i2 : i < I) : i ≤ mulU (sqU i) (sqU i) := by
  have hI := I_pos
  obtain ⟨a, b, c⟩ := dnS_spec i
  have h0 := dnS_nn i1
  have hW : (0 : Int) < (W : Int) := by exact_mod_cast W_pos
  have key : ∀ r, 0 ≤ r → r ≤ I → (r = I ∨ v32 i * (W : Int) ≤ v32 r * v32 r) → i ≤ mulU r r := by
    intro r r0 r1 hr
    by_cases hrI : r = I
    · unfold mulU
      rw [mulD_inf (Or.inr (by omega)) (by omega)]
      have h1 : -r < 0 := by omega
      have h2 : ¬ r < 0 := by omega
      simp [h1, h2]; omega
    · have hr' : v32 i * (W : Int) ≤ v32 r * v32 r := by rcases hr with h | h; · exact absurd h hrI
                                                         · exact h
      by_cases hz : r = 0
      · rw [hz] at hr' ⊢
        rw [v32_zero, Int.zero_mul] at hr'
        unfold mulU
        rw [show -(0 : Int) = 0 by omega, mulD_zero]
        have : ¬ 0 < i := by
          intro hc
          have := Int.mul_pos (v32_pos.2 hc) hW
          omega
        omega
      · rw [mulU_fin hz hz (by omega) (by omega) (by omega) (by omega)]
        exact le_upQ W_pos (by omega) hr'
  unfold sqU
  rw [if_neg (by omega)]
  split
  · rename_i he
    exact key _ h0 (by omega) (Or.inr (by omega))
  · rename_i he
    apply key _ (by omega) (by omega)
    by_cases h1 : dnS i + 1 = I
    · exact Or.inl h1
    · right
      have : ¬ (v32 (dnS i + 1) * v32 (dnS i + 1) ≤ v32 i * (W : Int)) := by
        intro h
        have := (c (dnS i + 1) (by omega) (by omega)).1 (Or.inr h)
        omega
      omega
end Hedge
