import Derived.Test.YtakpfdhopodleaaRefH
import Derived.Test.YtakpfdhopodleaaSpecEF
namespace Hedge
open Ieee
set_option linter.unusedSimpArgs false
set_option linter.unusedVariables false

/-- A root with something behind, against a float32. -/
theorem root_cmp2 {N r a : Nat} {more : Bool} (q1 : r * r ≤ N) (q2 : N < (r + 1) * (r + 1)) (hm : more = decide (r * r ≠ N)) (hr : 8388608 ≤ r) (s : Nat) :
    (val single.binade s * 2 ≤ (2 * r + more.toNat) * 2 ^ a ↔ val single.binade s * val single.binade s ≤ N * (2 ^ a * 2 ^ a)) ∧
    ((2 * r + more.toNat) * 2 ^ a ≤ val single.binade s * 2 ↔ N * (2 ^ a * 2 ^ a) ≤ val single.binade s * val single.binade s) := by
  have hσ : more.toNat = if r * r = N then 0 else 1 := by rw [hm]; by_cases h : r * r = N <;> simp [h]
  have hp := Nat.two_pow_pos a
  have hpp : 0 < 2 ^ a * 2 ^ a := Nat.mul_pos hp hp
  have key : ∀ g : Nat, (g * 2 ≤ 2 * r + more.toNat ↔ g * g ≤ N) ∧ (2 * r + more.toNat ≤ g * 2 ↔ N ≤ g * g) := by
    intro g
    rw [hσ]
    have e1 : g ≤ r → g * g ≤ N := fun h => Nat.le_trans (Nat.mul_le_mul h h) q1
    have e2 : r + 1 ≤ g → N < g * g := fun h => Nat.lt_of_lt_of_le q2 (Nat.mul_le_mul h h)
    have e3 : g < r → g * g < N := fun h => Nat.lt_of_lt_of_le (Nat.mul_lt_mul_of_lt_of_le h (Nat.le_of_lt h) (by omega)) q1
    by_cases hz : r * r = N
    · rw [if_pos hz]
      constructor
      · constructor
        · intro h; exact e1 (by omega)
        · intro h
          apply Nat.le_of_not_lt
          intro hc
          have := e2 (by omega); omega
      · constructor
        · intro h; rw [← hz]; exact Nat.mul_le_mul (by omega) (by omega)
        · intro h
          apply Nat.le_of_not_lt
          intro hc
          have := e3 (by omega); omega
    · rw [if_neg hz]
      constructor
      · constructor
        · intro h; exact e1 (by omega)
        · intro h
          apply Nat.le_of_not_lt
          intro hc
          have := e2 (by omega); omega
      · constructor
        · intro h; exact Nat.le_of_lt (e2 (by omega))
        · intro h
          apply Nat.le_of_not_lt
          intro hc
          rcases Nat.lt_or_ge g r with hgr | hgr
          · have := e3 hgr; omega
          · have : g = r := by omega
            subst this; omega
  rcases grid32 s a r hr with ⟨g, hg⟩ | hlt
  · obtain ⟨k1, k2⟩ := key g
    rw [hg]
    have g1 : g * 2 ^ a * 2 = g * 2 * 2 ^ a := Nat.mul_right_comm _ _ _
    have g2 : g * 2 ^ a * (g * 2 ^ a) = g * g * (2 ^ a * 2 ^ a) := Nat.mul_mul_mul_comm _ _ _ _
    rw [g1, g2, Nat.mul_le_mul_right_iff hp, Nat.mul_le_mul_right_iff hp, Nat.mul_le_mul_right_iff hpp, Nat.mul_le_mul_right_iff hpp]
    exact ⟨k1, k2⟩
  · have f1 : val single.binade s * 2 < (2 * r + more.toNat) * 2 ^ a := by
      have : 2 * r * 2 ^ a ≤ (2 * r + more.toNat) * 2 ^ a := Nat.mul_le_mul_right _ (by omega)
      rw [Nat.mul_assoc] at this
      omega
    have f2 : val single.binade s * val single.binade s < N * (2 ^ a * 2 ^ a) := by
      have h1 := Nat.mul_lt_mul_of_lt_of_le hlt (Nat.le_of_lt hlt) (Nat.mul_pos (by omega) hp)
      rw [Nat.mul_mul_mul_comm] at h1
      have h2 := Nat.mul_le_mul_right (2 ^ a * 2 ^ a) q1
      omega
    exact ⟨⟨fun _ => by omega, fun _ => by omega⟩, ⟨fun _ => by omega, fun _ => by omega⟩⟩

theorem sqrt_round {M c c2 r : Nat} {E h : Int} (up : Bool) (a0 : 0 < M) (a1 : M < 16777216) (a2 : 8388608 ≤ M ∨ E = -149) (a3 : -149 ≤ E) (a4 : E ≤ 104)
    (hc : c ≤ 23) (hc2 : c2 ≤ 37) (hr : 8388608 ≤ r) (q1 : r * r ≤ M * 2 ^ c * 2 ^ c2) (q2 : M * 2 ^ c * 2 ^ c2 < (r + 1) * (r + 1)) (hh : 2 * h = E - c - c2) :
    roundK false r h (decide (r * r ≠ M * 2 ^ c * 2 ^ c2)) up = if up then sqU (sgn false (rungOf M E)) else sqD (sgn false (rungOf M E)) := by
  have hI := I_pos
  have r1 : 0 < rungOf M E ∧ rungOf M E < I32 := by unfold rungOf I32; omega
  obtain ⟨i, hi⟩ : ∃ i, i = sgn false (rungOf M E) := ⟨_, rfl⟩
  have vi : v32 i = ((M * 2 ^ (E + 149).toNat : Nat) : Int) := by
    rw [hi]; unfold v32; rw [sval_sgn, val_rungOf (by omega) a2]; simp [sgn]
  have i1 : 0 < i := by rw [hi]; simp [sgn]; omega
  have i2 : i < I := by rw [hi, I_nat]; simp [sgn]; omega
  rw [← hi]
  generalize hmm : decide (r * r ≠ M * 2 ^ c * 2 ^ c2) = more at *
  obtain ⟨a, ha⟩ : ∃ a : Nat, (a : Int) = h + 149 := ⟨(h + 149).toNat, by omega⟩
  have eN : rN r h more = (2 * r + more.toNat) * 2 ^ a := by unfold rN; congr 2; omega
  have eD : rD h = 2 := by unfold rD; rw [show (-149 - h).toNat = 0 by omega]
  have eX : M * 2 ^ (E + 149).toNat * W = M * 2 ^ c * 2 ^ c2 * (2 ^ a * 2 ^ a) := by
    unfold W
    rw [← Nat.pow_add 2 a a, Nat.mul_assoc, ← Nat.pow_add, Nat.mul_assoc M, ← Nat.pow_add, Nat.mul_assoc M, ← Nat.pow_add]
    congr 2
    unfold c149; omega
  have cmp : ∀ j : Int, 0 ≤ j → (v32 j * ((2 : Nat) : Int) ≤ ((rN r h more : Nat) : Int) ↔ v32 j * v32 j ≤ v32 i * (W : Int)) ∧ (((rN r h more : Nat) : Int) ≤ v32 j * ((2 : Nat) : Int) ↔ v32 i * (W : Int) ≤ v32 j * v32 j) := by
    intro j hj
    obtain ⟨s, rfl⟩ : ∃ s : Nat, j = (s : Int) := ⟨j.toNat, by omega⟩
    have k := root_cmp2 (a := a) q1 q2 hmm.symm hr s
    rw [v32_nat, vi, eN]
    rw [← eX] at k
    constructor
    · have := k.1
      constructor
      · intro hh; have h3 : val single.binade s * 2 ≤ (2 * r + more.toNat) * 2 ^ a := by exact_mod_cast hh
        have := this.1 h3; exact_mod_cast this
      · intro hh; have h3 : val single.binade s * val single.binade s ≤ M * 2 ^ (E + 149).toNat * W := by exact_mod_cast hh
        have := this.2 h3; exact_mod_cast this
    · have := k.2
      constructor
      · intro hh; have h3 : (2 * r + more.toNat) * 2 ^ a ≤ val single.binade s * 2 := by exact_mod_cast hh
        have := this.1 h3; exact_mod_cast this
      · intro hh; have h3 : M * 2 ^ (E + 149).toNat * W ≤ val single.binade s * val single.binade s := by exact_mod_cast hh
        have := this.2 h3; exact_mod_cast this
  have hNpos : (0 : Int) < ((rN r h more : Nat) : Int) := by
    rw [eN]
    have := Nat.mul_pos (show 0 < 2 * r + more.toNat by omega) (Nat.two_pow_pos a)
    exact_mod_cast this
  obtain ⟨p, q, cc⟩ := dnS_spec i
  have d0 := dnS_nn (show 0 ≤ i by omega)
  unfold roundK
  rw [eD]
  have es : sgn false (rN r h more) = ((rN r h more : Nat) : Int) := by simp [sgn]
  rw [es]
  cases up
  · simp only [Bool.false_eq_true, if_false]
    unfold sqD; rw [if_neg (by omega)]
    apply dnQ_eq p q
    intro j j1 j2
    rw [← cc j j1 j2]
    by_cases hj : j < 0
    · have := v32_neg_iff.2 hj
      constructor
      · intro _; exact Or.inl hj
      · intro _; omega
    · rw [(cmp j (by omega)).1]
      constructor
      · exact Or.inr
      · rintro (h1 | h1)
        · omega
        · exact h1
  · simp only [if_true]
    unfold sqU; rw [if_neg (by omega)]
    have hle : v32 (dnS i) * v32 (dnS i) ≤ v32 i * (W : Int) := by
      rcases (cc (dnS i) (by omega) q).2 (Int.le_refl _) with h1 | h1
      · omega
      · exact h1
    have mono : ∀ x y : Int, 0 ≤ x → x ≤ y → v32 x * v32 x ≤ v32 y * v32 y := by
      intro x y hx hxy
      have h3 : 0 ≤ v32 x := v32_nn.2 hx
      have h4 : v32 x ≤ v32 y := v32_le.2 hxy
      exact Int.mul_le_mul h4 h4 h3 (by omega)
    by_cases he : v32 (dnS i) * v32 (dnS i) = v32 i * (W : Int)
    · rw [if_pos he]
      apply upQ_eq (by omega) (by omega)
      intro j j1 j2
      by_cases hj : j < 0
      · have := v32_neg_iff.2 hj
        constructor
        · intro _; omega
        · intro _; omega
      · rw [(cmp j (by omega)).2, ← he]
        constructor
        · intro h1
          apply Int.le_of_not_gt
          intro h2
          have h3 : 0 ≤ v32 j := v32_nn.2 (by omega)
          have h4 : v32 j < v32 (dnS i) := v32_lt.2 h2
          have h5 : v32 j * v32 j < v32 (dnS i) * v32 (dnS i) := by
            have := Int.mul_le_mul_of_nonneg_left (show v32 j ≤ v32 (dnS i) by omega) h3
            have h6 := Int.mul_lt_mul_of_pos_right h4 (show 0 < v32 (dnS i) by omega)
            omega
          omega
        · intro h1; exact mono _ _ d0 h1
    · rw [if_neg he]
      apply upQ_eq (by omega) (by omega)
      intro j j1 j2
      by_cases hj : j < 0
      · have := v32_neg_iff.2 hj
        constructor
        · intro _; omega
        · intro _; omega
      · rw [(cmp j (by omega)).2]
        have hcj := cc j j1 j2
        constructor
        · intro h1
          apply Int.lt_of_not_ge
          intro h2
          have := mono j (dnS i) (by omega) h2
          omega
        · intro h1
          apply Int.le_of_not_gt
          intro h2
          have := hcj.1 (Or.inr (by omega))
          omega

/-- A sum with something behind, against a float32. -/
theorem add_cmp {M rest u d : Nat} {more : Bool} (hrest : rest < 2 ^ d) (hm : more = decide (rest ≠ 0)) (hM : more = true → 8388608 ≤ M) (s : Nat) :
    (val single.binade s * 2 ≤ (2 * M + more.toNat) * 2 ^ (u + d) ↔ val single.binade s * 1 ≤ (M * 2 ^ d + rest) * 2 ^ u) ∧
    ((2 * M + more.toNat) * 2 ^ (u + d) ≤ val single.binade s * 2 ↔ (M * 2 ^ d + rest) * 2 ^ u ≤ val single.binade s * 1) := by
  have hσ : more.toNat = if rest = 0 then 0 else 1 := by rw [hm]; by_cases h : rest = 0 <;> simp [h]
  have eP : 2 ^ (u + d) = 2 ^ d * 2 ^ u := by rw [Nat.pow_add, Nat.mul_comm]
  have hu := Nat.two_pow_pos u
  have hd := Nat.two_pow_pos d
  have hZ : (M * 2 ^ d + rest) * 2 ^ u = M * 2 ^ (u + d) + rest * 2 ^ u := by rw [Nat.add_mul, eP, Nat.mul_assoc]
  rw [hZ, Nat.mul_one]
  by_cases hz : rest = 0
  · rw [hσ, if_pos hz, hz, Nat.zero_mul, Nat.add_zero, Nat.add_zero]
    have : 2 * M * 2 ^ (u + d) = M * 2 ^ (u + d) * 2 := by rw [Nat.mul_comm 2 M, Nat.mul_right_comm]
    rw [this]
    constructor <;> omega
  · have hmt : more = true := by rw [hm]; simp [hz]
    rw [hσ, if_neg hz]
    have hr1 : 0 < rest * 2 ^ u := Nat.mul_pos (by omega) hu
    have hr2 : rest * 2 ^ u < 2 ^ (u + d) := by rw [eP]; exact Nat.mul_lt_mul_of_pos_right hrest hu
    have e1 : (2 * M + 1) * 2 ^ (u + d) = M * 2 ^ (u + d) * 2 + 2 ^ (u + d) := by
      rw [Nat.add_mul, Nat.one_mul, Nat.mul_comm 2 M, Nat.mul_right_comm]
    rw [e1]
    rcases grid32 s (u + d) M (hM hmt) with ⟨g, hg⟩ | hlt
    · rw [hg]
      generalize 2 ^ (u + d) = P at *
      rcases Nat.lt_or_ge M g with h | h
      · have h1 : (M + 1) * P ≤ g * P := Nat.mul_le_mul_right _ h
        rw [Nat.add_mul, Nat.one_mul] at h1
        constructor <;> omega
      · have h1 : g * P ≤ M * P := Nat.mul_le_mul_right _ h
        constructor <;> omega
    · constructor <;> omega

theorem add_round {neg : Bool} {M rest u d : Nat} {E Z : Int} {more : Bool} (up : Bool) (hE : E + 149 = (u : Int) + d) (hrest : rest < 2 ^ d) (hm : more = decide (rest ≠ 0)) (hM : more = true → 8388608 ≤ M)
    (hZ : sgn neg ((M * 2 ^ d + rest) * 2 ^ u) = Z) :
    roundK neg M E more up = if up then upQ Z 1 else dnQ Z 1 := by
  rw [← hZ]
  apply roundK_cmp up (by omega)
  intro s hs
  have eD : rD E = 2 := by unfold rD; rw [show (-149 - E).toNat = 0 by omega]
  have eN : rN M E more = (2 * M + more.toNat) * 2 ^ (u + d) := by unfold rN; congr 2; omega
  rw [eD, eN]
  exact add_cmp hrest hm hM s
end Hedge
