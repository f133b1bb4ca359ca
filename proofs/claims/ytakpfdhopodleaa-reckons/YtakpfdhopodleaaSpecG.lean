import Derived.Test.YtakpfdhopodleaaSpecEF
namespace Hedge
open Ieee
set_option linter.unusedSimpArgs false
set_option linter.unusedVariables false

/-- Two indexes that are one float, or two next to each other, as an interval. -/
structure Nb (k k' : Int) : Prop where
  lo : -I ≤ k
  hi : k' ≤ I
  eq : k' = k ∨ k' = k + 1
  l : k < I
  h : -I < k'

theorem nb_q (Z : Int) (D : Nat) (hD : 0 < D) : Nb (dnQ Z D) (upQ Z D) := by
  have hI := I_pos
  have hD' : (0 : Int) < (D : Int) := by exact_mod_cast hD
  obtain ⟨a, b, c⟩ := dnQ_spec Z D
  obtain ⟨a', b', c'⟩ := upQ_spec Z D
  have h1 : upQ Z D ≤ dnQ Z D + 1 := by
    by_cases h : dnQ Z D + 1 = I
    · omega
    · have h2 : ¬ (v32 (dnQ Z D + 1) * (D : Int) ≤ Z) := by
        intro h3; have := (c _ (by omega) (by omega)).1 h3; omega
      exact (c' _ (by omega) (by omega)).1 (by omega)
  have h2 : dnQ Z D ≤ upQ Z D := by
    by_cases h : dnQ Z D = -I
    · omega
    · by_cases h' : upQ Z D = I
      · omega
      · have h3 := (c _ (by omega) b).2 (Int.le_refl _)
        have h4 := (c' _ a' (by omega)).2 (Int.le_refl _)
        exact v32_le.1 (Int.le_of_mul_le_mul_right (Int.le_trans h3 h4) hD')
  exact ⟨a, b', by omega, b, a'⟩

theorem nb_zero : Nb 0 0 := by have := I_pos; exact ⟨by omega, by omega, Or.inl rfl, by omega, by omega⟩

theorem nb_add {i j : Int} (i1 : -I < i) (i2 : i < I) (j1 : -I < j) (j2 : j < I) : Nb (addD i j) (addU i j) := by
  have e1 : addD i j = dnQ (v32 i + v32 j) 1 := by unfold addD; rw [if_neg (by omega), if_neg (by omega)]
  have e2 : addU i j = upQ (v32 i + v32 j) 1 := by
    unfold addU addD upQ; rw [if_neg (by omega), if_neg (by omega), v32_neg, v32_neg, ← Int.neg_add]
  rw [e1, e2]; exact nb_q _ 1 (by omega)

theorem nb_mul {i j : Int} (i1 : -I < i) (i2 : i < I) (j1 : -I < j) (j2 : j < I) : Nb (mulD i j) (mulU i j) := by
  by_cases h : i = 0 ∨ j = 0
  · have e1 : mulD i j = 0 := by unfold mulD; rw [if_pos h]
    have e2 : mulU i j = 0 := by unfold mulU mulD; rw [if_pos (by omega)]; rfl
    rw [e1, e2]; exact nb_zero
  · rw [mulD_fin (by omega) (by omega) i1 i2 j1 j2, mulU_fin (by omega) (by omega) i1 i2 j1 j2]
    exact nb_q _ W W_pos

theorem divD_fin {i j : Int} (i0 : i ≠ 0) (i1 : -I < i) (i2 : i < I) (j1 : -I < j) (j2 : j < I) : divD i j = dnQ (if j < 0 then -(v32 i * (W : Int)) else v32 i * (W : Int)) (v32 j).natAbs := by
  unfold divD; rw [if_neg (by omega), if_neg (by omega)]
theorem divU_fin {i j : Int} (i0 : i ≠ 0) (i1 : -I < i) (i2 : i < I) (j1 : -I < j) (j2 : j < I) : divU i j = upQ (if j < 0 then -(v32 i * (W : Int)) else v32 i * (W : Int)) (v32 j).natAbs := by
  unfold divU divD upQ; rw [if_neg (by omega), if_neg (by omega), v32_neg, Int.neg_mul]
  rw [show (if j < 0 then -(-(v32 i * (W : Int))) else -(v32 i * (W : Int))) = -(if j < 0 then -(v32 i * (W : Int)) else v32 i * (W : Int)) by split <;> omega]

theorem v32_abs_pos {j : Int} (h : j ≠ 0) : 0 < (v32 j).natAbs := by
  have := @v32_eq0 j; omega

theorem nb_div {i j : Int} (i1 : -I < i) (i2 : i < I) (j0 : j ≠ 0) (j1 : -I < j) (j2 : j < I) : Nb (divD i j) (divU i j) := by
  by_cases h : i = 0
  · have e1 : divD i j = 0 := by unfold divD; rw [if_pos (by omega)]
    have e2 : divU i j = 0 := by unfold divU divD; rw [if_pos (by omega)]; rfl
    rw [e1, e2]; exact nb_zero
  · rw [divD_fin h i1 i2 j1 j2, divU_fin h i1 i2 j1 j2]
    exact nb_q _ _ (v32_abs_pos j0)

theorem nb_sqrt {i : Int} (i1 : 0 ≤ i) (i2 : i < I) : Nb (sqD i) (sqU i) ∧ 0 ≤ sqD i := by
  have hI := I_pos
  obtain ⟨a, b, c⟩ := dnS_spec i
  have h0 := dnS_nn i1
  unfold sqD sqU
  rw [if_neg (by omega), if_neg (by omega)]
  refine ⟨?_, h0⟩
  split
  · exact ⟨a, by omega, Or.inl rfl, b, by omega⟩
  · exact ⟨a, by omega, Or.inr rfl, b, by omega⟩
end Hedge
