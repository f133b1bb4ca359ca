import Derived.Test.YtakpfdhopodleaaKeepE
namespace Go.Proofs.Ytakpfdhopodleaa
open Go.ChangeShapes Go.WideShapes Go.ChangeAt Go.RowKit Hedge
set_option linter.unusedSimpArgs false
set_option linter.unusedVariables false

theorem divD_range (i j : Int) : -I ≤ divD i j ∧ divD i j ≤ I := by
  have hI := I_pos
  unfold divD
  split
  · omega
  · split
    · split <;> omega
    · have := dnQ_spec (if j < 0 then -(v32 i * (W : Int)) else v32 i * (W : Int)) (v32 j).natAbs; omega
theorem divU_range (i j : Int) : -I ≤ divU i j ∧ divU i j ≤ I := by have := divD_range (-i) j; unfold divU; omega
theorem sqD_range (i : Int) : -I ≤ sqD i ∧ sqD i ≤ I := by
  have hI := I_pos
  have := dnS_spec i
  unfold sqD
  split <;> omega
theorem sqU_range (i : Int) : -I ≤ sqU i ∧ sqU i ≤ I := by
  have hI := I_pos
  have := dnS_spec i
  unfold sqU
  split
  · omega
  · split <;> omega
theorem dnS_mono {i j : Int} (h : i ≤ j) : dnS i ≤ dnS j := by
  have hI := I_pos
  obtain ⟨p, q, c⟩ := dnS_spec i
  obtain ⟨p', q', c'⟩ := dnS_spec j
  by_cases e : dnS i = -I
  · omega
  · rw [← c' (dnS i) (by omega) q]
    rcases (c (dnS i) (by omega) q).2 (Int.le_refl _) with h1 | h1
    · exact Or.inl h1
    · right
      refine Int.le_trans h1 ?_
      exact Int.mul_le_mul_of_nonneg_right (v32_le.2 h) (Int.natCast_nonneg _)
theorem sqD_mono {i j : Int} (h : i ≤ j) (hj : j ≤ I) : sqD i ≤ sqD j := by
  have hI := I_pos
  have h1 := dnS_mono h
  have h2 := (dnS_spec i).2.1
  unfold sqD
  split <;> split <;> omega
theorem sqU_mono {i j : Int} (h0 : 0 ≤ i) (h : i ≤ j) (hj : j ≤ I) : sqU i ≤ sqU j := by
  have hI := I_pos
  have h1 := dnS_mono h
  have h2 := (dnS_spec i).2.1
  have n1 := dnS_nn h0
  have n2 : v32 (dnS i) * v32 (dnS i) ≤ v32 i * (W : Int) := by
    rcases ((dnS_spec i).2.2 (dnS i) (by omega) h2).2 (Int.le_refl _) with h3 | h3
    · omega
    · exact h3
  have n3 : v32 i * (W : Int) ≤ v32 j * (W : Int) := Int.mul_le_mul_of_nonneg_right (v32_le.2 h) (Int.natCast_nonneg _)
  by_cases ej : j = I
  · have := (sqU_range i).2
    have e : sqU j = I := by unfold sqU; rw [if_pos ej]
    omega
  · have ei : i ≠ I := by omega
    have Ei : sqU i = if v32 (dnS i) * v32 (dnS i) = v32 i * (W : Int) then dnS i else dnS i + 1 := by unfold sqU; rw [if_neg ei]
    have Ej : sqU j = if v32 (dnS j) * v32 (dnS j) = v32 j * (W : Int) then dnS j else dnS j + 1 := by unfold sqU; rw [if_neg ej]
    rw [Ei, Ej]
    by_cases hs : dnS i < dnS j
    · split <;> split <;> omega
    · have hs' : dnS i = dnS j := by omega
      rw [← hs']
      by_cases e1 : v32 (dnS i) * v32 (dnS i) = v32 i * (W : Int)
      · rw [if_pos e1]; split <;> omega
      · rw [if_neg e1, if_neg (by omega)]; omega
theorem sq_min {i j : Int} (h : i ≤ j) (hj : j ≤ I) : min (sqD i) (sqD j) = sqD i := Int.min_eq_left (sqD_mono h hj)
theorem sq_max {i j : Int} (h0 : 0 ≤ i) (h : i ≤ j) (hj : j ≤ I) : max (sqU i) (sqU j) = sqU j := Int.max_eq_right (sqU_mono h0 h hj)
/-- The least of the first k of four. -/
def lows (m : Nat → Int) : Nat → Int
  | 0 => m 0
  | k + 1 => if m k < lows m k then m k else lows m k
def highs (m : Nat → Int) : Nat → Int
  | 0 => m 0
  | k + 1 => if highs m k < m k then m k else highs m k
theorem lows4 (m : Nat → Int) : lows m 4 = min4 (m 0) (m 1) (m 2) (m 3) := by
  unfold min4 lows lows lows lows lows
  simp only [Int.lt_irrefl, if_false, Int.min_def]
  split <;> split <;> split <;> (try split) <;> (try split) <;> omega
theorem highs4 (m : Nat → Int) : highs m 4 = max4 (m 0) (m 1) (m 2) (m 3) := by
  unfold max4 highs highs highs highs highs
  simp only [Int.lt_irrefl, if_false, Int.max_def]
  split <;> split <;> split <;> (try split) <;> (try split) <;> omega
theorem lows_range {m : Nat → Int} (h : ∀ k, -I ≤ m k ∧ m k ≤ I) (k : Nat) : -I ≤ lows m k ∧ lows m k ≤ I := by
  induction k with
  | zero => exact h 0
  | succ k ih =>
    unfold lows
    split
    · exact h k
    · exact ih
theorem highs_range {m : Nat → Int} (h : ∀ k, -I ≤ m k ∧ m k ≤ I) (k : Nat) : -I ≤ highs m k ∧ highs m k ≤ I := by
  induction k with
  | zero => exact h 0
  | succ k ih =>
    unfold highs
    split
    · exact h k
    · exact ih
/-- An interval, by the indexes of its ends. -/
theorem iv_iff {a b : Nat} : Iv a b ↔ Num32 a ∧ Num32 b ∧ (i32 a ≤ i32 b ∧ i32 a ≠ I ∧ i32 b ≠ -I) := by
  constructor
  · rintro ⟨h1, h2, h3, h4, h5⟩
    exact ⟨h1, h2, h3, by omega, by omega⟩
  · rintro ⟨h1, h2, h3, h4, h5⟩
    have r1 := i32_range h1
    have r2 := i32_range h2
    exact ⟨h1, h2, h3, by omega, by omega⟩
end Go.Proofs.Ytakpfdhopodleaa
