import Derived.Test.YtakpfdhopodleaaSpecC
namespace Hedge
open Ieee
set_option linter.unusedSimpArgs false
set_option linter.unusedVariables false

theorem J_pos : (0 : Int) < J := by decide

theorem read64 {x : Nat} (hx : Num64 x) : (i64 x = J ∧ double.read x = .infinity false) ∨ (i64 x = -J ∧ double.read x = .infinity true) ∨
    (-J < i64 x ∧ i64 x < J ∧ ∃ m k, double.read x = .number (x / double.signWeight % 2 == 1) m k) := by
  obtain ⟨h1, h2⟩ := hx
  by_cases h : x % 9223372036854775808 = 9218868437227405312
  · have hr := read_inf double good_double x (by rw [sw64, in64]; exact h)
    rw [sw64] at hr
    by_cases hs : x < 9223372036854775808
    · left
      have e1 : (x / 9223372036854775808 % 2 == 1) = false := by simp; omega
      rw [e1] at hr
      exact ⟨by rw [i64_eq x h1, if_pos hs]; unfold J; omega, hr⟩
    · right; left
      have e1 : (x / 9223372036854775808 % 2 == 1) = true := by simp; omega
      rw [e1] at hr
      exact ⟨by rw [i64_eq x h1, if_neg hs]; unfold J; omega, hr⟩
  · right; right
    have hf : x % double.signWeight < double.infRung := by rw [sw64, in64]; omega
    refine ⟨?_, ?_, _, _, read_fin double x hf⟩
    · rw [i64_eq x h1]; unfold J; split <;> omega
    · rw [i64_eq x h1]; unfold J; split <;> omega

theorem infw (b : Bool) : Num64 (double.word b double.infRung) ∧ i64 (double.word b double.infRung) = if b then -J else J := by
  cases b
  · exact ⟨by unfold Num64; decide +kernel, by decide +kernel⟩
  · exact ⟨by unfold Num64; decide +kernel, by decide +kernel⟩

theorem add_inf {x y : Nat} (hx : Num64 x) (hy : Num64 y) (b : Bool) (h : (i64 x = (if b then -J else J) ∧ i64 y ≠ (if b then J else -J)) ∨ (i64 y = (if b then -J else J) ∧ i64 x ≠ (if b then J else -J))) :
    ∃ s, F64.add x y = some s ∧ Num64 s ∧ i64 s = if b then -J else J := by
  have hJ := J_pos
  refine ⟨double.word b double.infRung, ?_, infw b⟩
  show double.add x y = _
  unfold Format.add
  rcases read64 hx with ⟨x1, x2⟩ | ⟨x1, x2⟩ | ⟨x1, x2, m, k, x3⟩ <;> rcases read64 hy with ⟨y1, y2⟩ | ⟨y1, y2⟩ | ⟨y1, y2, n, l, y3⟩ <;> cases b <;>
    simp only [if_true, if_false, Bool.false_eq_true] at h <;>
    first
    | (exfalso; omega)
    | (rw [x2, y2]; rfl)
    | (rw [x2, y3]; rfl)
    | (rw [x3, y2]; rfl)

theorem dn64_J : dn64 J = I := by
  have := I_pos
  exact dn64_eq (by omega) (by omega) (fun i h1 h2 => ⟨fun _ => h2, fun _ => Or.inr (Or.inl rfl)⟩)
theorem dn64_mJ : dn64 (-J) = -I := by
  have := I_pos
  have := J_pos
  refine dn64_eq (by omega) (by omega) (fun i h1 h2 => ⟨?_, fun h => by omega⟩)
  rintro (h | h | h)
  · omega
  · omega
  · exact absurd rfl h.2.1
theorem up64_J : up64 J = I := by unfold up64; rw [dn64_mJ]; omega
theorem up64_mJ : up64 (-J) = -I := by unfold up64; rw [show -(-J) = J by omega, dn64_J]
theorem dn64_0 : dn64 0 = 0 := by
  have hI := I_pos
  have hJ := J_pos
  have hU : (0 : Int) < (U : Int) := by exact_mod_cast U_pos
  refine dn64_eq (by omega) (by omega) (fun i h1 h2 => ?_)
  unfold FLe
  rw [v64_zero]
  constructor
  · rintro (h | h | h)
    · omega
    · omega
    · apply Int.le_of_not_gt
      intro hc
      have := Int.mul_pos (v32_pos.2 hc) hU
      omega
  · intro h
    refine Or.inr (Or.inr ⟨by omega, by omega, ?_⟩)
    have h3 : v32 i ≤ 0 := by have := @v32_pos i; omega
    exact Int.mul_nonpos_of_nonpos_of_nonneg h3 (by omega)
theorem up64_0 : up64 0 = 0 := by unfold up64; rw [show -(0 : Int) = 0 by omega, dn64_0]; rfl

theorem up_J {i u : Int} (h : Up i u) : (u = J ↔ i = I) ∧ (u = -J ↔ i = -I) := by
  have hI := I_pos
  have hJ := J_pos
  rcases h with h | h | h
  · constructor <;> constructor <;> intro _ <;> omega
  · constructor <;> constructor <;> intro _ <;> omega
  · constructor <;> constructor <;> intro _ <;> omega

theorem addD_range (i j : Int) : -I ≤ addD i j ∧ addD i j ≤ I := by
  have hI := I_pos
  unfold addD
  split
  · omega
  · split
    · omega
    · have := dnQ_spec (v32 i + v32 j) 1; omega
end Hedge
