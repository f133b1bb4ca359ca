import Derived.Test.YtakpfdhopodleaaSpecA
namespace Hedge
open Ieee
set_option linter.unusedSimpArgs false
set_option linter.unusedVariables false

/-- The word of an index (0 without a minus). -/
def w32 (k : Int) : Nat := if k < 0 then 2147483648 + k.natAbs else k.natAbs

abbrev F32 := Go.FloatKind.f32.format
abbrev F64 := Go.FloatKind.f64.format

/-- 'x' is a word of float32 that is no NaN. -/
def Num32 (x : Nat) : Prop := x < 4294967296 ∧ x % 2147483648 ≤ 2139095040
def Num64 (x : Nat) : Prop := x < 18446744073709551616 ∧ x % 9223372036854775808 ≤ 9218868437227405312
def i32 (x : Nat) : Int := idx single x
def i64 (x : Nat) : Int := idx double x

theorem i32_eq (x : Nat) (hx : x < 4294967296) : i32 x = if x < 2147483648 then (x : Int) else -((x : Int) - 2147483648) := by
  unfold i32 idx sgn
  rw [sw32]
  by_cases h : x < 2147483648
  · have e1 : x / 2147483648 = 0 := Nat.div_eq_of_lt h
    have e2 : x % 2147483648 = x := Nat.mod_eq_of_lt h
    rw [e1, e2, if_pos h]; simp
  · have e1 : x / 2147483648 = 1 := by omega
    have e2 : x % 2147483648 = x - 2147483648 := by omega
    rw [e1, e2, if_neg h]; simp; omega

theorem i64_eq (x : Nat) (hx : x < 18446744073709551616) : i64 x = if x < 9223372036854775808 then (x : Int) else -((x : Int) - 9223372036854775808) := by
  unfold i64 idx sgn
  rw [sw64]
  by_cases h : x < 9223372036854775808
  · have e1 : x / 9223372036854775808 = 0 := Nat.div_eq_of_lt h
    have e2 : x % 9223372036854775808 = x := Nat.mod_eq_of_lt h
    rw [e1, e2, if_pos h]; simp
  · have e1 : x / 9223372036854775808 = 1 := by omega
    have e2 : x % 9223372036854775808 = x - 9223372036854775808 := by omega
    rw [e1, e2, if_neg h]; simp; omega

theorem i32_range {x : Nat} (h : Num32 x) : -I ≤ i32 x ∧ i32 x ≤ I := by
  obtain ⟨h1, h2⟩ := h
  rw [i32_eq x h1]; unfold I
  split <;> omega
theorem i64_range {x : Nat} (h : Num64 x) : -J ≤ i64 x ∧ i64 x ≤ J := by
  obtain ⟨h1, h2⟩ := h
  rw [i64_eq x h1]; unfold J
  split <;> omega

theorem num_w32 {k : Int} (h1 : -I ≤ k) (h2 : k ≤ I) : Num32 (w32 k) := by
  unfold Num32 w32 I at *
  split <;> omega
theorem i32_w32 {k : Int} (h1 : -I ≤ k) (h2 : k ≤ I) : i32 (w32 k) = k := by
  rw [i32_eq _ (num_w32 h1 h2).1]
  unfold w32 I at *
  split <;> split <;> omega
/-- A word is that of its index, but for the 0 with a minus. -/
theorem w32_i32 {x : Nat} (h : Num32 x) (h0 : x ≠ 2147483648) : w32 (i32 x) = x := by
  obtain ⟨h1, h2⟩ := h
  rw [i32_eq x h1]
  unfold w32
  split <;> split <;> omega

theorem order32 {x y : Nat} (hx : Num32 x) (hy : Num32 y) : F32.order x y = some (compare (i32 x) (i32 y)) :=
  order_spec single good_single x y (by rw [sw32, in32]; exact hx.2) (by rw [sw32, in32]; exact hy.2)
theorem order64 {x y : Nat} (hx : Num64 x) (hy : Num64 y) : F64.order x y = some (compare (i64 x) (i64 y)) :=
  order_spec double good_double x y (by rw [sw64, in64]; exact hx.2) (by rw [sw64, in64]; exact hy.2)
theorem order32_nan {x y : Nat} (h : 2139095040 < x % 2147483648 ∨ 2139095040 < y % 2147483648) : F32.order x y = none :=
  order_nan single good_single x y (by rw [sw32, in32]; exact h)

theorem cmp_lt {a b : Int} (h : a < b) : compare a b = .lt := by simp only [compare, compareOfLessAndEq, if_pos h]
theorem cmp_eq {a b : Int} (h : a = b) : compare a b = .eq := by subst h; simp [compare, compareOfLessAndEq]
theorem cmp_gt {a b : Int} (h : b < a) : compare a b = .gt := by
  simp only [compare, compareOfLessAndEq]; rw [if_neg (by omega), if_neg (by omega)]

theorem o32_lt {x y : Nat} (hx : Num32 x) (hy : Num32 y) (h : i32 x < i32 y) : F32.order x y = some .lt := by rw [order32 hx hy, cmp_lt h]
theorem o32_eq {x y : Nat} (hx : Num32 x) (hy : Num32 y) (h : i32 x = i32 y) : F32.order x y = some .eq := by rw [order32 hx hy, cmp_eq h]
theorem o32_gt {x y : Nat} (hx : Num32 x) (hy : Num32 y) (h : i32 y < i32 x) : F32.order x y = some .gt := by rw [order32 hx hy, cmp_gt h]
theorem o64_lt {x y : Nat} (hx : Num64 x) (hy : Num64 y) (h : i64 x < i64 y) : F64.order x y = some .lt := by rw [order64 hx hy, cmp_lt h]
theorem o64_eq {x y : Nat} (hx : Num64 x) (hy : Num64 y) (h : i64 x = i64 y) : F64.order x y = some .eq := by rw [order64 hx hy, cmp_eq h]
theorem o64_gt {x y : Nat} (hx : Num64 x) (hy : Num64 y) (h : i64 y < i64 x) : F64.order x y = some .gt := by rw [order64 hx hy, cmp_gt h]

/-- float64(x): the same float, as one of 64 bits. -/
theorem widen {x : Nat} (hx : Num32 x) : ∃ r, Go.floatToFloatBits .f32 x .f64 = some r ∧ Num64 r ∧ Up (i32 x) (i64 r) := by
  have hr := i32_range hx
  by_cases h : x % 2147483648 < 2139095040
  · obtain ⟨w, h1, h2, h3, h4, h5⟩ := widen_fin x (by rw [sw32, in32]; exact h)
    rw [sw64, in64] at h3
    have hw : w < 18446744073709551616 := h2
    refine ⟨w, h1, ⟨hw, by omega⟩, Or.inr (Or.inr ?_)⟩
    have hx1 := hx.1
    have a1 : -I < i32 x ∧ i32 x < I := by rw [i32_eq x hx1]; unfold I; split <;> omega
    have a2 : -J < i64 w ∧ i64 w < J := by rw [i64_eq w hw]; unfold J; split <;> omega
    exact ⟨a1.1, a1.2, a2.1, a2.2, h4⟩
  · have h' : x % 2147483648 = 2139095040 := by have := hx.2; omega
    have hi := widen_inf x (by rw [sw32, in32]; exact h')
    have hx1 := hx.1
    refine ⟨_, hi, ?_, ?_⟩
    · rw [in64]; unfold Format.word; rw [sw64]
      constructor <;> split <;> omega
    · rw [in64]; unfold Format.word; rw [sw64, sw32]
      by_cases hs : x < 2147483648
      · left
        have e1 : (x / 2147483648 % 2 == 1) = false := by simp; omega
        rw [e1]
        refine ⟨by rw [i32_eq x hx1, if_pos hs]; unfold I; omega, by rw [i64_eq _ (by simp)]; simp [J]⟩
      · right; left
        have e1 : (x / 2147483648 % 2 == 1) = true := by simp; omega
        rw [e1]
        refine ⟨by rw [i32_eq x hx1, if_neg hs]; unfold I; omega, by rw [i64_eq _ (by simp)]; simp [J]⟩

/-- float32(x) of a float64 between the greatest float32 and its negative: a float32 next to it. -/
theorem narrow {x : Nat} (hx : Num64 x) (h1 : FLe (-(I - 1)) (i64 x)) (h2 : FGe (I - 1) (i64 x)) :
    ∃ r, Go.floatToFloatBits .f64 x .f32 = some r ∧ Num32 r ∧ -I < i32 r ∧ i32 r < I ∧ (∀ i, -I ≤ i → i ≤ I → FLe i (i64 x) → i ≤ i32 r) ∧ (∀ i, -I ≤ i → i ≤ I → FGe i (i64 x) → i32 r ≤ i) := by
  have hI := I_pos
  have hU : (0 : Int) < (U : Int) := by exact_mod_cast U_pos
  have hj1 : i64 x ≠ J := by
    intro h
    rcases h2 with h2 | h2 | h2
    · omega
    · rw [h] at h2; revert h2; decide
    · exact h2.2.1 h
  have hj2 : i64 x ≠ -J := by
    intro h
    rcases h1 with h1 | h1 | h1
    · omega
    · exact hj1 h1
    · exact h1.2.1 h
  have b1 : v32 (-(I - 1)) * (U : Int) ≤ v64 (i64 x) := by
    rcases h1 with h1 | h1 | h1
    · omega
    · exact absurd h1 hj1
    · exact h1.2.2
  have b2 : v64 (i64 x) ≤ v32 (I - 1) * (U : Int) := by
    rcases h2 with h2 | h2 | h2
    · omega
    · exact absurd h2 hj2
    · exact h2.2.2
  have hfin : x % double.signWeight < double.infRung := by
    rw [sw64, in64]
    have := hx.2
    have hx1 := hx.1
    rw [i64_eq x hx1] at hj1 hj2
    unfold J at hj1 hj2
    split at hj1 <;> omega
  have hv : v64 (i64 x) = sgn (x / double.signWeight % 2 == 1) (val double.binade (x % double.signWeight)) := sval_sgn _ _ _
  have hI1 : v32 (I - 1) = (val single.binade (single.infRung - 1) : Int) := by
    rw [in32]; exact sval_nat _ _
  rw [v32_neg, hI1, hv, Int.neg_mul] at b1
  rw [hI1, hv] at b2
  have hle : val double.binade (x % double.signWeight) ≤ val single.binade (single.infRung - 1) * U := by
    generalize val single.binade (single.infRung - 1) = M at *
    generalize val double.binade (x % double.signWeight) = X at *
    have e0 : ∀ n, sgn false n = (n : Int) := fun n => rfl
    have e1 : ∀ n, sgn true n = -(n : Int) := fun n => rfl
    cases hp : (x / double.signWeight % 2 == 1)
    · rw [hp, e0] at b2; exact_mod_cast b2
    · rw [hp, e1] at b1
      have : (X : Int) ≤ (M : Int) * (U : Int) := by omega
      exact_mod_cast this
  obtain ⟨w, c1, c2, c3, c4, N, D, hD, hn, hs⟩ := narrow_fin x hfin hle
  have hw : w < 4294967296 := c2
  have hwr : i32 w = sgn (x / double.signWeight % 2 == 1) (w % single.signWeight) := by unfold i32 idx; rw [c4]
  have lo : ∀ s, val single.binade s * U ≤ val double.binade (x % double.signWeight) → s ≤ w % single.signWeight := by
    intro s h
    apply near_lo hB32 hD hn
    apply Nat.le_of_mul_le_mul_right _ U_pos
    rw [hs, Nat.mul_right_comm]
    exact Nat.mul_le_mul_right _ h
  have hi : ∀ s, val double.binade (x % double.signWeight) ≤ val single.binade s * U → w % single.signWeight ≤ s := by
    intro s h
    apply near_hi hB32 hD hn
    apply Nat.le_of_mul_le_mul_right _ U_pos
    rw [hs, Nat.mul_right_comm _ D]
    exact Nat.mul_le_mul_right _ h
  rw [sw32, in32] at c3
  refine ⟨w, c1, ⟨hw, by omega⟩, ?_, ?_, ?_, ?_⟩
  · rw [i32_eq w hw]; unfold I; split <;> omega
  · rw [i32_eq w hw]; unfold I; split <;> omega
  · intro i hi1 hi2 h
    rcases h with h | h | ⟨_, _, h⟩
    · rw [i32_eq w hw]; unfold I at *; split <;> omega
    · exact absurd h hj1
    · rw [hv] at h
      rw [hwr]
      generalize x % double.signWeight = rx at *
      cases hp : (x / double.signWeight % 2 == 1)
      · rw [hp] at h; simp only [sgn] at h ⊢
        by_cases hi0 : i < 0
        · simp; omega
        · obtain ⟨s, rfl⟩ : ∃ s : Nat, i = s := ⟨i.toNat, by omega⟩
          have e : v32 (s : Int) = (val single.binade s : Int) := sval_nat _ _
          rw [e] at h
          have := lo s (by simp at h; exact_mod_cast h)
          simp; omega
      · rw [hp] at h; simp only [sgn, if_true] at h ⊢
        by_cases hi0 : 0 < i
        · exfalso
          have : 0 < v32 i * (U : Int) := Int.mul_pos (v32_pos.2 hi0) hU
          omega
        · obtain ⟨s, rfl⟩ : ∃ s : Nat, i = -(s : Int) := ⟨(-i).toNat, by omega⟩
          have e : v32 (s : Int) = (val single.binade s : Int) := sval_nat _ _
          rw [v32_neg, e, Int.neg_mul] at h
          have h3 : (val double.binade rx : Int) ≤ (val single.binade s : Int) * (U : Int) := by omega
          have := hi s (by exact_mod_cast h3)
          omega
  · intro i hi1 hi2 h
    rcases h with h | h | ⟨_, _, h⟩
    · rw [i32_eq w hw]; unfold I at *; split <;> omega
    · exact absurd h hj2
    · rw [hv] at h
      rw [hwr]
      generalize x % double.signWeight = rx at *
      cases hp : (x / double.signWeight % 2 == 1)
      · rw [hp] at h; simp only [sgn] at h ⊢
        by_cases hi0 : i < 0
        · exfalso
          have : v32 i * (U : Int) < 0 := Int.mul_neg_of_neg_of_pos (v32_neg_iff.2 hi0) hU
          simp at h; omega
        · obtain ⟨s, rfl⟩ : ∃ s : Nat, i = s := ⟨i.toNat, by omega⟩
          have e : v32 (s : Int) = (val single.binade s : Int) := sval_nat _ _
          rw [e] at h
          have := hi s (by simp at h; exact_mod_cast h)
          simp; omega
      · rw [hp] at h; simp only [sgn, if_true] at h ⊢
        by_cases hi0 : 0 < i
        · omega
        · obtain ⟨s, rfl⟩ : ∃ s : Nat, i = -(s : Int) := ⟨(-i).toNat, by omega⟩
          have e : v32 (s : Int) = (val single.binade s : Int) := sval_nat _ _
          rw [v32_neg, e, Int.neg_mul] at h
          have h3 : (val single.binade s : Int) * (U : Int) ≤ (val double.binade rx : Int) := by omega
          have := lo s (by exact_mod_cast h3)
          omega
end Hedge
