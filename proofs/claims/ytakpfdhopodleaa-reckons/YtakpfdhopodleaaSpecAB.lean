import Derived.Test.YtakpfdhopodleaaFloats
namespace Hedge
open Ieee
set_option linter.unusedSimpArgs false
set_option linter.unusedVariables false

/-! Floats of 32 bits by their indexes: -I to I. -/
def I : Int := 2139095040
def J : Int := 9218868437227405312
def v32 (i : Int) : Int := sval single.binade i
def v64 (j : Int) : Int := sval double.binade j

theorem hB32 : 0 < single.binade := Nat.two_pow_pos _
theorem hB64 : 0 < double.binade := Nat.two_pow_pos _
theorem v32_lt {i j : Int} : v32 i < v32 j ↔ i < j := sval_lt_iff _ hB32
theorem v32_le {i j : Int} : v32 i ≤ v32 j ↔ i ≤ j := sval_le_iff _ hB32
theorem v64_lt {i j : Int} : v64 i < v64 j ↔ i < j := sval_lt_iff _ hB64
theorem v64_le {i j : Int} : v64 i ≤ v64 j ↔ i ≤ j := sval_le_iff _ hB64
theorem v32_zero : v32 0 = 0 := sval_zero _
theorem v32_neg (i : Int) : v32 (-i) = -v32 i := sval_neg _ i
theorem v64_zero : v64 0 = 0 := sval_zero _
theorem v64_neg (i : Int) : v64 (-i) = -v64 i := sval_neg _ i
theorem v32_pos {i : Int} : 0 < v32 i ↔ 0 < i := by have := @v32_lt 0 i; rw [v32_zero] at this; exact this
theorem v32_neg_iff {i : Int} : v32 i < 0 ↔ i < 0 := by have := @v32_lt i 0; rw [v32_zero] at this; exact this
theorem v32_nn {i : Int} : 0 ≤ v32 i ↔ 0 ≤ i := by have := @v32_neg_iff i; omega
theorem v32_eq0 {i : Int} : v32 i = 0 ↔ i = 0 := by have := @v32_neg_iff i; have := @v32_pos i; omega
theorem v64_nn {i : Int} : 0 ≤ v64 i ↔ 0 ≤ i := by have := @v64_le 0 i; rw [v64_zero] at this; exact this

/-! The greatest index that meets a test, which is met by all below one that meets it. -/
def bisect (p : Int → Bool) : Nat → Int → Int
  | 0, base => base
  | n + 1, base => if p (base + (2 ^ n : Nat)) then bisect p n (base + (2 ^ n : Nat)) else bisect p n base

theorem bisect_lt (p : Int → Bool) : ∀ (n : Nat) (base : Int), bisect p n base < base + (2 ^ n : Nat)
  | 0, base => by simp [bisect]; omega
  | n + 1, base => by
    have e : (2 ^ (n + 1) : Nat) = 2 ^ n + 2 ^ n := by rw [Nat.pow_succ]; omega
    have hpos := Nat.two_pow_pos n
    unfold bisect
    split
    · have := bisect_lt p n (base + (2 ^ n : Nat)); rw [e, Int.natCast_add]; omega
    · have := bisect_lt p n base; rw [e, Int.natCast_add]; omega

theorem bisect_spec (p : Int → Bool) (hp : ∀ i j, i ≤ j → p j = true → p i = true) : ∀ (n : Nat) (base : Int), p base = true →
    base ≤ bisect p n base ∧ (∀ i, i < base + (2 ^ n : Nat) → (p i = true ↔ i ≤ bisect p n base))
  | 0, base, h => by
    refine ⟨Int.le_refl _, fun i hi => ?_⟩
    simp only [bisect]
    have hi' : i ≤ base := by simp at hi; omega
    exact ⟨fun _ => hi', fun _ => hp i base hi' h⟩
  | n + 1, base, h => by
    have e : (2 ^ (n + 1) : Nat) = 2 ^ n + 2 ^ n := by rw [Nat.pow_succ]; omega
    have hpos := Nat.two_pow_pos n
    unfold bisect
    by_cases hc : p (base + (2 ^ n : Nat)) = true
    · rw [if_pos hc]
      obtain ⟨h1, h2⟩ := bisect_spec p hp n (base + (2 ^ n : Nat)) hc
      refine ⟨by omega, fun i hi => ?_⟩
      rw [e] at hi
      exact h2 i (by rw [Int.natCast_add] at hi; omega)
    · rw [if_neg hc]
      obtain ⟨h1, h2⟩ := bisect_spec p hp n base h
      refine ⟨h1, fun i hi => ?_⟩
      by_cases hi2 : i < base + (2 ^ n : Nat)
      · exact h2 i hi2
      · constructor
        · intro hpi; exact absurd (hp _ i (by omega) hpi) hc
        · intro hle
          have h3 := (h2 (base + (2 ^ n : Nat) - 1) (by omega)).2
          exfalso
          by_cases h4 : base + (2 ^ n : Nat) ≤ bisect p n base
          · have h5 := bisect_lt p n base
            omega
          · omega

/-- The greatest index from -I to I that meets p (and all below do). -/
def topI (p : Int → Bool) : Int := bisect (fun i => decide (i ≤ -I) || (decide (i ≤ I) && p i)) 32 (-I)

theorem topI_spec (p : Int → Bool) (hp : ∀ i j, -I < i → i ≤ j → j ≤ I → p j = true → p i = true) :
    -I ≤ topI p ∧ topI p ≤ I ∧ ∀ i, -I < i → i ≤ I → (p i = true ↔ i ≤ topI p) := by
  have hm : ∀ i j, i ≤ j → (decide (j ≤ -I) || (decide (j ≤ I) && p j)) = true → (decide (i ≤ -I) || (decide (i ≤ I) && p i)) = true := by
    intro i j hij h
    simp only [Bool.or_eq_true, Bool.and_eq_true, decide_eq_true_eq] at h ⊢
    by_cases hi : i ≤ -I
    · exact Or.inl hi
    · right
      rcases h with h | ⟨h1, h2⟩
      · omega
      · exact ⟨by omega, hp i j (by omega) hij h1 h2⟩
  obtain ⟨h1, h2⟩ := bisect_spec (fun i => decide (i ≤ -I) || (decide (i ≤ I) && p i)) hm 32 (-I) (by simp)
  have h3 := bisect_lt (fun i => decide (i ≤ -I) || (decide (i ≤ I) && p i)) 32 (-I)
  change -I ≤ topI p at h1
  change ∀ i, i < -I + ((2 ^ 32 : Nat) : Int) → ((decide (i ≤ -I) || (decide (i ≤ I) && p i)) = true ↔ i ≤ topI p) at h2
  change topI p < _ at h3
  refine ⟨h1, ?_, ?_⟩
  · have := (h2 (topI p) h3).2 (Int.le_refl _)
    simp only [Bool.or_eq_true, Bool.and_eq_true, decide_eq_true_eq] at this
    have hI : (0 : Int) < I := by decide
    rcases this with h | h
    · omega
    · exact h.1
  · intro i hi1 hi2
    rw [← h2 i (by unfold I at *; omega)]
    simp only [Bool.or_eq_true, Bool.and_eq_true, decide_eq_true_eq]
    exact ⟨fun h => Or.inr ⟨hi2, h⟩, fun h => by rcases h with h | h; · omega
                                                 · exact h.2⟩

/-- An index that stands to all others as the test says is the one that is found. -/
theorem topI_eq {p : Int → Bool} {k : Int} (h1 : -I ≤ k) (h2 : k ≤ I) (h : ∀ i, -I < i → i ≤ I → (p i = true ↔ i ≤ k)) : topI p = k := by
  obtain ⟨a, b, c⟩ := topI_spec p (by
    intro i j hi hij hj hpj
    exact (h i hi (by omega)).2 (by have := (h j (by omega) hj).1 hpj; omega))
  have e1 : k ≤ topI p := by
    by_cases hk : -I < k
    · exact (c k hk h2).1 ((h k hk h2).2 (Int.le_refl _))
    · omega
  have e2 : topI p ≤ k := by
    by_cases hk : -I < topI p
    · exact (h _ hk b).1 ((c _ hk b).2 (Int.le_refl _))
    · omega
  omega

theorem I_pos : (0 : Int) < I := by decide

/-- Z / D (in units), rounded down; rounded up. -/
def dnQ (Z : Int) (D : Nat) : Int := topI (fun i => decide (i < I) && decide (v32 i * (D : Int) ≤ Z))
def upQ (Z : Int) (D : Nat) : Int := -dnQ (-Z) D

theorem dnQ_spec (Z : Int) (D : Nat) : -I ≤ dnQ Z D ∧ dnQ Z D < I ∧ ∀ i, -I < i → i < I → (v32 i * (D : Int) ≤ Z ↔ i ≤ dnQ Z D) := by
  have hI := I_pos
  obtain ⟨a, b, c⟩ := topI_spec (fun i => decide (i < I) && decide (v32 i * (D : Int) ≤ Z)) (by
    intro i j hi hij hj h
    simp only [Bool.and_eq_true, decide_eq_true_eq] at h ⊢
    refine ⟨by omega, Int.le_trans ?_ h.2⟩
    exact Int.mul_le_mul_of_nonneg_right (v32_le.2 hij) (Int.natCast_nonneg _))
  change -I ≤ dnQ Z D at a
  change dnQ Z D ≤ I at b
  have c' : ∀ i, -I < i → i ≤ I → ((decide (i < I) && decide (v32 i * (D : Int) ≤ Z)) = true ↔ i ≤ dnQ Z D) := c
  have h3 : dnQ Z D < I := by
    apply Int.lt_of_not_ge
    intro he
    have := (c' I (by omega) (Int.le_refl _)).2 (by omega)
    simp at this
  refine ⟨a, h3, fun i h1 h2 => ?_⟩
  rw [← c' i h1 (by omega)]
  simp [h2]

theorem dnQ_eq {Z : Int} {D : Nat} {k : Int} (h1 : -I ≤ k) (h2 : k < I) (h : ∀ i, -I < i → i < I → (v32 i * (D : Int) ≤ Z ↔ i ≤ k)) : dnQ Z D = k := by
  apply topI_eq h1 (by omega)
  intro i hi1 hi2
  simp only [Bool.and_eq_true, decide_eq_true_eq]
  by_cases hi : i < I
  · rw [← h i hi1 hi]; exact ⟨fun h => h.2, fun h => ⟨hi, h⟩⟩
  · exact ⟨fun h => absurd h.1 hi, fun h => by omega⟩

theorem upQ_spec (Z : Int) (D : Nat) : -I < upQ Z D ∧ upQ Z D ≤ I ∧ ∀ i, -I < i → i < I → (Z ≤ v32 i * (D : Int) ↔ upQ Z D ≤ i) := by
  obtain ⟨a, b, c⟩ := dnQ_spec (-Z) D
  unfold upQ
  refine ⟨by omega, by omega, fun i h1 h2 => ?_⟩
  have := c (-i) (by omega) (by omega)
  rw [v32_neg, Int.neg_mul] at this
  omega

theorem upQ_eq {Z : Int} {D : Nat} {k : Int} (h1 : -I < k) (h2 : k ≤ I) (h : ∀ i, -I < i → i < I → (Z ≤ v32 i * (D : Int) ↔ k ≤ i)) : upQ Z D = k := by
  have : dnQ (-Z) D = -k := dnQ_eq (by omega) (by omega) (fun i hi1 hi2 => by
    have := h (-i) (by omega) (by omega)
    rw [v32_neg, Int.neg_mul] at this
    omega)
  unfold upQ; omega

/-- What the operations do with ends, rounded down (D) and up (U). -/
def addD (i j : Int) : Int := if i = -I ∨ j = -I then -I else if i = I ∨ j = I then I else dnQ (v32 i + v32 j) 1
def addU (i j : Int) : Int := -addD (-i) (-j)
def mulD (i j : Int) : Int :=
  if i = 0 ∨ j = 0 then 0 else if i = I ∨ i = -I ∨ j = I ∨ j = -I then (if (decide (i < 0)) = (decide (j < 0)) then I else -I) else dnQ (v32 i * v32 j) W
def mulU (i j : Int) : Int := -mulD (-i) j
def divD (i j : Int) : Int :=
  if j = I ∨ j = -I ∨ i = 0 then 0 else if i = I ∨ i = -I then (if (decide (i < 0)) = (decide (j < 0)) then I else -I)
  else dnQ (if j < 0 then -(v32 i * (W : Int)) else v32 i * (W : Int)) (v32 j).natAbs
def divU (i j : Int) : Int := -divD (-i) j
def dnS (i : Int) : Int := topI (fun j => decide (j < I) && (decide (j < 0) || decide (v32 j * v32 j ≤ v32 i * (W : Int))))
def sqD (i : Int) : Int := if i = I then I else dnS i
def sqU (i : Int) : Int := if i = I then I else if v32 (dnS i) * v32 (dnS i) = v32 i * (W : Int) then dnS i else dnS i + 1

/-- Float32 'i' is not above float64 'j'. -/
def FLe (i j : Int) : Prop := i = -I ∨ j = J ∨ (i ≠ I ∧ j ≠ -J ∧ v32 i * (U : Int) ≤ v64 j)
def FGe (i j : Int) : Prop := i = I ∨ j = -J ∨ (i ≠ -I ∧ j ≠ J ∧ v64 j ≤ v32 i * (U : Int))
/-- Float32 'i' is float64 'u'. -/
def Up (i u : Int) : Prop := (i = I ∧ u = J) ∨ (i = -I ∧ u = -J) ∨ (-I < i ∧ i < I ∧ -J < u ∧ u < J ∧ v64 u = v32 i * (U : Int))

theorem up_le {i u j : Int} (h : Up i u) (h1 : -J ≤ j) (h2 : j ≤ J) : (u ≤ j ↔ FLe i j) ∧ (j ≤ u ↔ FGe i j) := by
  have hI := I_pos
  have hJ : (0 : Int) < J := by decide
  unfold FLe FGe
  rcases h with ⟨rfl, rfl⟩ | ⟨rfl, rfl⟩ | ⟨a, b, c, d, e⟩
  · constructor <;> constructor <;> intro h <;> omega
  · constructor <;> constructor <;> intro h <;> omega
  · rw [← e]
    by_cases hj1 : j = J
    · subst hj1; constructor <;> constructor <;> intro h <;> omega
    · by_cases hj2 : j = -J
      · subst hj2; constructor <;> constructor <;> intro h <;> omega
      · rw [v64_le, v64_le]
        constructor <;> constructor <;> intro h <;> omega

/-- A float64, rounded down; up. -/
def dn64 (j : Int) : Int := topI (fun i => decide (j = J) || (decide (i ≠ I) && decide (j ≠ -J) && decide (v32 i * (U : Int) ≤ v64 j)))
def up64 (j : Int) : Int := -dn64 (-j)

theorem dn64_eq {j k : Int} (h1 : -I ≤ k) (h2 : k ≤ I) (h : ∀ i, -I < i → i ≤ I → (FLe i j ↔ i ≤ k)) : dn64 j = k := by
  apply topI_eq h1 h2
  intro i a b
  rw [← h i a b]
  unfold FLe
  simp only [Bool.or_eq_true, Bool.and_eq_true, decide_eq_true_eq]
  constructor
  · rintro (h | ⟨⟨h, h'⟩, h''⟩)
    · exact Or.inr (Or.inl h)
    · exact Or.inr (Or.inr ⟨h, h', h''⟩)
  · rintro (h | h | ⟨h, h', h''⟩)
    · omega
    · exact Or.inl h
    · exact Or.inr ⟨⟨h, h'⟩, h''⟩

theorem dn64_spec (j : Int) : -I ≤ dn64 j ∧ dn64 j ≤ I ∧ ∀ i, -I ≤ i → i ≤ I → (FLe i j ↔ i ≤ dn64 j) := by
  have hU : (0 : Int) < (U : Int) := by exact_mod_cast U_pos
  obtain ⟨a, b, c⟩ := topI_spec (fun i => decide (j = J) || (decide (i ≠ I) && decide (j ≠ -J) && decide (v32 i * (U : Int) ≤ v64 j))) (by
    intro i i' hi hij hj h
    simp only [Bool.or_eq_true, Bool.and_eq_true, decide_eq_true_eq] at h ⊢
    rcases h with h | ⟨⟨h, h'⟩, h''⟩
    · exact Or.inl h
    · exact Or.inr ⟨⟨by omega, h'⟩, Int.le_trans (Int.mul_le_mul_of_nonneg_right (v32_le.2 hij) (by omega)) h''⟩)
  refine ⟨a, b, fun i hi1 hi2 => ?_⟩
  by_cases hi : i = -I
  · subst hi; exact ⟨fun _ => a, fun _ => Or.inl rfl⟩
  · have := c i (by omega) hi2
    change _ ↔ i ≤ dn64 j at this
    rw [← this]
    unfold FLe
    simp only [Bool.or_eq_true, Bool.and_eq_true, decide_eq_true_eq]
    constructor
    · rintro (h | h | ⟨h, h', h''⟩)
      · omega
      · exact Or.inl h
      · exact Or.inr ⟨⟨h, h'⟩, h''⟩
    · rintro (h | ⟨⟨h, h'⟩, h''⟩)
      · exact Or.inr (Or.inl h)
      · exact Or.inr (Or.inr ⟨h, h', h''⟩)

theorem FLe_neg {i j : Int} : FLe (-i) (-j) ↔ FGe i j := by
  unfold FLe FGe
  rw [v32_neg, v64_neg, Int.neg_mul]
  constructor <;> rintro (h | h | ⟨h1, h2, h3⟩)
  · exact Or.inl (by omega)
  · exact Or.inr (Or.inl (by omega))
  · exact Or.inr (Or.inr ⟨by omega, by omega, by omega⟩)
  · exact Or.inl (by omega)
  · exact Or.inr (Or.inl (by omega))
  · exact Or.inr (Or.inr ⟨by omega, by omega, by omega⟩)

theorem up64_spec (j : Int) : -I ≤ up64 j ∧ up64 j ≤ I ∧ ∀ i, -I ≤ i → i ≤ I → (FGe i j ↔ up64 j ≤ i) := by
  obtain ⟨a, b, c⟩ := dn64_spec (-j)
  unfold up64
  refine ⟨by omega, by omega, fun i h1 h2 => ?_⟩
  rw [← FLe_neg, c (-i) (by omega) (by omega)]; omega
end Hedge
namespace Hedge
open Ieee
set_option linter.unusedSimpArgs false
set_option linter.unusedVariables false

/-- The word of an index (0 without a minus). -/
def w32 (k : Int) : Nat := if k < 0 then 2147483648 + k.natAbs else k.natAbs

abbrev F32 := Go.FloatKind.f32.format
abbrev F64 := Go.FloatKind.f64.format

/-- 'x' is a word of float32 that is no NaN. -/
def Num32 (x : Nat) : Prop := x < 4294967296 ∧ x % 2147483648 ≤ 2139095040
def Num64 (x : Nat) : Prop := x < 18446744073709551616 ∧ x % 9223372036854775808 ≤ 9218868437227405312
def i32 (x : Nat) : Int := idx single x
def i64 (x : Nat) : Int := idx double x

theorem i32_eq (x : Nat) (hx : x < 4294967296) : i32 x = if x < 2147483648 then (x : Int) else -((x : Int) - 2147483648) := by
  unfold i32 idx sgn
  rw [sw32]
  by_cases h : x < 2147483648
  · have e1 : x / 2147483648 = 0 := Nat.div_eq_of_lt h
    have e2 : x % 2147483648 = x := Nat.mod_eq_of_lt h
    rw [e1, e2, if_pos h]; simp
  · have e1 : x / 2147483648 = 1 := by omega
    have e2 : x % 2147483648 = x - 2147483648 := by omega
    rw [e1, e2, if_neg h]; simp; omega

theorem i64_eq (x : Nat) (hx : x < 18446744073709551616) : i64 x = if x < 9223372036854775808 then (x : Int) else -((x : Int) - 9223372036854775808) := by
  unfold i64 idx sgn
  rw [sw64]
  by_cases h : x < 9223372036854775808
  · have e1 : x / 9223372036854775808 = 0 := Nat.div_eq_of_lt h
    have e2 : x % 9223372036854775808 = x := Nat.mod_eq_of_lt h
    rw [e1, e2, if_pos h]; simp
  · have e1 : x / 9223372036854775808 = 1 := by omega
    have e2 : x % 9223372036854775808 = x - 9223372036854775808 := by omega
    rw [e1, e2, if_neg h]; simp; omega

theorem i32_range {x : Nat} (h : Num32 x) : -I ≤ i32 x ∧ i32 x ≤ I := by
  obtain ⟨h1, h2⟩ := h
  rw [i32_eq x h1]; unfold I
  split <;> omega
theorem i64_range {x : Nat} (h : Num64 x) : -J ≤ i64 x ∧ i64 x ≤ J := by
  obtain ⟨h1, h2⟩ := h
  rw [i64_eq x h1]; unfold J
  split <;> omega

theorem num_w32 {k : Int} (h1 : -I ≤ k) (h2 : k ≤ I) : Num32 (w32 k) := by
  unfold Num32 w32 I at *
  split <;> omega
theorem i32_w32 {k : Int} (h1 : -I ≤ k) (h2 : k ≤ I) : i32 (w32 k) = k := by
  rw [i32_eq _ (num_w32 h1 h2).1]
  unfold w32 I at *
  split <;> split <;> omega
/-- A word is that of its index, but for the 0 with a minus. -/
theorem w32_i32 {x : Nat} (h : Num32 x) (h0 : x ≠ 2147483648) : w32 (i32 x) = x := by
  obtain ⟨h1, h2⟩ := h
  rw [i32_eq x h1]
  unfold w32
  split <;> split <;> omega

theorem order32 {x y : Nat} (hx : Num32 x) (hy : Num32 y) : F32.order x y = some (compare (i32 x) (i32 y)) :=
  order_spec single good_single x y (by rw [sw32, in32]; exact hx.2) (by rw [sw32, in32]; exact hy.2)
theorem order64 {x y : Nat} (hx : Num64 x) (hy : Num64 y) : F64.order x y = some (compare (i64 x) (i64 y)) :=
  order_spec double good_double x y (by rw [sw64, in64]; exact hx.2) (by rw [sw64, in64]; exact hy.2)
theorem order32_nan {x y : Nat} (h : 2139095040 < x % 2147483648 ∨ 2139095040 < y % 2147483648) : F32.order x y = none :=
  order_nan single good_single x y (by rw [sw32, in32]; exact h)

theorem cmp_lt {a b : Int} (h : a < b) : compare a b = .lt := by simp only [compare, compareOfLessAndEq, if_pos h]
theorem cmp_eq {a b : Int} (h : a = b) : compare a b = .eq := by subst h; simp [compare, compareOfLessAndEq]
theorem cmp_gt {a b : Int} (h : b < a) : compare a b = .gt := by
  simp only [compare, compareOfLessAndEq]; rw [if_neg (by omega), if_neg (by omega)]

theorem o32_lt {x y : Nat} (hx : Num32 x) (hy : Num32 y) (h : i32 x < i32 y) : F32.order x y = some .lt := by rw [order32 hx hy, cmp_lt h]
theorem o32_eq {x y : Nat} (hx : Num32 x) (hy : Num32 y) (h : i32 x = i32 y) : F32.order x y = some .eq := by rw [order32 hx hy, cmp_eq h]
theorem o32_gt {x y : Nat} (hx : Num32 x) (hy : Num32 y) (h : i32 y < i32 x) : F32.order x y = some .gt := by rw [order32 hx hy, cmp_gt h]
theorem o64_lt {x y : Nat} (hx : Num64 x) (hy : Num64 y) (h : i64 x < i64 y) : F64.order x y = some .lt := by rw [order64 hx hy, cmp_lt h]
theorem o64_eq {x y : Nat} (hx : Num64 x) (hy : Num64 y) (h : i64 x = i64 y) : F64.order x y = some .eq := by rw [order64 hx hy, cmp_eq h]
theorem o64_gt {x y : Nat} (hx : Num64 x) (hy : Num64 y) (h : i64 y < i64 x) : F64.order x y = some .gt := by rw [order64 hx hy, cmp_gt h]

/-- float64(x): the same float, as one of 64 bits. -/
theorem widen {x : Nat} (hx : Num32 x) : ∃ r, Go.floatToFloatBits .f32 x .f64 = some r ∧ Num64 r ∧ Up (i32 x) (i64 r) := by
  have hr := i32_range hx
  by_cases h : x % 2147483648 < 2139095040
  · obtain ⟨w, h1, h2, h3, h4, h5⟩ := widen_fin x (by rw [sw32, in32]; exact h)
    rw [sw64, in64] at h3
    have hw : w < 18446744073709551616 := h2
    refine ⟨w, h1, ⟨hw, by omega⟩, Or.inr (Or.inr ?_)⟩
    have hx1 := hx.1
    have a1 : -I < i32 x ∧ i32 x < I := by rw [i32_eq x hx1]; unfold I; split <;> omega
    have a2 : -J < i64 w ∧ i64 w < J := by rw [i64_eq w hw]; unfold J; split <;> omega
    exact ⟨a1.1, a1.2, a2.1, a2.2, h4⟩
  · have h' : x % 2147483648 = 2139095040 := by have := hx.2; omega
    have hi := widen_inf x (by rw [sw32, in32]; exact h')
    have hx1 := hx.1
    refine ⟨_, hi, ?_, ?_⟩
    · rw [in64]; unfold Format.word; rw [sw64]
      constructor <;> split <;> omega
    · rw [in64]; unfold Format.word; rw [sw64, sw32]
      by_cases hs : x < 2147483648
      · left
        have e1 : (x / 2147483648 % 2 == 1) = false := by simp; omega
        rw [e1]
        refine ⟨by rw [i32_eq x hx1, if_pos hs]; unfold I; omega, by rw [i64_eq _ (by simp)]; simp [J]⟩
      · right; left
        have e1 : (x / 2147483648 % 2 == 1) = true := by simp; omega
        rw [e1]
        refine ⟨by rw [i32_eq x hx1, if_neg hs]; unfold I; omega, by rw [i64_eq _ (by simp)]; simp [J]⟩

/-- float32(x) of a float64 between the greatest float32 and its negative: a float32 next to it. -/
theorem narrow {x : Nat} (hx : Num64 x) (h1 : FLe (-(I - 1)) (i64 x)) (h2 : FGe (I - 1) (i64 x)) :
    ∃ r, Go.floatToFloatBits .f64 x .f32 = some r ∧ Num32 r ∧ -I < i32 r ∧ i32 r < I ∧ (∀ i, -I ≤ i → i ≤ I → FLe i (i64 x) → i ≤ i32 r) ∧ (∀ i, -I ≤ i → i ≤ I → FGe i (i64 x) → i32 r ≤ i) := by
  have hI := I_pos
  have hU : (0 : Int) < (U : Int) := by exact_mod_cast U_pos
  have hj1 : i64 x ≠ J := by
    intro h
    rcases h2 with h2 | h2 | h2
    · omega
    · rw [h] at h2; revert h2; decide
    · exact h2.2.1 h
  have hj2 : i64 x ≠ -J := by
    intro h
    rcases h1 with h1 | h1 | h1
    · omega
    · exact hj1 h1
    · exact h1.2.1 h
  have b1 : v32 (-(I - 1)) * (U : Int) ≤ v64 (i64 x) := by
    rcases h1 with h1 | h1 | h1
    · omega
    · exact absurd h1 hj1
    · exact h1.2.2
  have b2 : v64 (i64 x) ≤ v32 (I - 1) * (U : Int) := by
    rcases h2 with h2 | h2 | h2
    · omega
    · exact absurd h2 hj2
    · exact h2.2.2
  have hfin : x % double.signWeight < double.infRung := by
    rw [sw64, in64]
    have := hx.2
    have hx1 := hx.1
    rw [i64_eq x hx1] at hj1 hj2
    unfold J at hj1 hj2
    split at hj1 <;> omega
  have hv : v64 (i64 x) = sgn (x / double.signWeight % 2 == 1) (val double.binade (x % double.signWeight)) := sval_sgn _ _ _
  have hI1 : v32 (I - 1) = (val single.binade (single.infRung - 1) : Int) := by
    rw [in32]; exact sval_nat _ _
  rw [v32_neg, hI1, hv, Int.neg_mul] at b1
  rw [hI1, hv] at b2
  have hle : val double.binade (x % double.signWeight) ≤ val single.binade (single.infRung - 1) * U := by
    generalize val single.binade (single.infRung - 1) = M at *
    generalize val double.binade (x % double.signWeight) = X at *
    have e0 : ∀ n, sgn false n = (n : Int) := fun n => rfl
    have e1 : ∀ n, sgn true n = -(n : Int) := fun n => rfl
    cases hp : (x / double.signWeight % 2 == 1)
    · rw [hp, e0] at b2; exact_mod_cast b2
    · rw [hp, e1] at b1
      have : (X : Int) ≤ (M : Int) * (U : Int) := by omega
      exact_mod_cast this
  obtain ⟨w, c1, c2, c3, c4, N, D, hD, hn, hs⟩ := narrow_fin x hfin hle
  have hw : w < 4294967296 := c2
  have hwr : i32 w = sgn (x / double.signWeight % 2 == 1) (w % single.signWeight) := by unfold i32 idx; rw [c4]
  have lo : ∀ s, val single.binade s * U ≤ val double.binade (x % double.signWeight) → s ≤ w % single.signWeight := by
    intro s h
    apply near_lo hB32 hD hn
    apply Nat.le_of_mul_le_mul_right _ U_pos
    rw [hs, Nat.mul_right_comm]
    exact Nat.mul_le_mul_right _ h
  have hi : ∀ s, val double.binade (x % double.signWeight) ≤ val single.binade s * U → w % single.signWeight ≤ s := by
    intro s h
    apply near_hi hB32 hD hn
    apply Nat.le_of_mul_le_mul_right _ U_pos
    rw [hs, Nat.mul_right_comm _ D]
    exact Nat.mul_le_mul_right _ h
  rw [sw32, in32] at c3
  refine ⟨w, c1, ⟨hw, by omega⟩, ?_, ?_, ?_, ?_⟩
  · rw [i32_eq w hw]; unfold I; split <;> omega
  · rw [i32_eq w hw]; unfold I; split <;> omega
  · intro i hi1 hi2 h
    rcases h with h | h | ⟨_, _, h⟩
    · rw [i32_eq w hw]; unfold I at *; split <;> omega
    · exact absurd h hj1
    · rw [hv] at h
      rw [hwr]
      generalize x % double.signWeight = rx at *
      cases hp : (x / double.signWeight % 2 == 1)
      · rw [hp] at h; simp only [sgn] at h ⊢
        by_cases hi0 : i < 0
        · simp; omega
        · obtain ⟨s, rfl⟩ : ∃ s : Nat, i = s := ⟨i.toNat, by omega⟩
          have e : v32 (s : Int) = (val single.binade s : Int) := sval_nat _ _
          rw [e] at h
          have := lo s (by simp at h; exact_mod_cast h)
          simp; omega
      · rw [hp] at h; simp only [sgn, if_true] at h ⊢
        by_cases hi0 : 0 < i
        · exfalso
          have : 0 < v32 i * (U : Int) := Int.mul_pos (v32_pos.2 hi0) hU
          omega
        · obtain ⟨s, rfl⟩ : ∃ s : Nat, i = -(s : Int) := ⟨(-i).toNat, by omega⟩
          have e : v32 (s : Int) = (val single.binade s : Int) := sval_nat _ _
          rw [v32_neg, e, Int.neg_mul] at h
          have h3 : (val double.binade rx : Int) ≤ (val single.binade s : Int) * (U : Int) := by omega
          have := hi s (by exact_mod_cast h3)
          omega
  · intro i hi1 hi2 h
    rcases h with h | h | ⟨_, _, h⟩
    · rw [i32_eq w hw]; unfold I at *; split <;> omega
    · exact absurd h hj2
    · rw [hv] at h
      rw [hwr]
      generalize x % double.signWeight = rx at *
      cases hp : (x / double.signWeight % 2 == 1)
      · rw [hp] at h; simp only [sgn] at h ⊢
        by_cases hi0 : i < 0
        · exfalso
          have : v32 i * (U : Int) < 0 := Int.mul_neg_of_neg_of_pos (v32_neg_iff.2 hi0) hU
          simp at h; omega
        · obtain ⟨s, rfl⟩ : ∃ s : Nat, i = s := ⟨i.toNat, by omega⟩
          have e : v32 (s : Int) = (val single.binade s : Int) := sval_nat _ _
          rw [e] at h
          have := hi s (by simp at h; exact_mod_cast h)
          simp; omega
      · rw [hp] at h; simp only [sgn, if_true] at h ⊢
        by_cases hi0 : 0 < i
        · omega
        · obtain ⟨s, rfl⟩ : ∃ s : Nat, i = -(s : Int) := ⟨(-i).toNat, by omega⟩
          have e : v32 (s : Int) = (val single.binade s : Int) := sval_nat _ _
          rw [v32_neg, e, Int.neg_mul] at h
          have h3 : (val single.binade s : Int) * (U : Int) ≤ (val double.binade rx : Int) := by omega
          have := lo s (by exact_mod_cast h3)
          omega
end Hedge
