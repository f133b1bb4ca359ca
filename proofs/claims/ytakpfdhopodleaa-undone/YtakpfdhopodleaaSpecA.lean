import Derived.Test.YtakpfdhopodleaaFloatH
namespace Hedge
open Ieee
set_option linter.unusedSimpArgs false
set_option linter.unusedVariables false

/-! Floats of 32 bits by their indexes: -I to I. -/
def I : Int := 2139095040
def J : Int := 9218868437227405312
def v32 (i : Int) : Int := sval single.binade i
def v64 (j : Int) : Int := sval double.binade j

theorem hB32 : 0 < single.binade := Nat.two_pow_pos _
theorem hB64 : 0 < double.binade := Nat.two_pow_pos _
theorem v32_lt {i j : Int} : v32 i < v32 j ↔ i < j := sval_lt_iff _ hB32
theorem v32_le {i j : Int} : v32 i ≤ v32 j ↔ i ≤ j := sval_le_iff _ hB32
theorem v64_lt {i j : Int} : v64 i < v64 j ↔ i < j := sval_lt_iff _ hB64
theorem v64_le {i j : Int} : v64 i ≤ v64 j ↔ i ≤ j := sval_le_iff _ hB64
theorem v32_zero : v32 0 = 0 := sval_zero _
theorem v32_neg (i : Int) : v32 (-i) = -v32 i := sval_neg _ i
theorem v64_zero : v64 0 = 0 := sval_zero _
theorem v64_neg (i : Int) : v64 (-i) = -v64 i := sval_neg _ i
theorem v32_pos {i : Int} : 0 < v32 i ↔ 0 < i := by have := @v32_lt 0 i; rw [v32_zero] at this; exact this
theorem v32_neg_iff {i : Int} : v32 i < 0 ↔ i < 0 := by have := @v32_lt i 0; rw [v32_zero] at this; exact this
theorem v32_nn {i : Int} : 0 ≤ v32 i ↔ 0 ≤ i := by have := @v32_neg_iff i; omega
theorem v32_eq0 {i : Int} : v32 i = 0 ↔ i = 0 := by have := @v32_neg_iff i; have := @v32_pos i; omega
theorem v64_nn {i : Int} : 0 ≤ v64 i ↔ 0 ≤ i := by have := @v64_le 0 i; rw [v64_zero] at this; exact this

/-! The greatest index that meets a test, which is met by all below one that meets it. -/
def bisect (p : Int → Bool) : Nat → Int → Int
  | 0, base => base
  | n + 1, base => if p (base + (2 ^ n : Nat)) then bisect p n (base + (2 ^ n : Nat)) else bisect p n base

theorem bisect_lt (p : Int → Bool) : ∀ (n : Nat) (base : Int), bisect p n base < base + (2 ^ n : Nat)
  | 0, base => by simp [bisect]; omega
  | n + 1, base => by
    have e : (2 ^ (n + 1) : Nat) = 2 ^ n + 2 ^ n := by rw [Nat.pow_succ]; omega
    have hpos := Nat.two_pow_pos n
    unfold bisect
    split
    · have := bisect_lt p n (base + (2 ^ n : Nat)); rw [e, Int.natCast_add]; omega
    · have := bisect_lt p n base; rw [e, Int.natCast_add]; omega

theorem bisect_spec (p : Int → Bool) (hp : ∀ i j, i ≤ j → p j = true → p i = true) : ∀ (n : Nat) (base : Int), p base = true →
    base ≤ bisect p n base ∧ (∀ i, i < base + (2 ^ n : Nat) → (p i = true ↔ i ≤ bisect p n base))
  | 0, base, h => by
    refine ⟨Int.le_refl _, fun i hi => ?_⟩
    simp only [bisect]
    have hi' : i ≤ base := by simp at hi; omega
    exact ⟨fun _ => hi', fun _ => hp i base hi' h⟩
  | n + 1, base, h => by
    have e : (2 ^ (n + 1) : Nat) = 2 ^ n + 2 ^ n := by rw [Nat.pow_succ]; omega
    have hpos := Nat.two_pow_pos n
    unfold bisect
    by_cases hc : p (base + (2 ^ n : Nat)) = true
    · rw [if_pos hc]
      obtain ⟨h1, h2⟩ := bisect_spec p hp n (base + (2 ^ n : Nat)) hc
      refine ⟨by omega, fun i hi => ?_⟩
      rw [e] at hi
      exact h2 i (by rw [Int.natCast_add] at hi; omega)
    · rw [if_neg hc]
      obtain ⟨h1, h2⟩ := bisect_spec p hp n base h
      refine ⟨h1, fun i hi => ?_⟩
      by_cases hi2 : i < base + (2 ^ n : Nat)
      · exact h2 i hi2
      · constructor
        · intro hpi; exact absurd (hp _ i (by omega) hpi) hc
        · intro hle
          have h3 := (h2 (base + (2 ^ n : Nat) - 1) (by omega)).2
          exfalso
          by_cases h4 : base + (2 ^ n : Nat) ≤ bisect p n base
          · have h5 := bisect_lt p n base
            omega
          · omega

/-- The greatest index from -I to I that meets p (and all below do). -/
def topI (p : Int → Bool) : Int := bisect (fun i => decide (i ≤ -I) || (decide (i ≤ I) && p i)) 32 (-I)

theorem topI_spec (p : Int → Bool) (hp : ∀ i j, -I < i → i ≤ j → j ≤ I → p j = true → p i = true) :
    -I ≤ topI p ∧ topI p ≤ I ∧ ∀ i, -I < i → i ≤ I → (p i = true ↔ i ≤ topI p) := by
  have hm : ∀ i j, i ≤ j → (decide (j ≤ -I) || (decide (j ≤ I) && p j)) = true → (decide (i ≤ -I) || (decide (i ≤ I) && p i)) = true := by
    intro i j hij h
    simp only [Bool.or_eq_true, Bool.and_eq_true, decide_eq_true_eq] at h ⊢
    by_cases hi : i ≤ -I
    · exact Or.inl hi
    · right
      rcases h with h | ⟨h1, h2⟩
      · omega
      · exact ⟨by omega, hp i j (by omega) hij h1 h2⟩
  obtain ⟨h1, h2⟩ := bisect_spec (fun i => decide (i ≤ -I) || (decide (i ≤ I) && p i)) hm 32 (-I) (by simp)
  have h3 := bisect_lt (fun i => decide (i ≤ -I) || (decide (i ≤ I) && p i)) 32 (-I)
  change -I ≤ topI p at h1
  change ∀ i, i < -I + ((2 ^ 32 : Nat) : Int) → ((decide (i ≤ -I) || (decide (i ≤ I) && p i)) = true ↔ i ≤ topI p) at h2
  change topI p < _ at h3
  refine ⟨h1, ?_, ?_⟩
  · have := (h2 (topI p) h3).2 (Int.le_refl _)
    simp only [Bool.or_eq_true, Bool.and_eq_true, decide_eq_true_eq] at this
    have hI : (0 : Int) < I := by decide
    rcases this with h | h
    · omega
    · exact h.1
  · intro i hi1 hi2
    rw [← h2 i (by unfold I at *; omega)]
    simp only [Bool.or_eq_true, Bool.and_eq_true, decide_eq_true_eq]
    exact ⟨fun h => Or.inr ⟨hi2, h⟩, fun h => by rcases h with h | h; · omega
                                                 · exact h.2⟩

/-- An index that stands to all others as the test says is the one that is found. -/
theorem topI_eq {p : Int → Bool} {k : Int} (h1 : -I ≤ k) (h2 : k ≤ I) (h : ∀ i, -I < i → i ≤ I → (p i = true ↔ i ≤ k)) : topI p = k := by
  obtain ⟨a, b, c⟩ := topI_spec p (by
    intro i j hi hij hj hpj
    exact (h i hi (by omega)).2 (by have := (h j (by omega) hj).1 hpj; omega))
  have e1 : k ≤ topI p := by
    by_cases hk : -I < k
    · exact (c k hk h2).1 ((h k hk h2).2 (Int.le_refl _))
    · omega
  have e2 : topI p ≤ k := by
    by_cases hk : -I < topI p
    · exact (h _ hk b).1 ((c _ hk b).2 (Int.le_refl _))
    · omega
  omega

theorem I_pos : (0 : Int) < I := by decide

/-- Z / D (in units), rounded down; rounded up. -/
def dnQ (Z : Int) (D : Nat) : Int := topI (fun i => decide (i < I) && decide (v32 i * (D : Int) ≤ Z))
def upQ (Z : Int) (D : Nat) : Int := -dnQ (-Z) D

theorem dnQ_spec (Z : Int) (D : Nat) : -I ≤ dnQ Z D ∧ dnQ Z D < I ∧ ∀ i, -I < i → i < I → (v32 i * (D : Int) ≤ Z ↔ i ≤ dnQ Z D) := by
  have hI := I_pos
  obtain ⟨a, b, c⟩ := topI_spec (fun i => decide (i < I) && decide (v32 i * (D : Int) ≤ Z)) (by
    intro i j hi hij hj h
    simp only [Bool.and_eq_true, decide_eq_true_eq] at h ⊢
    refine ⟨by omega, Int.le_trans ?_ h.2⟩
    exact Int.mul_le_mul_of_nonneg_right (v32_le.2 hij) (Int.natCast_nonneg _))
  change -I ≤ dnQ Z D at a
  change dnQ Z D ≤ I at b
  have c' : ∀ i, -I < i → i ≤ I → ((decide (i < I) && decide (v32 i * (D : Int) ≤ Z)) = true ↔ i ≤ dnQ Z D) := c
  have h3 : dnQ Z D < I := by
    apply Int.lt_of_not_ge
    intro he
    have := (c' I (by omega) (Int.le_refl _)).2 (by omega)
    simp at this
  refine ⟨a, h3, fun i h1 h2 => ?_⟩
  rw [← c' i h1 (by omega)]
  simp [h2]

theorem dnQ_eq {Z : Int} {D : Nat} {k : Int} (h1 : -I ≤ k) (h2 : k < I) (h : ∀ i, -I < i → i < I → (v32 i * (D : Int) ≤ Z ↔ i ≤ k)) : dnQ Z D = k := by
  apply topI_eq h1 (by omega)
  intro i hi1 hi2
  simp only [Bool.and_eq_true, decide_eq_true_eq]
  by_cases hi : i < I
  · rw [← h i hi1 hi]; exact ⟨fun h => h.2, fun h => ⟨hi, h⟩⟩
  · exact ⟨fun h => absurd h.1 hi, fun h => by omega⟩

theorem upQ_spec (Z : Int) (D : Nat) : -I < upQ Z D ∧ upQ Z D ≤ I ∧ ∀ i, -I < i → i < I → (Z ≤ v32 i * (D : Int) ↔ upQ Z D ≤ i) := by
  obtain ⟨a, b, c⟩ := dnQ_spec (-Z) D
  unfold upQ
  refine ⟨by omega, by omega, fun i h1 h2 => ?_⟩
  have := c (-i) (by omega) (by omega)
  rw [v32_neg, Int.neg_mul] at this
  omega

theorem upQ_eq {Z : Int} {D : Nat} {k : Int} (h1 : -I < k) (h2 : k ≤ I) (h : ∀ i, -I < i → i < I → (Z ≤ v32 i * (D : Int) ↔ k ≤ i)) : upQ Z D = k := by
  have : dnQ (-Z) D = -k := dnQ_eq (by omega) (by omega) (fun i hi1 hi2 => by
    have := h (-i) (by omega) (by omega)
    rw [v32_neg, Int.neg_mul] at this
    omega)
  unfold upQ; omega

/-- What the operations do with ends, rounded down (D) and up (U). -/
def addD (i j : Int) : Int := if i = -I ∨ j = -I then -I else if i = I ∨ j = I then I else dnQ (v32 i + v32 j) 1
def addU (i j : Int) : Int := -addD (-i) (-j)
def mulD (i j : Int) : Int :=
  if i = 0 ∨ j = 0 then 0 else if i = I ∨ i = -I ∨ j = I ∨ j = -I then (if (decide (i < 0)) = (decide (j < 0)) then I else -I) else dnQ (v32 i * v32 j) W
def mulU (i j : Int) : Int := -mulD (-i) j
def divD (i j : Int) : Int :=
  if j = I ∨ j = -I ∨ i = 0 then 0 else if i = I ∨ i = -I then (if (decide (i < 0)) = (decide (j < 0)) then I else -I)
  else dnQ (if j < 0 then -(v32 i * (W : Int)) else v32 i * (W : Int)) (v32 j).natAbs
def divU (i j : Int) : Int := -divD (-i) j
def dnS (i : Int) : Int := topI (fun j => decide (j < I) && (decide (j < 0) || decide (v32 j * v32 j ≤ v32 i * (W : Int))))
def sqD (i : Int) : Int := if i = I then I else dnS i
def sqU (i : Int) : Int := if i = I then I else if v32 (dnS i) * v32 (dnS i) = v32 i * (W : Int) then dnS i else dnS i + 1

/-- Float32 'i' is not above float64 'j'. -/
def FLe (i j : Int) : Prop := i = -I ∨ j = J ∨ (i ≠ I ∧ j ≠ -J ∧ v32 i * (U : Int) ≤ v64 j)
def FGe (i j : Int) : Prop := i = I ∨ j = -J ∨ (i ≠ -I ∧ j ≠ J ∧ v64 j ≤ v32 i * (U : Int))
/-- Float32 'i' is float64 'u'. -/
def Up (i u : Int) : Prop := (i = I ∧ u = J) ∨ (i = -I ∧ u = -J) ∨ (-I < i ∧ i < I ∧ -J < u ∧ u < J ∧ v64 u = v32 i * (U : Int))

theorem up_le {i u j : Int} (h : Up i u) (h1 : -J ≤ j) (h2 : j ≤ J) : (u ≤ j ↔ FLe i j) ∧ (j ≤ u ↔ FGe i j) := by
  have hI := I_pos
  have hJ : (0 : Int) < J := by decide
  unfold FLe FGe
  rcases h with ⟨rfl, rfl⟩ | ⟨rfl, rfl⟩ | ⟨a, b, c, d, e⟩
  · constructor <;> constructor <;> intro h <;> omega
  · constructor <;> constructor <;> intro h <;> omega
  · rw [← e]
    by_cases hj1 : j = J
    · subst hj1; constructor <;> constructor <;> intro h <;> omega
    · by_cases hj2 : j = -J
      · subst hj2; constructor <;> constructor <;> intro h <;> omega
      · rw [v64_le, v64_le]
        constructor <;> constructor <;> intro h <;> omega

/-- A float64, rounded down; up. -/
def dn64 (j : Int) : Int := topI (fun i => decide (j = J) || (decide (i ≠ I) && decide (j ≠ -J) && decide (v32 i * (U : Int) ≤ v64 j)))
def up64 (j : Int) : Int := -dn64 (-j)

theorem dn64_eq {j k : Int} (h1 : -I ≤ k) (h2 : k ≤ I) (h : ∀ i, -I < i → i ≤ I → (FLe i j ↔ i ≤ k)) : dn64 j = k := by
  apply topI_eq h1 h2
  intro i a b
  rw [← h i a b]
  unfold FLe
  simp only [Bool.or_eq_true, Bool.and_eq_true, decide_eq_true_eq]
  constructor
  · rintro (h | ⟨⟨h, h'⟩, h''⟩)
    · exact Or.inr (Or.inl h)
    · exact Or.inr (Or.inr ⟨h, h', h''⟩)
  · rintro (h | h | ⟨h, h', h''⟩)
    · omega
    · exact Or.inl h
    · exact Or.inr ⟨⟨h, h'⟩, h''⟩

theorem dn64_spec (j : Int) : -I ≤ dn64 j ∧ dn64 j ≤ I ∧ ∀ i, -I ≤ i → i ≤ I → (FLe i j ↔ i ≤ dn64 j) := by
  have hU : (0 : Int) < (U : Int) := by exact_mod_cast U_pos
  obtain ⟨a, b, c⟩ := topI_spec (fun i => decide (j = J) || (decide (i ≠ I) && decide (j ≠ -J) && decide (v32 i * (U : Int) ≤ v64 j))) (by
    intro i i' hi hij hj h
    simp only [Bool.or_eq_true, Bool.and_eq_true, decide_eq_true_eq] at h ⊢
    rcases h with h | ⟨⟨h, h'⟩, h''⟩
    · exact Or.inl h
    · exact Or.inr ⟨⟨by omega, h'⟩, Int.le_trans (Int.mul_le_mul_of_nonneg_right (v32_le.2 hij) (by omega)) h''⟩)
  refine ⟨a, b, fun i hi1 hi2 => ?_⟩
  by_cases hi : i = -I
  · subst hi; exact ⟨fun _ => a, fun _ => Or.inl rfl⟩
  · have := c i (by omega) hi2
    change _ ↔ i ≤ dn64 j at this
    rw [← this]
    unfold FLe
    simp only [Bool.or_eq_true, Bool.and_eq_true, decide_eq_true_eq]
    constructor
    · rintro (h | h | ⟨h, h', h''⟩)
      · omega
      · exact Or.inl h
      · exact Or.inr ⟨⟨h, h'⟩, h''⟩
    · rintro (h | ⟨⟨h, h'⟩, h''⟩)
      · exact Or.inr (Or.inl h)
      · exact Or.inr (Or.inr ⟨h, h', h''⟩)

theorem FLe_neg {i j : Int} : FLe (-i) (-j) ↔ FGe i j := by
  unfold FLe FGe
  rw [v32_neg, v64_neg, Int.neg_mul]
  constructor <;> rintro (h | h | ⟨h1, h2, h3⟩)
  · exact Or.inl (by omega)
  · exact Or.inr (Or.inl (by omega))
  · exact Or.inr (Or.inr ⟨by omega, by omega, by omega⟩)
  · exact Or.inl (by omega)
  · exact Or.inr (Or.inl (by omega))
  · exact Or.inr (Or.inr ⟨by omega, by omega, by omega⟩)

theorem up64_spec (j : Int) : -I ≤ up64 j ∧ up64 j ≤ I ∧ ∀ i, -I ≤ i → i ≤ I → (FGe i j ↔ up64 j ≤ i) := by
  obtain ⟨a, b, c⟩ := dn64_spec (-j)
  unfold up64
  refine ⟨by omega, by omega, fun i h1 h2 => ?_⟩
  rw [← FLe_neg, c (-i) (by omega) (by omega)]; omega
end Hedge
