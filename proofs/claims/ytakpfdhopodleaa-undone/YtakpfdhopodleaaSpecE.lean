import Derived.Test.YtakpfdhopodleaaSpecD
namespace Hedge
open Ieee
set_option linter.unusedSimpArgs false
set_option linter.unusedVariables false

theorem v32_nat (s : Nat) : v32 (s : Int) = (val single.binade s : Int) := sval_nat _ _

/-- From magnitudes to numbers with a sign. -/
theorem sgn_cmp {R Z D : Nat} (hD : 0 < D) (h : ∀ s, s < single.infRung → (val single.binade s * U ≤ R ↔ val single.binade s * D ≤ Z) ∧ (R ≤ val single.binade s * U ↔ Z ≤ val single.binade s * D))
    (b : Bool) {a : Int} (h1 : -I < a) (h2 : a < I) :
    (v32 a * (U : Int) ≤ sgn b R ↔ v32 a * (D : Int) ≤ sgn b Z) ∧ (sgn b R ≤ v32 a * (U : Int) ↔ sgn b Z ≤ v32 a * (D : Int)) := by
  have hU := U_pos
  have hU' : (0 : Int) < (U : Int) := by exact_mod_cast hU
  have hD' : (0 : Int) < (D : Int) := by exact_mod_cast hD
  have h0 := h 0 (by rw [in32]; omega)
  rw [val_zero, Nat.zero_mul, Nat.zero_mul] at h0
  obtain ⟨s, hs, hsa⟩ : ∃ s : Nat, s < single.infRung ∧ (a = (s : Int) ∨ a = -(s : Int)) := ⟨a.natAbs, by rw [in32]; unfold I at *; omega, by omega⟩
  obtain ⟨p, q⟩ := h s hs
  have cU : (val single.binade s : Int) * (U : Int) = ((val single.binade s * U : Nat) : Int) := by rw [Int.natCast_mul]
  have cD : (val single.binade s : Int) * (D : Int) = ((val single.binade s * D : Nat) : Int) := by rw [Int.natCast_mul]
  have z1 : val single.binade s * U = 0 ↔ val single.binade s * D = 0 := by
    constructor
    · intro he
      rcases Nat.mul_eq_zero.1 he with he | he
      · rw [he]; simp
      · omega
    · intro he
      rcases Nat.mul_eq_zero.1 he with he | he
      · rw [he]; simp
      · omega
  rcases hsa with rfl | rfl
  · rw [v32_nat, cU, cD]
    generalize val single.binade s * U = A at *
    generalize val single.binade s * D = C at *
    cases b
    · simp only [sgn]; constructor
      · simp <;> omega
      · simp <;> omega
    · simp only [sgn, if_true]; constructor <;> omega
  · rw [v32_neg, v32_nat, Int.neg_mul, Int.neg_mul, cU, cD]
    generalize val single.binade s * U = A at *
    generalize val single.binade s * D = C at *
    cases b
    · simp only [sgn]; constructor
      · simp <;> omega
      · simp <;> omega
    · simp only [sgn, if_true]; constructor <;> omega

theorem dn64_ratio {j Z : Int} {D : Nat} (j1 : -J < j) (j2 : j < J) (h : ∀ a, -I < a → a < I → (v32 a * (U : Int) ≤ v64 j ↔ v32 a * (D : Int) ≤ Z)) : dn64 j = dnQ Z D := by
  obtain ⟨p, q, c⟩ := dnQ_spec Z D
  have hI := I_pos
  apply dn64_eq p (by omega)
  intro i h1 h2
  by_cases hi : i = I
  · subst hi
    unfold FLe
    constructor
    · rintro (h | h | h)
      · omega
      · omega
      · exact absurd rfl h.1
    · intro h; omega
  · rw [← c i h1 (by omega), ← h i h1 (by omega)]
    unfold FLe
    constructor
    · rintro (h | h | h)
      · omega
      · omega
      · exact h.2.2
    · intro h; exact Or.inr (Or.inr ⟨hi, by omega, h⟩)

theorem up64_ratio {j Z : Int} {D : Nat} (j1 : -J < j) (j2 : j < J) (h : ∀ a, -I < a → a < I → (v64 j ≤ v32 a * (U : Int) ↔ Z ≤ v32 a * (D : Int))) : up64 j = upQ Z D := by
  unfold up64 upQ
  rw [dn64_ratio (j := -j) (Z := -Z) (D := D) (by omega) (by omega) (fun a h1 h2 => by
    have := h (-a) (by omega) (by omega)
    rw [v32_neg, Int.neg_mul, Int.neg_mul] at this
    rw [v64_neg]; omega)]

theorem up_val {i u : Int} (h : Up i u) (h1 : -I < i) (h2 : i < I) : (i < 0 ↔ u < 0) ∧ (i = 0 ↔ u = 0) ∧ val double.binade u.natAbs = val single.binade i.natAbs * U := by
  obtain ⟨a, b, c⟩ := up_fin h h1 h2
  have hU : (0 : Int) < (U : Int) := by exact_mod_cast U_pos
  have n1 : i < 0 ↔ u < 0 := by
    have e1 := @v32_neg_iff i
    have e2 : v64 u < 0 ↔ u < 0 := by have := @v64_nn u; omega
    rw [← e1, ← e2, c]
    exact ⟨fun h => Int.mul_neg_of_neg_of_pos h hU, fun h => by
      apply Int.lt_of_not_ge; intro hc
      have := Int.mul_nonneg hc (Int.le_of_lt hU); omega⟩
  have n2 : i = 0 ↔ u = 0 := by
    constructor
    · rintro rfl
      rw [v32_zero, Int.zero_mul] at c
      have h3 := @v64_le 0 u; have h4 := @v64_le u 0
      rw [v64_zero] at h3 h4; omega
    · rintro rfl
      rw [v64_zero] at c
      rcases Int.mul_eq_zero.1 c.symm with h | h
      · exact v32_eq0.1 h
      · omega
  refine ⟨n1, n2, ?_⟩
  have : ((val double.binade u.natAbs : Nat) : Int) = ((val single.binade i.natAbs * U : Nat) : Int) := by
    rw [Int.natCast_mul]
    unfold v64 v32 sval at c
    by_cases hi : i < 0
    · rw [if_pos hi, if_pos (n1.1 hi), Int.neg_mul] at c; omega
    · rw [if_neg hi, if_neg (by omega)] at c; exact c
  exact_mod_cast this

theorem word64 {x : Nat} (hx : Num64 x) : x % double.signWeight = (i64 x).natAbs ∧ (i64 x ≠ 0 → (x / double.signWeight % 2 == 1) = decide (i64 x < 0)) := by
  obtain ⟨h1, h2⟩ := hx
  rw [sw64, i64_eq x h1]
  constructor
  · split <;> omega
  · intro h
    split at h
    · rename_i hs
      have e1 : x / 9223372036854775808 = 0 := by omega
      have e2 : ¬ ((x : Int) < 0) := by omega
      rw [e1, if_pos hs]; simp [e2]
    · rename_i hs
      have e1 : x / 9223372036854775808 = 1 := by omega
      have e2 : -((x : Int) - 9223372036854775808) < 0 := by omega
      rw [e1, if_neg hs]; simp [e2]; omega

theorem w64_of (b : Bool) (t : Nat) (ht : t < double.infRung) : Num64 (double.word b t) ∧ i64 (double.word b t) = sgn b t ∧ -J < i64 (double.word b t) ∧ i64 (double.word b t) < J := by
  have hI := double.infRung_lt
  obtain ⟨a1, a2, a3⟩ := idx_word double b t (by omega)
  obtain ⟨n1, n2, n3⟩ := num64_of (w := double.word b t) (double.word_lt b (by omega)) (by rw [a2]; exact ht)
  exact ⟨n1, a1, n2, n3⟩

theorem mulD_fin {i j : Int} (i0 : i ≠ 0) (j0 : j ≠ 0) (i1 : -I < i) (i2 : i < I) (j1 : -I < j) (j2 : j < I) : mulD i j = dnQ (v32 i * v32 j) W := by
  unfold mulD; rw [if_neg (by omega), if_neg (by omega)]
theorem mulU_fin {i j : Int} (i0 : i ≠ 0) (j0 : j ≠ 0) (i1 : -I < i) (i2 : i < I) (j1 : -I < j) (j2 : j < I) : mulU i j = upQ (v32 i * v32 j) W := by
  unfold mulU upQ; rw [mulD_fin (by omega) j0 (by omega) (by omega) j1 j2, v32_neg, Int.neg_mul]

theorem v32_sgn (i : Int) : v32 i = sgn (decide (i < 0)) (val single.binade i.natAbs) := by unfold v32 sval sgn; simp
theorem v64_sgn (i : Int) : v64 i = sgn (decide (i < 0)) (val double.binade i.natAbs) := by unfold v64 sval sgn; simp
theorem sgn_prod (a b : Bool) (m n : Nat) : sgn a m * sgn b n = sgn (a ^^ b) (m * n) := by
  cases a <;> cases b <;> simp [sgn, Int.neg_mul, Int.mul_neg]

theorem prod_fin {x y : Nat} {i j : Int} (hx : Num64 x) (hy : Num64 y) (ux : Up i (i64 x)) (uy : Up j (i64 y)) (i0 : i ≠ 0) (j0 : j ≠ 0) (i1 : -I < i) (i2 : i < I) (j1 : -I < j) (j2 : j < I) :
    ∃ p, F64.mul x y = some p ∧ Num64 p ∧ dn64 (i64 p) = mulD i j ∧ up64 (i64 p) = mulU i j := by
  obtain ⟨x1, x2, ex⟩ := up_fin ux i1 i2
  obtain ⟨y1, y2, ey⟩ := up_fin uy j1 j2
  obtain ⟨a1, a2, a3⟩ := up_val ux i1 i2
  obtain ⟨b1, b2, b3⟩ := up_val uy j1 j2
  obtain ⟨r, hr, N, D, hD, hn, hq⟩ := mul_spec x y (fin_of hx x1 x2) (fin_of hy y1 y2)
  obtain ⟨wx1, wx2⟩ := word64 hx
  obtain ⟨wy1, wy2⟩ := word64 hy
  rw [wx2 (by omega), wy2 (by omega)] at hr
  rw [wx1, wy1, a3, b3] at hq
  obtain ⟨t, ht, hv⟩ := prod_rung i.natAbs j.natAbs (by rw [in32]; unfold I at *; omega) (by rw [in32]; unfold I at *; omega)
  have hrt : r = t := by
    apply near_exact hB64 hD hn
    apply Nat.eq_of_mul_eq_mul_right V_pos
    rw [hq, ← hv, Nat.mul_right_comm]
  subst hrt
  rw [Nat.min_eq_left (by omega)] at hr
  have eb : (decide (i64 x < 0) ^^ decide (i64 y < 0)) = (decide (i < 0) ^^ decide (j < 0)) := by
    rw [decide_eq_decide.2 a1.symm, decide_eq_decide.2 b1.symm]
  rw [eb] at hr
  obtain ⟨n1, n2, n3, n4⟩ := w64_of (decide (i < 0) ^^ decide (j < 0)) r ht
  refine ⟨_, hr, n1, ?_⟩
  have hv64 : v64 (i64 (double.word (decide (i < 0) ^^ decide (j < 0)) r)) = sgn (decide (i < 0) ^^ decide (j < 0)) (val double.binade r) := by
    rw [n2]; exact sval_sgn _ _ _
  have hZ : v32 i * v32 j = sgn (decide (i < 0) ^^ decide (j < 0)) (val single.binade i.natAbs * val single.binade j.natAbs) := by
    rw [v32_sgn i, v32_sgn j, sgn_prod]
  have hc : ∀ s, s < single.infRung → (val single.binade s * U ≤ val double.binade r ↔ val single.binade s * W ≤ val single.binade i.natAbs * val single.binade j.natAbs) ∧
      (val double.binade r ≤ val single.binade s * U ↔ val single.binade i.natAbs * val single.binade j.natAbs ≤ val single.binade s * W) := by
    intro s hs
    have hUU : 0 < U * U := Nat.mul_pos U_pos U_pos
    have e1 : val single.binade s * U * V = (val single.binade s * W) * (U * U) := by rw [V_eq, Nat.mul_comm U W, Nat.mul_mul_mul_comm]
    have e2 : val double.binade r * V = (val single.binade i.natAbs * val single.binade j.natAbs) * (U * U) := by rw [hv, Nat.mul_mul_mul_comm]
    constructor
    · rw [← Nat.mul_le_mul_right_iff V_pos, e1, e2, Nat.mul_le_mul_right_iff hUU]
    · rw [← Nat.mul_le_mul_right_iff V_pos, e1, e2, Nat.mul_le_mul_right_iff hUU]
  constructor
  · rw [mulD_fin i0 j0 i1 i2 j1 j2]
    apply dn64_ratio n3 n4
    intro a h1 h2
    rw [hv64, hZ]
    exact (sgn_cmp W_pos hc _ h1 h2).1
  · rw [mulU_fin i0 j0 i1 i2 j1 j2]
    apply up64_ratio n3 n4
    intro a h1 h2
    rw [hv64, hZ]
    exact (sgn_cmp W_pos hc _ h1 h2).2
end Hedge
