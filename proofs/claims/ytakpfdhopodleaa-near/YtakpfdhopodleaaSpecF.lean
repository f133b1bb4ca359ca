import Derived.Test.YtakpfdhopodleaaSpecE
namespace Hedge
open Ieee
set_option linter.unusedSimpArgs false
set_option linter.unusedVariables false

theorem sig_ne {B r : Nat} (hB : 0 < B) (h : r ≠ 0) : sig B r ≠ 0 := by
  obtain ⟨a, b, c⟩ := split_rung B r hB
  intro h0
  rcases c with c | c
  · rw [c, h0] at a; omega
  · omega

theorem read64' {x : Nat} (hx : Num64 x) : (i64 x = J ∧ double.read x = .infinity false) ∨ (i64 x = -J ∧ double.read x = .infinity true) ∨
    (-J < i64 x ∧ i64 x < J ∧ ∃ b m k, double.read x = .number b m k ∧ (i64 x ≠ 0 → m ≠ 0 ∧ b = decide (i64 x < 0)) ∧ (i64 x = 0 → m = 0)) := by
  rcases read64 hx with h | h | ⟨h1, h2, _⟩
  · exact Or.inl h
  · exact Or.inr (Or.inl h)
  · obtain ⟨w1, w2⟩ := word64 hx
    refine Or.inr (Or.inr ⟨h1, h2, _, _, _, read_fin double x (fin_of hx h1 h2), fun h => ⟨?_, w2 h⟩, fun h => ?_⟩)
    · exact sig_ne hB64 (by rw [w1]; omega)
    · rw [w1, h]; simp [sig, ex]

theorem sign_inf {i j : Int} (i0 : i ≠ 0) (j0 : j ≠ 0) : -(if (decide (-i < 0)) = (decide (j < 0)) then I else -I) = (if (decide (i < 0)) = (decide (j < 0)) then I else -I) := by
  by_cases h1 : i < 0 <;> by_cases h2 : j < 0
  · have : ¬ (-i < 0) := by omega
    simp [h1, h2, this]; omega
  · have : ¬ (-i < 0) := by omega
    simp [h1, h2, this]; omega
  · have : -i < 0 := by omega
    simp [h1, h2, this]; omega
  · have : -i < 0 := by omega
    simp [h1, h2, this]; omega

theorem word_of_sign {i j : Int} : (i64 (double.word (decide (i < 0) ^^ decide (j < 0)) double.infRung) = if (decide (i < 0)) = (decide (j < 0)) then J else -J) := by
  rw [(infw _).2]
  by_cases h1 : i < 0 <;> by_cases h2 : j < 0 <;> simp [h1, h2]

theorem up_sign {i u : Int} (h : Up i u) (h1 : -I ≤ i) (h2 : i ≤ I) : (i < 0 ↔ u < 0) ∧ (i = 0 ↔ u = 0) := by
  have hI := I_pos
  have hJ := J_pos
  by_cases a : i = I
  · have := (up_J h).1.2 a; subst a; subst this; constructor <;> constructor <;> intro _ <;> omega
  · by_cases b : i = -I
    · have := (up_J h).2.2 b; subst b; subst this; constructor <;> constructor <;> intro _ <;> omega
    · have := up_val h (by omega) (by omega)
      exact ⟨this.1, this.2.1⟩

theorem prod_word {x y : Nat} {i j : Int} (hx : Num64 x) (hy : Num64 y) (ux : Up i (i64 x)) (uy : Up j (i64 y)) (i0 : i ≠ 0) (j0 : j ≠ 0) (i1 : -I ≤ i) (i2 : i ≤ I) (j1 : -I ≤ j) (j2 : j ≤ I) :
    ∃ p, F64.mul x y = some p ∧ Num64 p ∧ dn64 (i64 p) = mulD i j ∧ up64 (i64 p) = mulU i j := by
  have hI := I_pos
  have hJ := J_pos
  by_cases hf : i = I ∨ i = -I ∨ j = I ∨ j = -I
  · obtain ⟨s1, s2⟩ := up_sign ux i1 i2
    obtain ⟨t1, t2⟩ := up_sign uy j1 j2
    obtain ⟨p1, p2⟩ := up_J ux
    obtain ⟨q1, q2⟩ := up_J uy
    have hm : F64.mul x y = some (double.word (decide (i < 0) ^^ decide (j < 0)) double.infRung) := by
      show double.mul x y = _
      unfold Format.mul
      rcases read64' hx with ⟨x1, x2⟩ | ⟨x1, x2⟩ | ⟨x1, x2, b, m, k, x3, x4, x5⟩ <;> rcases read64' hy with ⟨y1, y2⟩ | ⟨y1, y2⟩ | ⟨y1, y2, c, n, l, y3, y4, y5⟩
      · rw [x2, y2]; have h1 : ¬ i < 0 := by omega
        have h2 : ¬ j < 0 := by omega
        simp [Datum.product, Format.write, h1, h2]
      · rw [x2, y2]; have h1 : ¬ i < 0 := by omega
        have h2 : j < 0 := by omega
        simp [Datum.product, Format.write, h1, h2]
      · rw [x2, y3]; have h1 : ¬ i < 0 := by omega
        obtain ⟨hn, hc⟩ := y4 (by omega)
        rw [hc, (show decide (i64 y < 0) = decide (j < 0) from decide_eq_decide.2 t1.symm)]
        simp [Datum.product, Format.write, h1, hn]
      · rw [x2, y2]; have h1 : i < 0 := by omega
        have h2 : ¬ j < 0 := by omega
        simp [Datum.product, Format.write, h1, h2]
      · rw [x2, y2]; have h1 : i < 0 := by omega
        have h2 : j < 0 := by omega
        simp [Datum.product, Format.write, h1, h2]
      · rw [x2, y3]; have h1 : i < 0 := by omega
        obtain ⟨hn, hc⟩ := y4 (by omega)
        rw [hc, (show decide (i64 y < 0) = decide (j < 0) from decide_eq_decide.2 t1.symm)]
        simp [Datum.product, Format.write, h1, hn]
      · rw [x3, y2]; have h1 : ¬ j < 0 := by omega
        obtain ⟨hn, hc⟩ := x4 (by omega)
        rw [hc, (show decide (i64 x < 0) = decide (i < 0) from decide_eq_decide.2 s1.symm)]
        simp [Datum.product, Format.write, h1, hn]
      · rw [x3, y2]; have h1 : j < 0 := by omega
        obtain ⟨hn, hc⟩ := x4 (by omega)
        rw [hc, (show decide (i64 x < 0) = decide (i < 0) from decide_eq_decide.2 s1.symm)]
        simp [Datum.product, Format.write, h1, hn]
      · exfalso; omega
    have e1 : mulD i j = if (decide (i < 0)) = (decide (j < 0)) then I else -I := by unfold mulD; rw [if_neg (by omega), if_pos hf]
    have e2 : mulU i j = if (decide (i < 0)) = (decide (j < 0)) then I else -I := by
      unfold mulU mulD; rw [if_neg (by omega), if_pos (by omega), sign_inf i0 j0]
    refine ⟨_, hm, (infw _).1, ?_, ?_⟩
    · rw [word_of_sign, e1]; split
      · exact dn64_J
      · exact dn64_mJ
    · rw [word_of_sign, e2]; split
      · exact up64_J
      · exact up64_mJ
  · exact prod_fin hx hy ux uy i0 j0 (by omega) (by omega) (by omega) (by omega)

def c1300 : Nat := 1300
theorem quot_fin {x y : Nat} {i j : Int} (hx : Num64 x) (hy : Num64 y) (ux : Up i (i64 x)) (uy : Up j (i64 y)) (i0 : i ≠ 0) (j0 : j ≠ 0) (i1 : -I < i) (i2 : i < I) (j1 : -I < j) (j2 : j < I) :
    ∃ p, F64.div x y = some p ∧ Num64 p ∧ dn64 (i64 p) = divD i j ∧ up64 (i64 p) = divU i j := by
  obtain ⟨x1, x2, ex⟩ := up_fin ux i1 i2
  obtain ⟨y1, y2, ey⟩ := up_fin uy j1 j2
  obtain ⟨a1, a2, a3⟩ := up_val ux i1 i2
  obtain ⟨b1, b2, b3⟩ := up_val uy j1 j2
  obtain ⟨wx1, wx2⟩ := word64 hx
  obtain ⟨wy1, wy2⟩ := word64 hy
  obtain ⟨r, hr, N, D, hD, hn, hq⟩ := div_spec x y (fin_of hx x1 x2) (fin_of hy y1 y2) (by rw [wy1]; omega)
  rw [wx2 (by omega), wy2 (by omega)] at hr
  rw [wx1, wy1, a3, b3] at hq
  have hiN : i.natAbs < single.infRung := by rw [in32]; unfold I at *; omega
  have hjN : j.natAbs < single.infRung := by rw [in32]; unfold I at *; omega
  have hcmp := fun s hs => quot_cmp (s := s) hiN (by omega : 0 < j.natAbs) hjN hD hn hq hs
  have hvj : 0 < val single.binade j.natAbs := by
    have := val_lt single.binade hB32 (show 0 < j.natAbs by omega); rw [val_zero] at this; exact this
  have hrI : r < double.infRung := by
    have hT : val double.binade (c1300 * double.binade + double.binade) = double.binade * 2 ^ c1300 := val_shift double.binade c1300 double.binade hB64 (Or.inr (Nat.le_refl _)) (by rw [bi64]; omega)
    have hTI : c1300 * double.binade + double.binade < double.infRung := by rw [in64, bi64]; unfold c1300; omega
    refine Nat.lt_of_le_of_lt (near_hi hB64 hD hn ?_) hTI
    have hY : 0 < val single.binade j.natAbs * U := Nat.mul_pos hvj U_pos
    apply Nat.le_of_mul_le_mul_right _ hY
    rw [hq, hT, Nat.mul_right_comm _ D]
    apply Nat.mul_le_mul_right
    obtain ⟨m3, k3, o1, o2, e3, p1, p2⟩ := norm24 i.natAbs (by omega) hiN
    rw [e3]
    have h1 : m3 * 2 ^ k3 * V ≤ 16777216 * 2 ^ (c1179 + c1074) := by
      rw [V, Nat.mul_assoc, ← Nat.pow_add]; exact pow_scale_le (by omega) (by unfold c1179; omega)
    have h2 : double.binade * 2 ^ c1300 * (1 * U) ≤ double.binade * 2 ^ c1300 * (val single.binade j.natAbs * U) := Nat.mul_le_mul_left _ (Nat.mul_le_mul_right _ hvj)
    refine Nat.le_trans h1 (Nat.le_trans ?_ h2)
    rw [Nat.one_mul, U, Nat.mul_assoc, ← Nat.pow_add, show c1179 + c1074 = 28 + (c1300 + c925) by decide, Nat.pow_add, ← Nat.mul_assoc]
    exact Nat.mul_le_mul_right _ (by rw [bi64]; omega)
  rw [Nat.min_eq_left (by omega)] at hr
  have eb : (decide (i64 x < 0) ^^ decide (i64 y < 0)) = (decide (i < 0) ^^ decide (j < 0)) := by
    rw [decide_eq_decide.2 a1.symm, decide_eq_decide.2 b1.symm]
  rw [eb] at hr
  obtain ⟨n1, n2, n3, n4⟩ := w64_of (decide (i < 0) ^^ decide (j < 0)) r hrI
  refine ⟨_, hr, n1, ?_⟩
  have hv64 : v64 (i64 (double.word (decide (i < 0) ^^ decide (j < 0)) r)) = sgn (decide (i < 0) ^^ decide (j < 0)) (val double.binade r) := by
    rw [n2]; exact sval_sgn _ _ _
  have hZ : (if j < 0 then -(v32 i * (W : Int)) else v32 i * (W : Int)) = sgn (decide (i < 0) ^^ decide (j < 0)) (val single.binade i.natAbs * W) := by
    rw [v32_sgn i, ← sgn_mul]
    by_cases h1 : i < 0 <;> by_cases h2 : j < 0 <;> simp [h1, h2, sgn]
  have hDj : (v32 j).natAbs = val single.binade j.natAbs := by rw [v32_sgn j, sgn_natAbs]
  have d1 : divD i j = dnQ (if j < 0 then -(v32 i * (W : Int)) else v32 i * (W : Int)) (v32 j).natAbs := by unfold divD; rw [if_neg (by omega), if_neg (by omega)]
  have d2 : divU i j = upQ (if j < 0 then -(v32 i * (W : Int)) else v32 i * (W : Int)) (v32 j).natAbs := by
    unfold divU divD upQ; rw [if_neg (by omega), if_neg (by omega), v32_neg, Int.neg_mul]
    rw [show (if j < 0 then -(-(v32 i * (W : Int))) else -(v32 i * (W : Int))) = -(if j < 0 then -(v32 i * (W : Int)) else v32 i * (W : Int)) by split <;> omega]
  rw [d1, d2, hZ, hDj]
  constructor
  · apply dn64_ratio n3 n4
    intro a h1 h2
    rw [hv64]
    exact (sgn_cmp hvj hcmp _ h1 h2).1
  · apply up64_ratio n3 n4
    intro a h1 h2
    rw [hv64]
    exact (sgn_cmp hvj hcmp _ h1 h2).2

theorem quot_word {x y : Nat} {i j : Int} (hx : Num64 x) (hy : Num64 y) (ux : Up i (i64 x)) (uy : Up j (i64 y)) (j0 : j ≠ 0) (i1 : -I ≤ i) (i2 : i ≤ I) (j1 : -I < j) (j2 : j < I) :
    ∃ p, F64.div x y = some p ∧ Num64 p ∧ dn64 (i64 p) = divD i j ∧ up64 (i64 p) = divU i j := by
  have hI := I_pos
  have hJ := J_pos
  obtain ⟨s1, s2⟩ := up_sign ux i1 i2
  obtain ⟨t1, t2⟩ := up_sign uy (by omega) (by omega)
  obtain ⟨p1, p2⟩ := up_J ux
  obtain ⟨q1, q2⟩ := up_J uy
  by_cases i0 : i = 0
  · have d1 : divD i j = 0 := by unfold divD; rw [if_pos (by omega)]
    have d2 : divU i j = 0 := by unfold divU divD; rw [if_pos (by omega)]; rfl
    rw [d1, d2]
    rcases read64' hx with ⟨x1, x2⟩ | ⟨x1, x2⟩ | ⟨x1, x2, b, m, k, x3, x4, x5⟩
    · omega
    · omega
    · rcases read64' hy with ⟨y1, y2⟩ | ⟨y1, y2⟩ | ⟨y1, y2, c, n, l, y3, y4, y5⟩
      · omega
      · omega
      · obtain ⟨hn, _⟩ := y4 (by omega)
        have hm := x5 (by omega)
        subst hm
        have hd : F64.div x y = some (double.word (b ^^ c) 0) := by
          show double.div x y = _
          unfold Format.div
          rw [x3, y3]
          simp [Datum.quotient, hn, Format.write, Format.nearest]
        obtain ⟨w1, w2, w3, w4⟩ := w64_of (b ^^ c) 0 (by rw [in64]; omega)
        have w5 : i64 (double.word (b ^^ c) 0) = 0 := by rw [w2]; cases (b ^^ c) <;> simp [sgn]
        exact ⟨_, hd, w1, by rw [w5, dn64_0], by rw [w5, up64_0]⟩
  · by_cases hf : i = I ∨ i = -I
    · have hm : F64.div x y = some (double.word (decide (i < 0) ^^ decide (j < 0)) double.infRung) := by
        show double.div x y = _
        unfold Format.div
        rcases read64' hx with ⟨x1, x2⟩ | ⟨x1, x2⟩ | ⟨x1, x2, b, m, k, x3, x4, x5⟩ <;> rcases read64' hy with ⟨y1, y2⟩ | ⟨y1, y2⟩ | ⟨y1, y2, c, n, l, y3, y4, y5⟩
        all_goals first
          | (exfalso; omega)
          | skip
        · rw [x2, y3]; have h1 : ¬ i < 0 := by omega
          obtain ⟨hn, hc⟩ := y4 (by omega)
          rw [hc, (show decide (i64 y < 0) = decide (j < 0) from decide_eq_decide.2 t1.symm)]
          simp [Datum.quotient, Format.write, h1]
        · rw [x2, y3]; have h1 : i < 0 := by omega
          obtain ⟨hn, hc⟩ := y4 (by omega)
          rw [hc, (show decide (i64 y < 0) = decide (j < 0) from decide_eq_decide.2 t1.symm)]
          simp [Datum.quotient, Format.write, h1]
      have e1 : divD i j = if (decide (i < 0)) = (decide (j < 0)) then I else -I := by unfold divD; rw [if_neg (by omega), if_pos hf]
      have e2 : divU i j = if (decide (i < 0)) = (decide (j < 0)) then I else -I := by
        unfold divU divD; rw [if_neg (by omega), if_pos (by omega), sign_inf i0 j0]
      refine ⟨_, hm, (infw _).1, ?_, ?_⟩
      · rw [word_of_sign, e1]; split
        · exact dn64_J
        · exact dn64_mJ
      · rw [word_of_sign, e2]; split
        · exact up64_J
        · exact up64_mJ
    · exact quot_fin hx hy ux uy i0 j0 (by omega) (by omega) j1 j2

theorem dnS_spec (i : Int) : -I ≤ dnS i ∧ dnS i < I ∧ ∀ a, -I < a → a < I → ((a < 0 ∨ v32 a * v32 a ≤ v32 i * (W : Int)) ↔ a ≤ dnS i) := by
  have hI := I_pos
  obtain ⟨p, q, c⟩ := topI_spec (fun j => decide (j < I) && (decide (j < 0) || decide (v32 j * v32 j ≤ v32 i * (W : Int)))) (by
    intro a b ha hab hb h
    simp only [Bool.and_eq_true, Bool.or_eq_true, decide_eq_true_eq] at h ⊢
    refine ⟨by omega, ?_⟩
    by_cases h0 : a < 0
    · exact Or.inl h0
    · right
      rcases h.2 with h2 | h2
      · omega
      · refine Int.le_trans ?_ h2
        have h3 : 0 ≤ v32 a := v32_nn.2 (by omega)
        have h4 : v32 a ≤ v32 b := v32_le.2 hab
        exact Int.mul_le_mul h4 h4 h3 (by omega))
  change -I ≤ dnS i at p
  change dnS i ≤ I at q
  have c' : ∀ a, -I < a → a ≤ I → ((decide (a < I) && (decide (a < 0) || decide (v32 a * v32 a ≤ v32 i * (W : Int)))) = true ↔ a ≤ dnS i) := c
  have h3 : dnS i < I := by
    apply Int.lt_of_not_ge
    intro he
    have := (c' I (by omega) (Int.le_refl _)).2 (by omega)
    simp at this
  refine ⟨p, h3, fun a h1 h2 => ?_⟩
  rw [← c' a h1 (by omega)]
  simp [h2]

theorem dnS_nn {i : Int} (h : 0 ≤ i) : 0 ≤ dnS i := by
  have hI := I_pos
  obtain ⟨p, q, c⟩ := dnS_spec i
  apply (c 0 (by omega) hI).1
  right
  rw [v32_zero]
  simp
  exact Int.mul_nonneg (v32_nn.2 h) (Int.natCast_nonneg _)

theorem W_le_max : W ≤ val single.binade (single.infRung - 1) := by
  have e : single.infRung - 1 = 253 * single.binade + (2 * single.binade - 1) := by decide +kernel
  rw [e, val_shift single.binade 253 _ hB32 (Or.inr (by rw [bi32]; omega)) (by omega), bi32]
  unfold W
  have : 1 * 2 ^ c149 ≤ (2 * 8388608 - 1) * 2 ^ 253 := pow_scale_le (by omega) (by unfold c149; omega)
  omega

theorem root_fin {x : Nat} {i : Int} (hx : Num64 x) (ux : Up i (i64 x)) (i0 : 0 < i) (i2 : i < I) :
    ∃ p, F64.sqrt x = some p ∧ Num64 p ∧ dn64 (i64 p) = sqD i ∧ up64 (i64 p) = sqU i := by
  have hI := I_pos
  obtain ⟨x1, x2, ex⟩ := up_fin ux (by omega) i2
  obtain ⟨a1, a2, a3⟩ := up_val ux (by omega) i2
  obtain ⟨wx1, wx2⟩ := word64 hx
  have hsx : (x / double.signWeight % 2 == 1) = false := by
    rw [wx2 (by omega)]; have : ¬ i64 x < 0 := by omega
    simp [this]
  obtain ⟨r, Q, n, a, b, hr, hn, hQB, q1, q2, hq⟩ := sqrt_spec x (fin_of hx x1 x2) (by rw [wx1]; omega) hsx
  rw [wx1, a3] at hq
  have hiN : i.natAbs < single.infRung := by rw [in32]; unfold I at *; omega
  have hcmp := fun s hs => root_cmp (s := s) hiN (by omega : 0 < i.natAbs) hs hn hQB q1 q2 hq
  have hrI : r < double.infRung := by
    have hmx : single.infRung - 1 < single.infRung := by rw [in32]; omega
    obtain ⟨t, ht, hv⟩ := up_rung (single.infRung - 1) hmx
    have h1 : val single.binade i.natAbs * W ≤ val single.binade (single.infRung - 1) * val single.binade (single.infRung - 1) :=
      Nat.mul_le_mul (val_mono single.binade hB32 (by omega)) W_le_max
    have h2 := (hcmp (single.infRung - 1) hmx).2.2 h1
    rw [← hv] at h2
    have := (val_le_iff double.binade hB64).1 h2
    omega
  rw [Nat.min_eq_left (by omega)] at hr
  obtain ⟨n1, n2, n3, n4⟩ := w64_of false r hrI
  have n2' : i64 (double.word false r) = (r : Int) := n2
  have hv64 : v64 (i64 (double.word false r)) = (val double.binade r : Int) := by rw [n2']; exact sval_nat _ _
  have hvi : v32 i = (val single.binade i.natAbs : Int) := by
    have : i = (i.natAbs : Int) := by omega
    rw [this]; exact v32_nat _
  have hU : (0 : Int) < (U : Int) := by exact_mod_cast U_pos
  have L : ∀ a, 0 ≤ a → a < I → (v32 a * (U : Int) ≤ v64 (i64 (double.word false r)) ↔ v32 a * v32 a ≤ v32 i * (W : Int)) ∧ (v64 (i64 (double.word false r)) ≤ v32 a * (U : Int) ↔ v32 i * (W : Int) ≤ v32 a * v32 a) := by
    intro a ha0 haI
    obtain ⟨s, rfl⟩ : ∃ s : Nat, a = s := ⟨a.toNat, by omega⟩
    obtain ⟨c1, c2⟩ := hcmp s (by rw [in32]; unfold I at *; omega)
    rw [hv64, v32_nat, hvi, ← Int.natCast_mul, ← Int.natCast_mul, ← Int.natCast_mul]
    exact ⟨by rw [Int.ofNat_le, Int.ofNat_le]; exact c1, by rw [Int.ofNat_le, Int.ofNat_le]; exact c2⟩
  have hpos : 0 ≤ v64 (i64 (double.word false r)) := by rw [hv64]; exact Int.natCast_nonneg _
  refine ⟨_, hr, n1, ?_, ?_⟩
  · obtain ⟨p, q, c⟩ := dnS_spec i
    unfold sqD
    rw [if_neg (by omega)]
    apply dn64_eq p (by omega)
    intro a h1 h2
    unfold FLe
    by_cases haI : a = I
    · subst haI
      constructor
      · rintro (h | h | h)
        · omega
        · omega
        · exact absurd rfl h.1
      · intro h; omega
    · rw [← c a h1 (by omega)]
      by_cases h0 : a < 0
      · have hn : v32 a * (U : Int) < 0 := Int.mul_neg_of_neg_of_pos (v32_neg_iff.2 h0) hU
        exact ⟨fun _ => Or.inl h0, fun _ => Or.inr (Or.inr ⟨haI, by omega, by omega⟩)⟩
      · have := (L a (by omega) (by omega)).1
        constructor
        · rintro (h | h | h)
          · omega
          · omega
          · exact Or.inr (this.1 h.2.2)
        · rintro (h | h)
          · omega
          · exact Or.inr (Or.inr ⟨haI, by omega, this.2 h⟩)
  · obtain ⟨p, q, c⟩ := dnS_spec i
    have hk0 := dnS_nn (show 0 ≤ i by omega)
    obtain ⟨p', q', c'⟩ := up64_spec (i64 (double.word false r))
    have hge : ∀ a, 0 ≤ a → a < I → (v32 i * (W : Int) ≤ v32 a * v32 a ↔ up64 (i64 (double.word false r)) ≤ a) := by
      intro a ha0 haI
      rw [← (L a ha0 haI).2, ← c' a (by omega) (by omega)]
      unfold FGe
      constructor
      · intro h; exact Or.inr (Or.inr ⟨by omega, by omega, h⟩)
      · rintro (h | h | h)
        · omega
        · omega
        · exact h.2.2
    have h0 : 0 ≤ up64 (i64 (double.word false r)) := by
      apply Int.le_of_not_gt
      intro hc
      have := (c' (-1) (by omega) (by omega)).2 (by omega)
      unfold FGe at this
      rcases this with h | h | h
      · omega
      · omega
      · have hn : v32 (-1) * (U : Int) < 0 := Int.mul_neg_of_neg_of_pos (v32_neg_iff.2 (by omega)) hU
        omega
    have hle : v32 (dnS i) * v32 (dnS i) ≤ v32 i * (W : Int) := by
      rcases (c (dnS i) (by omega) q).2 (Int.le_refl _) with h | h
      · omega
      · exact h
    unfold sqU
    rw [if_neg (by omega)]
    by_cases he : v32 (dnS i) * v32 (dnS i) = v32 i * (W : Int)
    · rw [if_pos he]
      have h1 := (hge (dnS i) hk0 q).1 (by omega)
      have h2 : dnS i ≤ up64 (i64 (double.word false r)) := by
        have h3 := (hge (up64 (i64 (double.word false r))) h0 (by omega)).2 (Int.le_refl _)
        apply Int.le_of_not_gt
        intro hc
        have h4 : v32 (up64 (i64 (double.word false r))) < v32 (dnS i) := v32_lt.2 hc
        have h5 : 0 ≤ v32 (up64 (i64 (double.word false r))) := v32_nn.2 h0
        have h6 : v32 (up64 (i64 (double.word false r))) * v32 (up64 (i64 (double.word false r))) < v32 (dnS i) * v32 (dnS i) :=
          Int.mul_lt_mul h4 (Int.le_of_lt h4) (by
            apply Int.lt_of_not_ge; intro h7
            have : v32 (dnS i) * v32 (dnS i) = 0 := by
              have h8 : v32 (up64 (i64 (double.word false r))) = 0 := by omega
              rw [h8] at h3; have := Int.mul_nonneg (v32_nn.2 hk0) (v32_nn.2 hk0); omega
            have h9 : v32 i * (W : Int) = 0 := by omega
            have hW : (0 : Int) < (W : Int) := by exact_mod_cast W_pos
            have := Int.mul_pos (v32_pos.2 i0) hW
            omega) (by omega)
        omega
      omega
    · rw [if_neg he]
      have h1 : ¬ up64 (i64 (double.word false r)) ≤ dnS i := by
        intro h; have := (hge (dnS i) hk0 q).2 h; omega
      by_cases hI1 : dnS i + 1 = I
      · omega
      · have h2 : ¬ (v32 (dnS i + 1) * v32 (dnS i + 1) ≤ v32 i * (W : Int)) := by
          intro h; have := (c (dnS i + 1) (by omega) (by omega)).1 (Or.inr h); omega
        have := (hge (dnS i + 1) (by omega) (by omega)).1 (by omega)
        omega

theorem root_word {x : Nat} {i : Int} (hx : Num64 x) (ux : Up i (i64 x)) (i0 : 0 ≤ i) (i2 : i ≤ I) :
    ∃ p, F64.sqrt x = some p ∧ Num64 p ∧ dn64 (i64 p) = sqD i ∧ up64 (i64 p) = sqU i := by
  have hI := I_pos
  have hJ := J_pos
  obtain ⟨s1, s2⟩ := up_sign ux (by omega) i2
  obtain ⟨p1, p2⟩ := up_J ux
  by_cases h0 : i = 0
  · rcases read64' hx with ⟨x1, x2⟩ | ⟨x1, x2⟩ | ⟨x1, x2, b, m, k, x3, x4, x5⟩
    · omega
    · omega
    · have hm := x5 (by omega)
      subst hm
      have hd : F64.sqrt x = some (double.word b 0) := by
        show double.sqrt x = _
        unfold Format.sqrt
        rw [x3]
        simp [Datum.root, Format.write, Format.nearest]
      obtain ⟨w1, w2, w3, w4⟩ := w64_of b 0 (by rw [in64]; omega)
      have w5 : i64 (double.word b 0) = 0 := by rw [w2]; cases b <;> simp [sgn]
      have hS : dnS 0 = 0 := by
        have h1 := dnS_nn (Int.le_refl 0)
        obtain ⟨p, q, c⟩ := dnS_spec 0
        by_cases h2 : dnS 0 = 0
        · exact h2
        · exfalso
          rcases (c (dnS 0) (by omega) q).2 (Int.le_refl _) with h | h
          · omega
          · rw [v32_zero, Int.zero_mul] at h
            have h3 : 0 < v32 (dnS 0) := v32_pos.2 (by omega)
            have := Int.mul_pos h3 h3
            omega
      subst h0
      refine ⟨_, hd, w1, ?_, ?_⟩
      · rw [w5, dn64_0]; unfold sqD; rw [if_neg (by omega), hS]
      · rw [w5, up64_0]; unfold sqU; rw [if_neg (by omega), hS, if_pos (by rw [v32_zero]; simp)]
  · by_cases hi : i = I
    · have hd : F64.sqrt x = some (double.word false double.infRung) := by
        show double.sqrt x = _
        unfold Format.sqrt
        rcases read64' hx with ⟨x1, x2⟩ | ⟨x1, x2⟩ | ⟨x1, x2, _⟩
        · rw [x2]; rfl
        · omega
        · omega
      obtain ⟨w1, w2⟩ := infw false
      refine ⟨_, hd, w1, ?_, ?_⟩
      · rw [w2]; unfold sqD; rw [if_pos hi]; exact dn64_J
      · rw [w2]; unfold sqU; rw [if_pos hi]; exact up64_J
    · exact root_fin hx ux (by omega) (by omega)
end Hedge
