import Derived.Test.YtakpfdhopodleaaSpecAB
namespace Hedge
open Ieee
set_option linter.unusedSimpArgs false
set_option linter.unusedVariables false

theorem RN_lo {B : Nat} {Z k : Int} (hB : 0 < B) (h : RN B Z k) (t : Int) (ht : sval B t ≤ Z) : t ≤ k := by
  obtain ⟨r, hn, rfl⟩ := h
  by_cases hz : Z < 0
  · simp only [hz, decide_true, sgn, if_true]
    have ht0 : t < 0 := by
      have := @sval_lt_iff B hB t 0; rw [sval_zero] at this; omega
    unfold sval at ht
    rw [if_pos ht0] at ht
    have := near_hi hB (by omega) hn (s := t.natAbs) (by omega)
    omega
  · simp only [hz, decide_false, sgn]
    by_cases ht0 : t < 0
    · simp; omega
    · unfold sval at ht
      rw [if_neg ht0] at ht
      have := near_lo hB (by omega) hn (s := t.natAbs) (by omega)
      simp; omega
theorem RN_hi {B : Nat} {Z k : Int} (hB : 0 < B) (h : RN B Z k) (t : Int) (ht : Z ≤ sval B t) : k ≤ t := by
  obtain ⟨r, hn, rfl⟩ := h
  by_cases hz : Z < 0
  · simp only [hz, decide_true, sgn, if_true]
    by_cases ht0 : t < 0
    · unfold sval at ht
      rw [if_pos ht0] at ht
      have := near_lo hB (by omega) hn (s := t.natAbs) (by omega)
      omega
    · omega
  · simp only [hz, decide_false, sgn]
    have ht0 : ¬ t < 0 := by
      intro h
      have := (@sval_lt_iff B hB t 0).2 h; rw [sval_zero] at this; omega
    unfold sval at ht
    rw [if_neg ht0] at ht
    have := near_hi hB (by omega) hn (s := t.natAbs) (by omega)
    simp; omega

def c1179 : Nat := 1179
def M : Nat := 16777216 * 2 ^ c1179

/-- A finite float32, in units of float64: short, and not great. -/
theorem short32 {i : Int} (h1 : -I < i) (h2 : i < I) :
    ∃ k, ((2 ^ k : Nat) : Int) ∣ v32 i * (U : Int) ∧ (v32 i * (U : Int)).natAbs ≤ 2 ^ 24 * 2 ^ k ∧ (v32 i * (U : Int)).natAbs ≤ M := by
  have hi : i.natAbs < single.infRung := by rw [in32]; unfold I at *; omega
  have hv : (v32 i * (U : Int)).natAbs = val single.binade i.natAbs * U := by
    rw [Int.natAbs_mul, Int.natAbs_natCast]
    congr 1
    unfold v32 sval
    split <;> omega
  rw [hv]
  by_cases h0 : i = 0
  · subst h0
    refine ⟨0, by simp, by simp [val_zero], by simp [val_zero]⟩
  · obtain ⟨m, k, m1, m2, e, k1, k2⟩ := norm24 i.natAbs (by omega) hi
    refine ⟨k, Int.ofNat_dvd_left.2 (by rw [hv, e]; exact Nat.dvd_mul_left _ _), ?_, ?_⟩
    · rw [e]; exact Nat.mul_le_mul_right _ (by omega)
    · rw [e]; unfold M; exact pow_scale_le (by omega) (by unfold c1179; omega)

theorem bound_rung : ∃ T, T < double.infRung ∧ val double.binade T = double.binade * 2 ^ c1179 := by
  refine ⟨c1179 * double.binade + double.binade, ?_, val_shift double.binade c1179 double.binade hB64 (Or.inr (Nat.le_refl _)) (by rw [bi64]; omega)⟩
  rw [in64, bi64]; unfold c1179; omega

theorem le_bound {T : Nat} (hT : val double.binade T = double.binade * 2 ^ c1179) {n : Nat} (h : n ≤ 200 * M) : n ≤ val double.binade T := by
  refine Nat.le_trans h ?_
  rw [hT, bi64]; unfold M
  rw [← Nat.mul_assoc]
  exact Nat.mul_le_mul_right _ (by omega)

theorem RN_small {B : Nat} {Z k : Int} (hB : 0 < B) (h : RN B Z k) : (sval B k).natAbs ≤ 2 * Z.natAbs := by
  have := RN_best hB h 0
  rw [sval_zero] at this; omega

theorem num64_of {w : Nat} (h1 : w < 2 ^ double.width) (h2 : w % double.signWeight < double.infRung) : Num64 w ∧ -J < i64 w ∧ i64 w < J := by
  have hw : w < 18446744073709551616 := h1
  rw [sw64, in64] at h2
  refine ⟨⟨hw, by omega⟩, ?_⟩
  rw [i64_eq w hw]; unfold J
  constructor <;> split <;> omega

theorem fin_of {w : Nat} (h : Num64 w) (h1 : -J < i64 w) (h2 : i64 w < J) : w % double.signWeight < double.infRung := by
  obtain ⟨a, b⟩ := h
  rw [i64_eq w a] at h1 h2
  rw [sw64, in64]
  unfold J at *
  split at h1 <;> omega

theorem add64 {x y : Nat} (hx : Num64 x) (x1 : -J < i64 x) (x2 : i64 x < J) (hy : Num64 y) (y1 : -J < i64 y) (y2 : i64 y < J) (hz : (v64 (i64 x) + v64 (i64 y)).natAbs ≤ 200 * M) :
    ∃ w, F64.add x y = some w ∧ Num64 w ∧ -J < i64 w ∧ i64 w < J ∧ RN double.binade (v64 (i64 x) + v64 (i64 y)) (i64 w) := by
  obtain ⟨T, hT1, hT2⟩ := bound_rung
  have hz' := le_bound hT2 hz
  unfold v64 i64 at hz'
  obtain ⟨w, a, b, c, d⟩ := add_fin double x y T (fin_of hx x1 x2) (fin_of hy y1 y2) hT1 hz'
  obtain ⟨e1, e2, e3⟩ := num64_of b c
  exact ⟨w, a, e1, e2, e3, d⟩
theorem sub64 {x y : Nat} (hx : Num64 x) (x1 : -J < i64 x) (x2 : i64 x < J) (hy : Num64 y) (y1 : -J < i64 y) (y2 : i64 y < J) (hz : (v64 (i64 x) - v64 (i64 y)).natAbs ≤ 200 * M) :
    ∃ w, F64.sub x y = some w ∧ Num64 w ∧ -J < i64 w ∧ i64 w < J ∧ RN double.binade (v64 (i64 x) - v64 (i64 y)) (i64 w) := by
  obtain ⟨T, hT1, hT2⟩ := bound_rung
  have hz' := le_bound hT2 hz
  unfold v64 i64 at hz'
  obtain ⟨w, a, b, c, d⟩ := sub_fin double x y T (fin_of hx x1 x2) (fin_of hy y1 y2) hT1 hz'
  obtain ⟨e1, e2, e3⟩ := num64_of b c
  exact ⟨w, a, e1, e2, e3, d⟩

theorem RN_bd {Z k b : Int} (h : RN double.binade Z k) (h1 : -b ≤ Z) (h2 : Z ≤ b) : -(2 * b) ≤ v64 k ∧ v64 k ≤ 2 * b := by
  have h3 := RN_small hB64 h
  change (v64 k).natAbs ≤ _ at h3
  omega
theorem bd_abs {Z b : Int} {n : Nat} (h1 : -b ≤ Z) (h2 : Z ≤ b) (h : b ≤ (n : Int)) : Z.natAbs ≤ n := by omega
theorem up_fin {i u : Int} (h : Up i u) (h1 : -I < i) (h2 : i < I) : -J < u ∧ u < J ∧ v64 u = v32 i * (U : Int) := by
  have hI := I_pos
  rcases h with h | h | h
  · omega
  · omega
  · exact ⟨h.2.2.1, h.2.2.2.1, h.2.2.2.2⟩

/-- The sum of two float32 by way of float64, and what it leaves over. -/
theorem sum_words {x y : Nat} {i j : Int} (hx : Num64 x) (hy : Num64 y) (i1 : -I < i) (i2 : i < I) (j1 : -I < j) (j2 : j < I) (ux : Up i (i64 x)) (uy : Up j (i64 y)) :
    ∃ s b a dx dy e, F64.add x y = some s ∧ F64.sub s x = some b ∧ F64.sub s b = some a ∧ F64.sub x a = some dx ∧ F64.sub y b = some dy ∧ F64.add dx dy = some e ∧
      Num64 s ∧ -J < i64 s ∧ i64 s < J ∧ Num64 e ∧ RN double.binade ((v32 i + v32 j) * (U : Int)) (i64 s) ∧ v64 (i64 s) + v64 (i64 e) = (v32 i + v32 j) * (U : Int) := by
  obtain ⟨x1, x2, ex⟩ := up_fin ux i1 i2
  obtain ⟨y1, y2, ey⟩ := up_fin uy j1 j2
  obtain ⟨kx, a1, a2, a3⟩ := short32 i1 i2
  obtain ⟨ky, b1, b2, b3⟩ := short32 j1 j2
  rw [← ex] at a1 a2 a3
  rw [← ey] at b1 b2 b3
  rw [Int.add_mul, ← ex, ← ey]
  clear ux uy ex ey i1 i2 j1 j2
  obtain ⟨m, hm⟩ : ∃ m : Int, m = (M : Int) := ⟨_, rfl⟩
  have X1 : -m ≤ v64 (i64 x) := by omega
  have X2 : v64 (i64 x) ≤ m := by omega
  have Y1 : -m ≤ v64 (i64 y) := by omega
  have Y2 : v64 (i64 y) ≤ m := by omega
  have hm0 : 0 ≤ m := by omega
  have big : ∀ {c : Int}, 0 ≤ c → c ≤ 200 → c * m ≤ ((200 * M : Nat) : Int) := by
    intro c c0 c1
    have := Int.mul_le_mul_of_nonneg_right c1 hm0
    rw [Int.natCast_mul, ← hm]; exact this
  clear a3 b3
  obtain ⟨s, s0, s1, s2, s3, rs⟩ := add64 hx x1 x2 hy y1 y2 (bd_abs (b := 2 * m) (by omega) (by omega) (big (by omega) (by omega)))
  obtain ⟨S1, S2⟩ := RN_bd (b := 2 * m) rs (by omega) (by omega)
  obtain ⟨b, p0, p1, p2, p3, rb⟩ := sub64 s1 s2 s3 hx x1 x2 (bd_abs (b := 5 * m) (by omega) (by omega) (big (by omega) (by omega)))
  obtain ⟨B1, B2⟩ := RN_bd (b := 5 * m) rb (by omega) (by omega)
  obtain ⟨a, q0, q1, q2, q3, ra⟩ := sub64 s1 s2 s3 p1 p2 p3 (bd_abs (b := 14 * m) (by omega) (by omega) (big (by omega) (by omega)))
  obtain ⟨A1, A2⟩ := RN_bd (b := 14 * m) ra (by omega) (by omega)
  obtain ⟨dx, t0, t1, t2, t3, rx⟩ := sub64 hx x1 x2 q1 q2 q3 (bd_abs (b := 29 * m) (by omega) (by omega) (big (by omega) (by omega)))
  obtain ⟨C1, C2⟩ := RN_bd (b := 29 * m) rx (by omega) (by omega)
  obtain ⟨dy, u0, u1, u2, u3, ry⟩ := sub64 hy y1 y2 p1 p2 p3 (bd_abs (b := 11 * m) (by omega) (by omega) (big (by omega) (by omega)))
  obtain ⟨D1, D2⟩ := RN_bd (b := 11 * m) ry (by omega) (by omega)
  obtain ⟨e, w0, w1, w2, w3, re⟩ := add64 t1 t2 t3 u1 u2 u3 (bd_abs (b := 80 * m) (by omega) (by omega) (big (by omega) (by omega)))
  have := two_sum (B := double.binade) (by rw [bi64]; omega) kx ky a1 a2 b1 b2 rs rb ra rx ry re
  refine ⟨s, b, a, dx, dy, e, s0, p0, q0, t0, u0, w0, s1, s2, s3, w1, rs, ?_⟩
  change v64 (i64 e) = v64 (i64 x) + v64 (i64 y) - v64 (i64 s) at this
  rw [this]; omega

theorem up_of {i : Int} (h1 : -I < i) (h2 : i < I) : ∃ t, -J < t ∧ t < J ∧ v64 t = v32 i * (U : Int) := by
  have hi : i.natAbs < single.infRung := by rw [in32]; unfold I at *; omega
  obtain ⟨t, ht, hv⟩ := up_rung i.natAbs hi
  rw [in64] at ht
  refine ⟨sgn (decide (i < 0)) t, ?_, ?_, ?_⟩
  · unfold sgn J; split <;> omega
  · unfold sgn J; split <;> omega
  · unfold v64; rw [sval_sgn, hv, sgn_mul]
    congr 1
    unfold v32 sval sgn
    simp

/-- The float64 nearest to a sum, or its neighbour below where something is lacking, is rounded down as the sum is. -/
theorem sum_dn {Z : Int} {s e j' : Int} (s2 : -J < s) (s3 : s < J) (rs : RN double.binade (Z * (U : Int)) s) (he : v64 s + v64 e = Z * (U : Int)) (hj : j' = if e < 0 then s - 1 else s) :
    dn64 j' = dnQ Z 1 := by
  obtain ⟨a, b, c⟩ := dnQ_spec Z 1
  have hI := I_pos
  have hU : (0 : Int) < (U : Int) := by exact_mod_cast U_pos
  have e0 : e < 0 ↔ v64 e < 0 := by have := @v64_nn e; omega
  apply dn64_eq a (by omega)
  intro i h1 h2
  by_cases hi : i = I
  · subst hi
    unfold FLe
    have : j' ≠ J := by rw [hj]; split <;> omega
    constructor
    · rintro (h | h | h)
      · omega
      · exact absurd h this
      · exact absurd rfl h.1
    · intro h; omega
  · obtain ⟨t, t1, t2, t3⟩ := up_of h1 (show i < I by omega)
    rw [← c i h1 (by omega), Int.natCast_one, Int.mul_one]
    have hj' : -J ≤ j' ∧ j' ≤ J := by rw [hj]; constructor <;> split <;> omega
    have hup : Up i t := Or.inr (Or.inr ⟨h1, by omega, t1, t2, t3⟩)
    rw [← (up_le hup hj'.1 hj'.2).1]
    have hcmp : v32 i ≤ Z ↔ v64 t ≤ Z * (U : Int) := by
      rw [t3]; exact ⟨fun h => Int.mul_le_mul_of_nonneg_right h (by omega), fun h => Int.le_of_mul_le_mul_right h hU⟩
    rw [hcmp]
    by_cases h0 : e < 0
    · rw [hj, if_pos h0]
      rw [e0] at h0
      constructor
      · intro h
        apply Int.le_of_not_gt
        intro hc
        have := RN_hi hB64 rs t (by unfold v64 at hc; omega)
        omega
      · intro h
        have : v64 t < v64 s := by omega
        have := v64_lt.1 this
        omega
    · rw [hj, if_neg h0]
      constructor
      · intro h
        have := v64_le.2 h
        omega
      · intro h; exact RN_lo hB64 rs t h

theorem RN_neg {B : Nat} {Z k : Int} (hB : 0 < B) (h : RN B Z k) : RN B (-Z) (-k) := by
  obtain ⟨r, hn, rfl⟩ := h
  refine ⟨r, by rw [Int.natAbs_neg]; exact hn, ?_⟩
  by_cases h0 : Z = 0
  · subst h0
    have := near_exact hB (by omega) hn (s := 0) (by rw [val_zero]; simp)
    subst this; simp [sgn]
  · by_cases hz : Z < 0
    · have : ¬ (-Z < 0) := by omega
      simp only [hz, this, sgn, decide_true, decide_false]; simp
    · have : -Z < 0 := by omega
      simp only [hz, this, sgn, decide_true, decide_false]; simp

theorem sum_up {Z : Int} {s e j' : Int} (s2 : -J < s) (s3 : s < J) (rs : RN double.binade (Z * (U : Int)) s) (he : v64 s + v64 e = Z * (U : Int)) (hj : j' = if 0 < e then s + 1 else s) :
    up64 j' = upQ Z 1 := by
  unfold up64 upQ
  have := sum_dn (Z := -Z) (s := -s) (e := -e) (j' := -j') (by omega) (by omega) (by rw [Int.neg_mul]; exact RN_neg hB64 rs) (by rw [v64_neg, v64_neg, Int.neg_mul]; omega) (by rw [hj]; split <;> split <;> omega)
  rw [this]
end Hedge
