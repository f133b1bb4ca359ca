import Derived.Test.YtakpfdhopodleaaFloatC
import Derived.Laws.FloatArith
namespace Hedge
open Ieee
set_option linter.unusedSimpArgs false
set_option linter.unusedVariables false

theorem lp32 : single.leastPlace = -149 := by decide +kernel
theorem lp64 : double.leastPlace = -1074 := by decide +kernel
theorem sw32 : single.signWeight = 2147483648 := by decide +kernel
theorem sw64 : double.signWeight = 9223372036854775808 := by decide +kernel
theorem bi32 : single.binade = 8388608 := by decide +kernel
theorem bi64 : double.binade = 4503599627370496 := by decide +kernel
theorem in32 : single.infRung = 2139095040 := by decide +kernel
theorem in64 : double.infRung = 9218868437227405312 := by decide +kernel

theorem near_zero (B : Nat) (hB : 0 < B) : NearN B 0 1 0 := by
  refine ⟨0, by rw [val_zero]; omega, ?_, Or.inl ⟨rfl, by omega⟩⟩
  have := val_lt_succ B 0 hB
  rw [val_zero] at this; omega

theorem sum_data (f : Format) (p q : Bool) (m n i j s : Nat) (Z : Int) (hZ : Z = sgn p (m * 2 ^ i) + sgn q (n * 2 ^ j)) (hs : s < f.infRung) (hz : Z.natAbs ≤ val f.binade s) :
    ∃ w, ((Datum.number p m (f.leastPlace + (i : Int))).sum (.number q n (f.leastPlace + (j : Int)))).map f.write = some w ∧ w < 2 ^ f.width ∧ w % f.signWeight < f.infRung ∧ RN f.binade Z (idx f w) := by
  have hB : 0 < f.binade := Nat.two_pow_pos _
  have hI := f.infRung_lt
  refine ⟨_, rfl, f.write_lt _, ?_⟩
  generalize hlp : f.leastPlace = lp0 at *
  have eb : min (lp0 + (i : Int)) (lp0 + (j : Int)) = lp0 + (min i j : Nat) := by omega
  rw [eb]
  have e1 : (lp0 + (i : Int) - (lp0 + (min i j : Nat))).toNat = i - min i j := by omega
  have e2 : (lp0 + (j : Int) - (lp0 + (min i j : Nat))).toNat = j - min i j := by omega
  rw [e1, e2, signed_eq, signed_eq]
  have hc : 0 < 2 ^ min i j := Nat.two_pow_pos _
  have hT : (sgn p (m * 2 ^ (i - min i j)) + sgn q (n * 2 ^ (j - min i j))) * ((2 ^ min i j : Nat) : Int) = Z := by
    rw [hZ, Int.add_mul, ← sgn_mul, ← sgn_mul, Nat.mul_assoc, ← Nat.pow_add, Nat.mul_assoc, ← Nat.pow_add]
    congr 4 <;> omega
  generalize sgn p (m * 2 ^ (i - min i j)) + sgn q (n * 2 ^ (j - min i j)) = T at *
  simp only [Format.write]
  by_cases h0 : T = 0
  · subst h0
    have hZ0 : Z = 0 := by rw [← hT]; simp
    simp only [if_true, Int.natAbs_zero]
    unfold Format.nearest
    rw [if_pos rfl]
    obtain ⟨a1, a2, a3⟩ := idx_word f (p && q) 0 (by omega)
    refine ⟨by rw [a2]; omega, ?_⟩
    rw [a1, hZ0]
    refine ⟨0, by simpa using near_zero f.binade hB, by simp [sgn]⟩
  · rw [if_neg h0]
    obtain ⟨r, hr, hn⟩ := nearest_spec f (decide (T < 0)) T.natAbs (lp0 + (min i j : Nat)) (by omega)
    rw [hlp] at hn
    have ea : (lp0 + ((min i j : Nat) : Int) - lp0).toNat = min i j := by omega
    have eb : (lp0 - (lp0 + ((min i j : Nat) : Int))).toNat = 0 := by omega
    rw [ea, eb] at hn
    have eN : T.natAbs * 2 ^ min i j = Z.natAbs := by rw [← hT, Int.natAbs_mul]; simp
    rw [eN] at hn
    have hrs : r ≤ s := near_hi hB (by simp) hn (by simpa using hz)
    rw [hr, Nat.min_eq_left (by omega)]
    obtain ⟨a1, a2, a3⟩ := idx_word f (decide (T < 0)) r (by omega)
    refine ⟨by rw [a2]; omega, r, by simpa using hn, ?_⟩
    rw [a1]
    congr 1
    have hc' : (0 : Int) < ((2 ^ min i j : Nat) : Int) := by exact_mod_cast hc
    generalize ((2 ^ min i j : Nat) : Int) = c at *
    by_cases hT0 : T < 0
    · have : T * c < 0 := Int.mul_neg_of_neg_of_pos hT0 hc'
      simp [hT0]; omega
    · have : 0 ≤ T * c := Int.mul_nonneg (by omega) (by omega)
      simp [hT0]; omega

theorem add_fin (f : Format) (x y s : Nat) (hx : x % f.signWeight < f.infRung) (hy : y % f.signWeight < f.infRung) (hs : s < f.infRung) (hz : (sval f.binade (idx f x) + sval f.binade (idx f y)).natAbs ≤ val f.binade s) :
    ∃ w, f.add x y = some w ∧ w < 2 ^ f.width ∧ w % f.signWeight < f.infRung ∧ RN f.binade (sval f.binade (idx f x) + sval f.binade (idx f y)) (idx f w) := by
  unfold Format.add
  rw [read_fin f x hx, read_fin f y hy]
  exact sum_data f _ _ _ _ _ _ s _ (by unfold idx; rw [sval_sgn, sval_sgn]; rfl) hs hz

theorem sub_fin (f : Format) (x y s : Nat) (hx : x % f.signWeight < f.infRung) (hy : y % f.signWeight < f.infRung) (hs : s < f.infRung) (hz : (sval f.binade (idx f x) - sval f.binade (idx f y)).natAbs ≤ val f.binade s) :
    ∃ w, f.sub x y = some w ∧ w < 2 ^ f.width ∧ w % f.signWeight < f.infRung ∧ RN f.binade (sval f.binade (idx f x) - sval f.binade (idx f y)) (idx f w) := by
  unfold Format.sub
  rw [read_fin f x hx, read_fin f y hy]
  have e : ∀ (b : Bool) (n : Nat), sgn (!b) n = - sgn b n := by intro b n; cases b <;> simp [sgn]
  exact sum_data f _ _ _ _ _ _ s _ (by unfold idx; rw [sval_sgn, sval_sgn, e, Int.sub_eq_add_neg]; rfl) hs hz

/-! Scaling of a place: 'm * 2 ^ (place - lp)' as a fraction. -/
theorem scale_place (m e c : Nat) (place lp : Int) (h : place - lp = (e : Int) - (c : Int)) :
    (m * 2 ^ (place - lp).toNat) * 2 ^ c = (m * 2 ^ e) * 2 ^ (lp - place).toNat := by
  rw [Nat.mul_assoc, Nat.mul_assoc, ← Nat.pow_add, ← Nat.pow_add]
  congr 2; omega

def topEx : Nat := 2046
theorem inf_top : double.infRung = topEx * double.binade + double.binade := by decide +kernel

/-- How many units of float64 a unit of float32 is. -/
def c925 : Nat := 925
def U : Nat := 2 ^ c925
theorem U_pos : 0 < U := by unfold U; exact Nat.two_pow_pos _
theorem pow_scale_lt {m c a b : Nat} (h : m < c) (hab : a ≤ b) : m * 2 ^ a < c * 2 ^ b :=
  Nat.lt_of_le_of_lt (Nat.mul_le_mul_left _ (Nat.pow_le_pow_right (by omega) hab)) (Nat.mul_lt_mul_of_pos_right h (Nat.two_pow_pos b))
theorem pow_scale_le {m c a b : Nat} (h : m ≤ c) (hab : a ≤ b) : m * 2 ^ a ≤ c * 2 ^ b :=
  Nat.mul_le_mul h (Nat.pow_le_pow_right (by omega) hab)

theorem ftf_number {src dst : Go.FloatKind} {bits m w : Nat} {s : Bool} {e : Int} (h : src ≠ dst) (hd : src.format.read bits = .number s m e) (hw : dst.format.nearest s m e = w) (hf : (dst.format.read w).isInfinity = false) :
    Go.floatToFloatBits src bits dst = some w := by
  unfold Go.floatToFloatBits Go.FloatKind.decode
  rw [if_neg h, hd]
  subst hw
  exact if_neg (by rw [Bool.not_eq_true]; exact hf)

/-- A word of float32 as one of float64. -/
theorem widen_fin (x : Nat) (hx : x % single.signWeight < single.infRung) :
    ∃ w, Go.floatToFloatBits .f32 x .f64 = some w ∧ w < 2 ^ double.width ∧ w % double.signWeight < double.infRung ∧
      sval double.binade (idx double w) = sval single.binade (idx single x) * (U : Int) ∧ (w / double.signWeight % 2 == 1) = (x / single.signWeight % 2 == 1) := by
  have hB : 0 < double.binade := Nat.two_pow_pos _
  have hI := double.infRung_lt
  have hS : 0 < single.binade := Nat.two_pow_pos _
  obtain ⟨k1, k2, k3⟩ := split_rung single.binade (x % single.signWeight) hS
  have hread := read_fin single x hx
  unfold idx
  generalize x % single.signWeight = r at *
  generalize (x / single.signWeight % 2 == 1) = p at *
  have hv : val single.binade r = sig single.binade r * 2 ^ ex single.binade r := rfl
  have hex : ex single.binade r ≤ 254 := by
    have : r / single.binade ≤ 255 := by
      apply Nat.le_of_lt_succ
      apply (Nat.div_lt_iff_lt_mul hS).2
      rw [in32] at hx; rw [bi32]; omega
    unfold ex; omega
  generalize sig single.binade r = m at *
  generalize ex single.binade r = e at *
  have hm : m ≤ 2 * double.binade := by rw [bi64]; rw [bi32] at k2; omega
  obtain ⟨t, ht⟩ := val_rep double.binade hB (e + c925) m hm
  have htI : t < double.infRung := by
    apply (val_lt_iff double.binade hB).1
    have e1 : val double.binade double.infRung = double.binade * 2 ^ topEx := by
      rw [inf_top]
      exact val_shift double.binade topEx double.binade hB (Or.inr (Nat.le_refl _)) (by rw [bi64]; omega)
    rw [ht, e1, bi64]
    exact pow_scale_lt (by rw [bi32] at k2; omega) (by unfold topEx c925; omega)
  have key : double.nearest p m (single.leastPlace + (e : Nat)) = double.word p t := by
    by_cases hm0 : m = 0
    · subst hm0
      have : t = 0 := val_inj double.binade hB (by rw [ht, val_zero]; simp)
      subst this
      unfold Format.nearest; rw [if_pos rfl]
    · obtain ⟨r', hr', hn⟩ := nearest_spec double p m (single.leastPlace + (e : Nat)) hm0
      have es := scale_place m (e + c925) 0 (single.leastPlace + (e : Nat)) double.leastPlace (by rw [lp32, lp64]; unfold c925; omega)
      have ez : (double.leastPlace - (single.leastPlace + (e : Nat))).toNat = 0 := by rw [lp32, lp64]; omega
      rw [ez] at hn es
      simp only [Nat.pow_zero, Nat.mul_one] at es
      have : r' = t := near_exact hB (by simp) hn (by rw [ht, es]; simp)
      subst this
      rw [hr', Nat.min_eq_left (by omega)]
  obtain ⟨a1, a2, a3⟩ := idx_word double p t (by omega)
  refine ⟨double.word p t, ?_, double.word_lt p (by omega), by rw [a2]; exact htI, ?_, a3⟩
  · refine ftf_number (by decide) hread key ?_
    show (double.read _).isInfinity = false
    rw [read_fin double _ (by rw [a2]; exact htI)]; rfl
  · rw [a2, a3, sval_sgn, sval_sgn, ← sgn_mul, ht, hv, Nat.mul_assoc, U, ← Nat.pow_add]

theorem widen_inf (x : Nat) (hx : x % single.signWeight = single.infRung) :
    Go.floatToFloatBits .f32 x .f64 = some (double.word (x / single.signWeight % 2 == 1) double.infRung) := by
  unfold Go.floatToFloatBits
  rw [if_neg (by decide)]
  unfold Go.FloatKind.decode Go.FloatKind.encode
  simp only [Go.FloatKind.format]
  rw [read_inf single good_single x hx]
  simp only [Format.write]

/-- float32(x) of a float64 that is not beyond the greatest float32. -/
theorem narrow_fin (x : Nat) (hx : x % double.signWeight < double.infRung) (hm : val double.binade (x % double.signWeight) ≤ val single.binade (single.infRung - 1) * U) :
    ∃ w, Go.floatToFloatBits .f64 x .f32 = some w ∧ w < 2 ^ single.width ∧ w % single.signWeight < single.infRung ∧
      (w / single.signWeight % 2 == 1) = (x / double.signWeight % 2 == 1) ∧
      ∃ N D, 0 < D ∧ NearN single.binade N D (w % single.signWeight) ∧ N * U = val double.binade (x % double.signWeight) * D := by
  have hB : 0 < double.binade := Nat.two_pow_pos _
  have hI := single.infRung_lt
  have hS : 0 < single.binade := Nat.two_pow_pos _
  have hread := read_fin double x hx
  generalize x % double.signWeight = r at *
  generalize (x / double.signWeight % 2 == 1) = p at *
  have hv : val double.binade r = sig double.binade r * 2 ^ ex double.binade r := rfl
  generalize sig double.binade r = m at *
  generalize ex double.binade r = e at *
  have key : ∃ t, single.nearest p m (double.leastPlace + (e : Nat)) = single.word p t ∧ t < single.infRung ∧ ∃ N D, 0 < D ∧ NearN single.binade N D t ∧ N * U = val double.binade r * D := by
    by_cases hm0 : m = 0
    · subst hm0
      refine ⟨0, by unfold Format.nearest; rw [if_pos rfl], by rw [in32]; omega, 0, 1, by omega, near_zero _ hS, by rw [hv]; simp⟩
    · obtain ⟨t, ht, hn⟩ := nearest_spec single p m (double.leastPlace + (e : Nat)) hm0
      have es := scale_place m e c925 (double.leastPlace + (e : Nat)) single.leastPlace (by rw [lp32, lp64]; unfold c925; omega)
      rw [← hv] at es
      change _ * U = _ at es
      have hD : 0 < 2 ^ (single.leastPlace - (double.leastPlace + (e : Nat))).toNat := Nat.two_pow_pos _
      generalize 2 ^ (single.leastPlace - (double.leastPlace + (e : Nat))).toNat = D at *
      generalize m * 2 ^ (double.leastPlace + (e : Nat) - single.leastPlace).toNat = N at *
      have hle : t ≤ single.infRung - 1 := by
        apply near_hi hS hD hn
        apply Nat.le_of_mul_le_mul_right _ U_pos
        rw [es, Nat.mul_right_comm]
        exact Nat.mul_le_mul_right _ hm
      have h0 : 0 < single.infRung := by rw [in32]; omega
      exact ⟨t, by rw [ht, Nat.min_eq_left (by omega)], by omega, N, D, hD, hn, es⟩
  obtain ⟨t, ht, htI, N, D, hD, hn, hs⟩ := key
  obtain ⟨a1, a2, a3⟩ := idx_word single p t (by omega)
  refine ⟨single.word p t, ?_, single.word_lt p (by omega), by rw [a2]; exact htI, a3, N, D, hD, by rw [a2]; exact hn, hs⟩
  refine ftf_number (by decide) hread ht ?_
  show (single.read _).isInfinity = false
  rw [read_fin single _ (by rw [a2]; exact htI)]; rfl
end Hedge
