import Derived.Test.YtakpfdhopodleaaSpecH
namespace Hedge
open Ieee
set_option linter.unusedSimpArgs false
set_option linter.unusedVariables false

theorem dnQ_nat {N D r : Nat} (hD : 0 < D) (hr : (r : Int) < I) (h1 : val single.binade r * D ≤ N) (h2 : (r : Int) + 1 = I ∨ N < val single.binade (r + 1) * D) : dnQ (N : Int) D = (r : Int) := by
  have hI := I_pos
  have hD' : (0 : Int) < (D : Int) := by exact_mod_cast hD
  apply dnQ_eq (by omega) hr
  intro i i1 i2
  constructor
  · intro h
    apply Int.le_of_not_gt
    intro hc
    rcases h2 with h2 | h2
    · omega
    · have h3 : v32 ((r : Int) + 1) ≤ v32 i := v32_le.2 (by omega)
      have e : v32 ((r : Int) + 1) = (val single.binade (r + 1) : Int) := by rw [← Int.natCast_succ]; exact sval_nat _ _
      rw [e] at h3
      have h4 := Int.mul_le_mul_of_nonneg_right h3 (Int.le_of_lt hD')
      have h5 : ((val single.binade (r + 1) * D : Nat) : Int) ≤ (N : Int) := by rw [Int.natCast_mul]; omega
      omega
  · intro h
    have h3 : v32 i ≤ v32 (r : Int) := v32_le.2 h
    have e : v32 (r : Int) = (val single.binade r : Int) := sval_nat _ _
    rw [e] at h3
    have h4 := Int.mul_le_mul_of_nonneg_right h3 (Int.le_of_lt hD')
    have h5 : ((val single.binade r * D : Nat) : Int) ≤ (N : Int) := by exact_mod_cast h1
    rw [Int.natCast_mul] at h5
    omega
theorem upQ_nat {N D r : Nat} (hD : 0 < D) (hr : (r : Int) ≤ I) (h1 : (r : Int) = I ∨ N ≤ val single.binade r * D) (h2 : r = 0 ∨ val single.binade (r - 1) * D < N) : upQ (N : Int) D = (r : Int) := by
  have hI := I_pos
  have hD' : (0 : Int) < (D : Int) := by exact_mod_cast hD
  apply upQ_eq (by omega) hr
  intro i i1 i2
  constructor
  · intro h
    apply Int.le_of_not_gt
    intro hc
    by_cases h0 : r = 0
    · subst h0
      have h3 : v32 i < 0 := v32_neg_iff.2 (by omega)
      have h4 := Int.mul_neg_of_neg_of_pos h3 hD'
      omega
    · have h2' : val single.binade (r - 1) * D < N := by omega
      have h3 : v32 i ≤ v32 ((r - 1 : Nat) : Int) := v32_le.2 (by omega)
      have e : v32 ((r - 1 : Nat) : Int) = (val single.binade (r - 1) : Int) := sval_nat _ _
      rw [e] at h3
      have h4 := Int.mul_le_mul_of_nonneg_right h3 (Int.le_of_lt hD')
      have h5 : ((val single.binade (r - 1) * D : Nat) : Int) < (N : Int) := by exact_mod_cast h2'
      rw [Int.natCast_mul] at h5
      omega
  · intro h
    rcases h1 with h1 | h1
    · omega
    · have h3 : v32 (r : Int) ≤ v32 i := v32_le.2 h
      have e : v32 (r : Int) = (val single.binade r : Int) := sval_nat _ _
      rw [e] at h3
      have h4 := Int.mul_le_mul_of_nonneg_right h3 (Int.le_of_lt hD')
      have h5 : (N : Int) ≤ ((val single.binade r * D : Nat) : Int) := by exact_mod_cast h1
      rw [Int.natCast_mul] at h5
      omega

/-- A number M * 2 ^ E and, where more, something behind its last bit: as a fraction, in units of float32. -/
def rN (M : Nat) (E : Int) (more : Bool) : Nat := (2 * M + more.toNat) * 2 ^ (E + 149).toNat
def rD (E : Int) : Nat := 2 * 2 ^ (-149 - E).toNat
def roundK (neg : Bool) (M : Nat) (E : Int) (more up : Bool) : Int :=
  if up then upQ (sgn neg (rN M E more)) (rD E) else dnQ (sgn neg (rN M E more)) (rD E)
theorem rD_pos (E : Int) : 0 < rD E := by unfold rD; have := Nat.two_pow_pos (-149 - E).toNat; omega

theorem roundK_neg (M : Nat) (E : Int) (more up : Bool) : roundK true M E more up = -roundK false M E more (!up) := by
  unfold roundK upQ sgn
  cases up <;> simp

/-- What round's first loop keeps. -/
structure Lp (M : Nat) (E : Int) (more : Bool) (M1 : Nat) (E1 : Int) (m1 : Bool) : Prop where
  ex : ∃ c : Nat, M1 = M / 2 ^ c ∧ E1 = E + c ∧ m1 = (more || decide (M % 2 ^ c ≠ 0))
  ok : E1 = E ∨ 8388608 ≤ M1 ∨ E1 ≤ -149

theorem Lp.start (M : Nat) (E : Int) (more : Bool) : Lp M E more M E more :=
  ⟨⟨0, by simp, by simp, by simp [Nat.mod_one]⟩, Or.inl rfl⟩
theorem Lp.next {M M1 : Nat} {E E1 : Int} {more m1 : Bool} (h : Lp M E more M1 E1 m1) (hc : 16777216 ≤ M1 ∨ (E1 < -149 ∧ 0 < M1)) : Lp M E more (M1 / 2) (E1 + 1) (m1 || decide (M1 % 2 ≠ 0)) := by
  obtain ⟨⟨c, e1, e2, e3⟩, ok⟩ := h
  refine ⟨⟨c + 1, ?_, by omega, ?_⟩, ?_⟩
  · rw [e1, Nat.div_div_eq_div_mul, Nat.pow_succ]
  · rw [e3, e1]
    have hm : M % 2 ^ (c + 1) = M % 2 ^ c + 2 ^ c * (M / 2 ^ c % 2) := by rw [Nat.pow_succ, Nat.mod_mul]
    have hp := Nat.two_pow_pos c
    have : (M % 2 ^ (c + 1) ≠ 0) ↔ (M % 2 ^ c ≠ 0 ∨ M / 2 ^ c % 2 ≠ 0) := by
      rw [hm]
      constructor
      · intro h
        by_cases h1 : M % 2 ^ c = 0
        · right; intro h2; apply h; rw [h1, h2]; simp
        · exact Or.inl h1
      · rintro (h | h)
        · omega
        · intro h0
          have h3 : 2 ^ c * (M / 2 ^ c % 2) = 0 := by omega
          rcases Nat.mul_eq_zero.1 h3 with h4 | h4
          · omega
          · exact h h4
    rw [Bool.or_assoc]
    congr 1
    rw [Bool.eq_iff_iff]
    simp only [Bool.or_eq_true, decide_eq_true_eq]
    exact this.symm
  · rcases hc with hc | hc
    · right; left; omega
    · right; right; omega

/-- The bounds that the first loop leaves: M1 * 2 ^ c units are the number's floor. -/
theorem Lp.floor {M M1 : Nat} {E E1 : Int} {more m1 : Bool} (h : Lp M E more M1 E1 m1) (hE : -149 ≤ E1) :
    2 * (M1 * 2 ^ (E1 + 149).toNat) * 2 ^ (-149 - E).toNat ≤ rN M E more ∧ rN M E more < 2 * ((M1 + 1) * 2 ^ (E1 + 149).toNat) * 2 ^ (-149 - E).toNat ∧
    (m1 = false ↔ 2 * (M1 * 2 ^ (E1 + 149).toNat) * 2 ^ (-149 - E).toNat = rN M E more) := by
  obtain ⟨⟨c, e1, e2, e3⟩, ok⟩ := h
  have hs : (E1 + 149).toNat + (-149 - E).toNat = c + (E + 149).toNat := by omega
  have hdm := Nat.div_add_mod M (2 ^ c)
  have hml := Nat.mod_lt M (Nat.two_pow_pos c)
  rw [← e1] at hdm
  have f : ∀ k : Nat, 2 * (k * 2 ^ (E1 + 149).toNat) * 2 ^ (-149 - E).toNat = (2 * (k * 2 ^ c)) * 2 ^ (E + 149).toNat := by
    intro k
    rw [Nat.mul_assoc, Nat.mul_assoc k, ← Nat.pow_add, hs, Nat.pow_add, ← Nat.mul_assoc k, ← Nat.mul_assoc]
  rw [f, f]
  unfold rN
  have hp := Nat.two_pow_pos (E + 149).toNat
  have ht : more.toNat ≤ 1 := Bool.toNat_le more
  have ec : M1 * 2 ^ c = 2 ^ c * M1 := Nat.mul_comm _ _
  have ec1 : (M1 + 1) * 2 ^ c = 2 ^ c * M1 + 2 ^ c := by rw [Nat.add_mul, Nat.one_mul, Nat.mul_comm]
  refine ⟨Nat.mul_le_mul_right _ (by omega), Nat.mul_lt_mul_of_pos_right (by omega) hp, ?_⟩
  constructor
  · intro h
    rw [h] at e3
    have h3 := e3.symm
    rw [Bool.or_eq_false_iff] at h3
    obtain ⟨h1, h4⟩ := h3
    have h2 : M % 2 ^ c = 0 := by simpa using h4
    have h5 : 2 * (M1 * 2 ^ c) = 2 * M + more.toNat := by rw [h1]; simp; omega
    rw [h5]
  · intro h
    have h1 := Nat.eq_of_mul_eq_mul_right hp h
    rw [e3]
    have h2 : more = false := by
      cases hm : more
      · rfl
      · rw [hm] at h1; simp at h1; omega
    have h3 : M % 2 ^ c = 0 := by rw [h2] at h1; simp at h1; omega
    rw [h2, h3]; rfl
end Hedge
namespace Hedge
open Ieee
set_option linter.unusedSimpArgs false
set_option linter.unusedVariables false

/-- What stands behind round's first loop and its first test. -/
structure Md (M : Nat) (E : Int) (more : Bool) (M1 : Nat) (E2 : Int) (m1 : Bool) : Prop where
  lt : M1 < 16777216
  ge : -149 ≤ E2
  lo : M1 * 2 ^ (E2 + 149).toNat * rD E ≤ rN M E more
  hi : rN M E more < (M1 + 1) * 2 ^ (E2 + 149).toNat * rD E
  eq : m1 = false ↔ M1 * 2 ^ (E2 + 149).toNat * rD E = rN M E more
  ok : m1 = false ∨ 8388608 ≤ M1 ∨ E2 = -149

theorem two_mid (a b : Nat) : 2 * a * b = a * (2 * b) := by rw [Nat.mul_comm 2 a, Nat.mul_assoc]

theorem Md.of_loop {M M1 : Nat} {E E1 : Int} {more m1 : Bool} (h : Lp M E more M1 E1 m1) (hm : more = true → 8388608 ≤ M) (h1 : M1 < 16777216) (h2 : -149 ≤ E1 ∨ M1 = 0) :
    Md M E more M1 (if E1 < -149 then -149 else E1) m1 := by
  by_cases hE : E1 < -149
  · rw [if_pos hE]
    have h0 : M1 = 0 := by omega
    subst h0
    obtain ⟨⟨c, e1, e2, e3⟩, ok⟩ := h
    have hMc : M < 2 ^ c := by
      apply Nat.lt_of_not_le
      intro hc
      have := Nat.div_pos hc (Nat.two_pow_pos c)
      omega
    have ht : more.toNat ≤ 1 := Bool.toNat_le more
    have ea : (E + 149).toNat = 0 := by omega
    have hN : rN M E more = 2 * M + more.toNat := by unfold rN; rw [ea]; simp
    have hD : 2 * 2 ^ c ≤ rD E := by unfold rD; exact Nat.mul_le_mul_left _ (Nat.pow_le_pow_right (by omega) (by omega))
    refine ⟨by omega, by omega, by simp, ?_, ?_, Or.inr (Or.inr rfl)⟩
    · rw [hN]; simp; omega
    · rw [hN, e3, Nat.mod_eq_of_lt hMc]
      simp only [Nat.zero_mul, Bool.or_eq_false_iff]
      constructor
      · rintro ⟨h3, h4⟩
        have : M = 0 := by simpa using h4
        rw [h3, this]; rfl
      · intro h3
        have h4 : M = 0 := by omega
        have h5 : more.toNat = 0 := by omega
        exact ⟨by cases hm : more; · rfl
                  · rw [hm] at h5; simp at h5, by simp [h4]⟩
  · rw [if_neg hE]
    obtain ⟨f1, f2, f3⟩ := h.floor (by omega)
    rw [two_mid] at f1 f2 f3
    refine ⟨h1, by omega, f1, f2, f3, ?_⟩
    obtain ⟨⟨c, e1, e2, e3⟩, ok⟩ := h
    rcases ok with ok | ok | ok
    · have hc : c = 0 := by omega
      subst hc
      simp [Nat.mod_one] at e1 e3
      by_cases hmm : more = true
      · right; left; rw [e1]; exact hm hmm
      · left; rw [e3]; simpa using hmm
    · exact Or.inr (Or.inl ok)
    · right; right; omega

/-- The rung of a mantissa and an exponent. -/
def rungOf (M : Nat) (E : Int) : Nat := (E + 149).toNat * 8388608 + M
theorem val_rungOf {M : Nat} {E : Int} (h1 : M ≤ 16777216) (h2 : 8388608 ≤ M ∨ E = -149) : val single.binade (rungOf M E) = M * 2 ^ (E + 149).toNat := by
  unfold rungOf
  have := val_shift single.binade (E + 149).toNat M hB32 (by rw [bi32]; omega) (by rw [bi32]; omega)
  rw [bi32] at this ⊢; exact this

theorem val_top {M : Nat} {E : Int} (h1 : 8388608 ≤ M) (h2 : 104 < E) : val single.binade 2139095039 < M * 2 ^ (E + 149).toNat := by
  have e : (2139095039 : Nat) = 253 * single.binade + 16777215 := by rw [bi32]
  rw [e, val_shift single.binade 253 16777215 hB32 (Or.inr (by rw [bi32]; omega)) (by rw [bi32]; omega)]
  have h3 : 16777216 * 2 ^ 253 ≤ M * 2 ^ (E + 149).toNat := by
    have h4 : 8388608 * 2 ^ 254 ≤ M * 2 ^ (E + 149).toNat := pow_scale_le h1 (by omega)
    have h5 : 8388608 * 2 ^ 254 = 16777216 * 2 ^ 253 := by rw [show (254 : Nat) = 253 + 1 by rfl, Nat.pow_succ]
    omega
  have := Nat.two_pow_pos 253
  omega

def I32 : Nat := 2139095040
theorem I_nat : I = (I32 : Int) := rfl
/-- What round tells, as a rung. -/
def finR (M4 : Nat) (E4 : Int) (away : Bool) : Nat := if M4 = 0 then 0 else if 104 < E4 then (if away then I32 else I32 - 1) else rungOf M4 E4

theorem round_exact {N D M4 : Nat} {E4 : Int} (away : Bool) (hD : 0 < D) (h : M4 * 2 ^ (E4 + 149).toNat * D = N) (hlt : M4 < 16777216) (hge : -149 ≤ E4) (hn : 8388608 ≤ M4 ∨ E4 = -149 ∨ M4 = 0) :
    ((finR M4 E4 away : Nat) : Int) = if away then upQ (N : Int) D else dnQ (N : Int) D := by
  have hI := I_pos
  unfold finR
  by_cases h0 : M4 = 0
  · rw [if_pos h0]
    subst h0
    have hN : N = 0 := by rw [← h]; simp
    subst hN
    cases away
    · rw [if_neg (by simp)]
      exact (dnQ_nat (r := 0) hD hI (by rw [val_zero]; simp) (Or.inr (by have := val_lt_succ single.binade 0 hB32; rw [val_zero] at this; exact Nat.mul_pos this hD))).symm
    · rw [if_pos rfl]
      exact (upQ_nat (r := 0) hD (Int.le_of_lt hI) (Or.inr (by simp)) (Or.inl rfl)).symm
  · rw [if_neg h0]
    by_cases hE : 104 < E4
    · rw [if_pos hE]
      have hM : 8388608 ≤ M4 := by omega
      have ht := val_top hM hE
      have hN : val single.binade 2139095039 * D < N := by rw [← h]; exact Nat.mul_lt_mul_of_pos_right ht hD
      cases away
      · rw [if_neg (by simp), if_neg (by simp)]
        exact (dnQ_nat (r := I32 - 1) hD (by decide) (Nat.le_of_lt hN) (Or.inl (by decide))).symm
      · rw [if_pos rfl, if_pos rfl]
        exact (upQ_nat (r := I32) hD (by decide) (Or.inl rfl) (Or.inr hN)).symm
    · rw [if_neg hE]
      have hv := val_rungOf (M := M4) (E := E4) (by omega) (by omega)
      have hr : rungOf M4 E4 < I32 := by unfold rungOf I32; omega
      cases away
      · rw [if_neg (by simp)]
        refine (dnQ_nat hD (by rw [I_nat]; omega) (by rw [hv, h]; exact Nat.le_refl _) (Or.inr ?_)).symm
        have := val_lt_succ single.binade (rungOf M4 E4) hB32
        rw [hv] at this
        rw [← h]; exact Nat.mul_lt_mul_of_pos_right this hD
      · rw [if_pos rfl]
        refine (upQ_nat hD (by rw [I_nat]; omega) (Or.inr (by rw [hv, h]; exact Nat.le_refl _)) ?_).symm
        by_cases hr0 : rungOf M4 E4 = 0
        · exact Or.inl hr0
        · right
          have := val_lt single.binade hB32 (show rungOf M4 E4 - 1 < rungOf M4 E4 by omega)
          rw [hv] at this
          rw [← h]; exact Nat.mul_lt_mul_of_pos_right this hD

/-- round, where nothing is behind, or towards 0. -/
theorem round_down {M M1 : Nat} {E E2 : Int} {more m1 : Bool} (h : Md M E more M1 E2 m1) (hm : m1 = true) :
    ((finR M1 E2 false : Nat) : Int) = dnQ ((rN M E more : Nat) : Int) (rD E) := by
  obtain ⟨lt, ge, lo, hi, eq, ok⟩ := h
  have hI := I_pos
  have hD := rD_pos E
  have ok' : 8388608 ≤ M1 ∨ E2 = -149 := by rw [hm] at ok; simpa using ok
  generalize rD E = D at *
  generalize rN M E more = N at *
  unfold finR
  by_cases h0 : M1 = 0
  · rw [if_pos h0]
    subst h0
    have hE : E2 = -149 := by omega
    subst hE
    refine (dnQ_nat (r := 0) hD hI (by rw [val_zero]; simp) (Or.inr ?_)).symm
    have v1 : val single.binade (0 + 1) = 1 := by
      have := val_shift single.binade 0 1 hB32 (Or.inl rfl) (by rw [bi32]; omega)
      simpa using this
    rw [v1]; simpa using hi
  · rw [if_neg h0]
    by_cases hE : 104 < E2
    · rw [if_pos hE, if_neg (by simp)]
      have ht := val_top (M := M1) (by omega) hE
      exact (dnQ_nat (r := I32 - 1) hD (by decide) (Nat.le_trans (Nat.mul_le_mul_right D (Nat.le_of_lt ht)) lo) (Or.inl (by decide))).symm
    · rw [if_neg hE]
      have hv := val_rungOf (M := M1) (E := E2) (by omega) ok'
      have hr : rungOf M1 E2 < I32 := by unfold rungOf I32; omega
      refine (dnQ_nat hD (by rw [I_nat]; omega) (by rw [hv]; exact lo) (Or.inr ?_)).symm
      have hv1 : val single.binade (rungOf M1 E2 + 1) = (M1 + 1) * 2 ^ (E2 + 149).toNat := by
        have := val_rungOf (M := M1 + 1) (E := E2) (by omega) (by omega)
        unfold rungOf at this ⊢; rw [Nat.add_assoc]; exact this
      rw [hv1]; exact hi

/-- round, away from 0. -/
theorem round_up {M M1 : Nat} {E E2 : Int} {more m1 : Bool} (h : Md M E more M1 E2 m1) (hm : m1 = true) :
    ((finR (if M1 + 1 = 16777216 then 8388608 else M1 + 1) (if M1 + 1 = 16777216 then E2 + 1 else E2) true : Nat) : Int) = upQ ((rN M E more : Nat) : Int) (rD E) := by
  obtain ⟨lt, ge, lo, hi, eq, ok⟩ := h
  have hI := I_pos
  have hD := rD_pos E
  have ok' : 8388608 ≤ M1 ∨ E2 = -149 := by rw [hm] at ok; simpa using ok
  have lo' : M1 * 2 ^ (E2 + 149).toNat * rD E < rN M E more := by
    have : ¬ (M1 * 2 ^ (E2 + 149).toNat * rD E = rN M E more) := by intro he; rw [hm] at eq; have := eq.2 he; cases this
    omega
  generalize rD E = D at *
  generalize rN M E more = N at *
  have hv := val_rungOf (M := M1) (E := E2) (by omega) ok'
  have hv1 : val single.binade (rungOf M1 E2 + 1) = (M1 + 1) * 2 ^ (E2 + 149).toNat := by
    have := val_rungOf (M := M1 + 1) (E := E2) (by omega) (by omega)
    unfold rungOf at this ⊢; rw [Nat.add_assoc]; exact this
  have hrung : rungOf (if M1 + 1 = 16777216 then 8388608 else M1 + 1) (if M1 + 1 = 16777216 then E2 + 1 else E2) = rungOf M1 E2 + 1 := by
    unfold rungOf; split <;> omega
  unfold finR
  have h0 : ¬ (if M1 + 1 = 16777216 then 8388608 else M1 + 1) = 0 := by split <;> omega
  rw [if_neg h0]
  by_cases hE : 104 < (if M1 + 1 = 16777216 then E2 + 1 else E2)
  · rw [if_pos hE, if_pos rfl]
    refine (upQ_nat (r := I32) hD (by decide) (Or.inl rfl) (Or.inr ?_)).symm
    show val single.binade 2139095039 * D < N
    by_cases hE2 : 104 < E2
    · have ht := val_top (M := M1) (by omega) hE2
      exact Nat.lt_trans (Nat.mul_lt_mul_of_pos_right ht hD) lo'
    · have hM : M1 = 16777215 := by split at hE <;> omega
      have hE3 : E2 = 104 := by split at hE <;> omega
      have : rungOf M1 E2 = 2139095039 := by unfold rungOf; omega
      rw [this] at hv
      rw [hv]; exact lo'
  · rw [if_neg hE, hrung]
    have hr : rungOf M1 E2 + 1 ≤ I32 := by rw [← hrung]; unfold rungOf I32; split at hE <;> split <;> omega
    refine (upQ_nat hD (by rw [I_nat]; omega) (Or.inr (by rw [hv1]; exact Nat.le_of_lt hi)) (Or.inr ?_)).symm
    show val single.binade (rungOf M1 E2 + 1 - 1) * D < N
    rw [Nat.add_sub_cancel, hv]; exact lo'
end Hedge
