import Derived.Test.YtakpfdhopodleaaRefG
namespace Hedge
open Ieee
set_option linter.unusedSimpArgs false
set_option linter.unusedVariables false

/-- From magnitudes to numbers with a sign. -/
theorem sgn_cmp2 {R Z D0 D : Nat} (hD0 : 0 < D0) (hD : 0 < D) (h : ∀ s, s < single.infRung → (val single.binade s * D0 ≤ R ↔ val single.binade s * D ≤ Z) ∧ (R ≤ val single.binade s * D0 ↔ Z ≤ val single.binade s * D))
    (b : Bool) {a : Int} (h1 : -I < a) (h2 : a < I) :
    (v32 a * (D0 : Int) ≤ sgn b R ↔ v32 a * (D : Int) ≤ sgn b Z) ∧ (sgn b R ≤ v32 a * (D0 : Int) ↔ sgn b Z ≤ v32 a * (D : Int)) := by
  have h0 := h 0 (by rw [in32]; omega)
  rw [val_zero, Nat.zero_mul, Nat.zero_mul] at h0
  obtain ⟨s, hs, hsa⟩ : ∃ s : Nat, s < single.infRung ∧ (a = (s : Int) ∨ a = -(s : Int)) := ⟨a.natAbs, by rw [in32]; unfold I at *; omega, by omega⟩
  obtain ⟨p, q⟩ := h s hs
  have cU : (val single.binade s : Int) * (D0 : Int) = ((val single.binade s * D0 : Nat) : Int) := by rw [Int.natCast_mul]
  have cD : (val single.binade s : Int) * (D : Int) = ((val single.binade s * D : Nat) : Int) := by rw [Int.natCast_mul]
  have z1 : val single.binade s * D0 = 0 ↔ val single.binade s * D = 0 := by
    constructor
    · intro he
      rcases Nat.mul_eq_zero.1 he with he | he
      · rw [he]; simp
      · omega
    · intro he
      rcases Nat.mul_eq_zero.1 he with he | he
      · rw [he]; simp
      · omega
  rcases hsa with rfl | rfl
  · rw [v32_nat, cU, cD]
    generalize val single.binade s * D0 = A at *
    generalize val single.binade s * D = C at *
    cases b
    · simp only [sgn]; constructor
      · simp <;> omega
      · simp <;> omega
    · simp only [sgn, if_true]; constructor <;> omega
  · rw [v32_neg, v32_nat, Int.neg_mul, Int.neg_mul, cU, cD]
    generalize val single.binade s * D0 = A at *
    generalize val single.binade s * D = C at *
    cases b
    · simp only [sgn]; constructor
      · simp <;> omega
      · simp <;> omega
    · simp only [sgn, if_true]; constructor <;> omega

theorem roundK_cmp {neg : Bool} {Q : Nat} {E : Int} {more : Bool} (up : Bool) {Z D : Nat} (hD : 0 < D)
    (h : ∀ s, s < single.infRung → (val single.binade s * rD E ≤ rN Q E more ↔ val single.binade s * D ≤ Z) ∧ (rN Q E more ≤ val single.binade s * rD E ↔ Z ≤ val single.binade s * D)) :
    roundK neg Q E more up = if up then upQ (sgn neg Z) D else dnQ (sgn neg Z) D := by
  unfold roundK
  obtain ⟨a, b, c⟩ := dnQ_spec (sgn neg Z) D
  obtain ⟨a', b', c'⟩ := upQ_spec (sgn neg Z) D
  cases up
  · simp only [Bool.false_eq_true, if_false]
    apply dnQ_eq a b
    intro i h1 h2
    rw [← c i h1 h2]
    exact (sgn_cmp2 (rD_pos E) hD h neg h1 h2).1
  · simp only [if_true]
    apply upQ_eq a' b'
    intro i h1 h2
    rw [← c' i h1 h2]
    exact (sgn_cmp2 (rD_pos E) hD h neg h1 h2).2

/-- A float32 stands on a number's grid, or is below it. -/
theorem grid32 (s a Q : Nat) (hQ : 8388608 ≤ Q) : (∃ h, val single.binade s = h * 2 ^ a) ∨ val single.binade s < Q * 2 ^ a := by
  obtain ⟨k1, k2, k3⟩ := split_rung single.binade s hB32
  have hb2 : 2 * single.binade = 16777216 := by rw [bi32]
  by_cases h : a ≤ ex single.binade s
  · left
    refine ⟨sig single.binade s * 2 ^ (ex single.binade s - a), ?_⟩
    unfold val
    rw [Nat.mul_assoc, ← Nat.pow_add, Nat.sub_add_cancel h]
  · right
    have h1 : val single.binade s < 16777216 * 2 ^ ex single.binade s := by
      unfold val; exact Nat.mul_lt_mul_of_pos_right (by omega) (Nat.two_pow_pos _)
    have h2 : 16777216 * 2 ^ ex single.binade s ≤ 16777216 * 2 ^ (a - 1) := Nat.mul_le_mul_left _ (Nat.pow_le_pow_right (by omega) (by omega))
    have h3 : 16777216 * 2 ^ (a - 1) = 8388608 * 2 ^ a := by
      rw [show a = (a - 1) + 1 by omega, Nat.pow_succ]
      rw [show a - 1 + 1 - 1 = a - 1 by omega]; omega
    have h4 : 8388608 * 2 ^ a ≤ Q * 2 ^ a := Nat.mul_le_mul_right _ hQ
    omega

/-- A quotient with something behind, against a float32. -/
theorem div_cmp {A B Q : Nat} {E : Int} {more : Bool} (hB : 0 < B) (hQ : Q = A / B) (hm : more = decide (A % B ≠ 0)) (hQ23 : 8388608 ≤ Q) (s : Nat) :
    (val single.binade s * rD E ≤ rN Q E more ↔ val single.binade s * 2 ^ (-149 - E).toNat * B ≤ A * 2 ^ (E + 149).toNat) ∧
    (rN Q E more ≤ val single.binade s * rD E ↔ A * 2 ^ (E + 149).toNat ≤ val single.binade s * 2 ^ (-149 - E).toNat * B) := by
  have hdm := Nat.div_add_mod A B
  have hml := Nat.mod_lt A hB
  rw [← hQ] at hdm
  have hσ : more.toNat = if A % B = 0 then 0 else 1 := by rw [hm]; by_cases h : A % B = 0 <;> simp [h]
  have key : ∀ h : Nat, (h * 2 ≤ 2 * Q + more.toNat ↔ h * B ≤ A) ∧ (2 * Q + more.toNat ≤ h * 2 ↔ A ≤ h * B) := by
    intro h
    have e1 : h ≤ Q ↔ h * B ≤ A := by
      rw [hQ]; exact Nat.le_div_iff_mul_le hB
    have e2 : Q + 1 ≤ h → A ≤ h * B := by
      intro hh
      have := Nat.mul_le_mul_right B hh
      rw [Nat.add_mul, Nat.one_mul, Nat.mul_comm Q] at this
      omega
    have e3 : A ≤ h * B → Q ≤ h ∧ (A % B ≠ 0 → Q < h) := by
      intro hh
      constructor
      · apply Nat.le_of_not_lt
        intro hc
        have := Nat.mul_le_mul_right B hc
        rw [Nat.succ_mul, Nat.mul_comm Q] at this
        omega
      · intro hne
        apply Nat.lt_of_not_le
        intro hc
        have := Nat.mul_le_mul_right B hc
        rw [Nat.mul_comm Q] at this
        omega
    rw [hσ]
    constructor
    · rw [← e1]; split <;> omega
    · constructor
      · intro hh
        by_cases hz : A % B = 0
        · rw [if_pos hz] at hh
          have := Nat.mul_le_mul_right B (show Q ≤ h by omega)
          rw [Nat.mul_comm Q] at this
          omega
        · rw [if_neg hz] at hh; exact e2 (by omega)
      · intro hh
        obtain ⟨g1, g2⟩ := e3 hh
        by_cases hz : A % B = 0
        · rw [if_pos hz]; omega
        · rw [if_neg hz]; have := g2 hz; omega
  unfold rN rD
  by_cases ha : (E + 149).toNat = 0
  · rw [ha]
    obtain ⟨k1, k2⟩ := key (val single.binade s * 2 ^ (-149 - E).toNat)
    have e : val single.binade s * (2 * 2 ^ (-149 - E).toNat) = val single.binade s * 2 ^ (-149 - E).toNat * 2 := by rw [Nat.mul_comm 2, ← Nat.mul_assoc]
    rw [e]; simp only [Nat.pow_zero, Nat.mul_one]
    exact ⟨k1, k2⟩
  · have hb : (-149 - E).toNat = 0 := by omega
    rw [hb]; simp only [Nat.pow_zero, Nat.mul_one]
    have hp := Nat.two_pow_pos (E + 149).toNat
    rcases grid32 s (E + 149).toNat Q hQ23 with ⟨h, hh⟩ | hlt
    · have g1 : h * 2 ^ (E + 149).toNat * 2 = h * 2 * 2 ^ (E + 149).toNat := Nat.mul_right_comm _ _ _
      have g2 : h * 2 ^ (E + 149).toNat * B = h * B * 2 ^ (E + 149).toNat := Nat.mul_right_comm _ _ _
      rw [hh, g1, g2]
      obtain ⟨k1, k2⟩ := key h
      constructor
      · rw [Nat.mul_le_mul_right_iff hp, Nat.mul_le_mul_right_iff hp]; exact k1
      · rw [Nat.mul_le_mul_right_iff hp, Nat.mul_le_mul_right_iff hp]; exact k2
    · have f1 : val single.binade s * 2 < (2 * Q + more.toNat) * 2 ^ (E + 149).toNat := by
        have : 2 * Q * 2 ^ (E + 149).toNat ≤ (2 * Q + more.toNat) * 2 ^ (E + 149).toNat := Nat.mul_le_mul_right _ (by omega)
        rw [Nat.mul_assoc] at this
        omega
      have f2 : val single.binade s * B < A * 2 ^ (E + 149).toNat := by
        have g1 := Nat.mul_lt_mul_of_pos_right hlt hB
        have g2 : Q * B ≤ A := by rw [Nat.mul_comm]; omega
        have g3 := Nat.mul_le_mul_right (2 ^ (E + 149).toNat) g2
        rw [Nat.mul_right_comm] at g3
        omega
      exact ⟨⟨fun _ => by omega, fun _ => by omega⟩, ⟨fun _ => by omega, fun _ => by omega⟩⟩

theorem q_big {T B : Nat} (hT : 2305843009213693952 ≤ T) (hB0 : 0 < B) (hB : B < 16777216) : 8388608 ≤ T / B := by
  apply (Nat.le_div_iff_mul_le hB0).2
  omega

theorem div_round {n1 n2 : Bool} {M1 M2 : Nat} {E1 E2 : Int} (up : Bool) (a0 : 0 < M1) (a1 : M1 < 16777216) (a2 : 8388608 ≤ M1 ∨ E1 = -149) (a3 : -149 ≤ E1) (a4 : E1 ≤ 104)
    (b0 : 0 < M2) (b1 : M2 < 16777216) (b2 : 8388608 ≤ M2 ∨ E2 = -149) (b3 : -149 ≤ E2) (b4 : E2 ≤ 104)
    {A B c d : Nat} (hA : A = M1 * 2 ^ c) (hB : B = M2 * 2 ^ d) (A1 : 8388608 ≤ A) (A2 : A < 16777216) (B1 : 8388608 ≤ B) (B2 : B < 16777216) (hc : c ≤ 23) (hd : d ≤ 23) :
    roundK (n1 ^^ n2) (A * 2 ^ 38 / B) (E1 - c - 38 - (E2 - d)) (decide (A * 2 ^ 38 % B ≠ 0)) up =
      if up then divU (sgn n1 (rungOf M1 E1)) (sgn n2 (rungOf M2 E2)) else divD (sgn n1 (rungOf M1 E1)) (sgn n2 (rungOf M2 E2)) := by
  have r1 : 0 < rungOf M1 E1 ∧ rungOf M1 E1 < I32 := by unfold rungOf I32; omega
  have r2 : 0 < rungOf M2 E2 ∧ rungOf M2 E2 < I32 := by unfold rungOf I32; omega
  have q : ∀ (b : Bool) (r : Nat), 0 < r → r < I32 → sgn b r ≠ 0 ∧ -I < sgn b r ∧ sgn b r < I := by
    intro b r h1 h2; rw [I_nat]; unfold sgn; split <;> omega
  obtain ⟨s1, s2, s3⟩ := q n1 _ r1.1 r1.2
  obtain ⟨t1, t2, t3⟩ := q n2 _ r2.1 r2.2
  have hQ : 8388608 ≤ A * 2 ^ 38 / B := by
    have h38 : (2 : Nat) ^ 38 = 274877906944 := by decide
    have hT : 2305843009213693952 ≤ A * 2 ^ 38 := by rw [h38]; omega
    exact q_big hT (by omega) B2
  have vi : v32 (sgn n1 (rungOf M1 E1)) = sgn n1 (M1 * 2 ^ (E1 + 149).toNat) := by
    unfold v32; rw [sval_sgn, val_rungOf (by omega) a2]
  have vj : v32 (sgn n2 (rungOf M2 E2)) = sgn n2 (M2 * 2 ^ (E2 + 149).toNat) := by
    unfold v32; rw [sval_sgn, val_rungOf (by omega) b2]
  have hDj : (v32 (sgn n2 (rungOf M2 E2))).natAbs = M2 * 2 ^ (E2 + 149).toNat := by rw [vj, sgn_natAbs]
  have hneg : decide (sgn n2 (rungOf M2 E2) < 0) = n2 := by
    cases n2
    · have : ¬ sgn false (rungOf M2 E2) < 0 := by unfold sgn; simp
      simp [this]
    · have : sgn true (rungOf M2 E2) < 0 := by unfold sgn; simp; omega
      simp [this]
  have hZ : (if sgn n2 (rungOf M2 E2) < 0 then -(v32 (sgn n1 (rungOf M1 E1)) * (W : Int)) else v32 (sgn n1 (rungOf M1 E1)) * (W : Int)) = sgn (n1 ^^ n2) (M1 * 2 ^ (E1 + 149).toNat * W) := by
    rw [vi, ← sgn_mul]
    cases n2
    · have : ¬ sgn false (rungOf M2 E2) < 0 := by unfold sgn; simp
      rw [if_neg this]; simp
    · have : sgn true (rungOf M2 E2) < 0 := by unfold sgn; simp; omega
      rw [if_pos this]; cases n1 <;> simp [sgn]
  rw [divD_fin s1 s2 s3 t2 t3, divU_fin s1 s2 s3 t2 t3, hZ, hDj]
  have hB0 : 0 < B := by omega
  have hvy : 0 < M2 * 2 ^ (E2 + 149).toNat := Nat.mul_pos b0 (Nat.two_pow_pos _)
  apply roundK_cmp up hvy
  intro s hs
  obtain ⟨k1, k2⟩ := div_cmp (E := E1 - c - 38 - (E2 - d)) hB0 rfl rfl hQ s
  rw [k1, k2]
  -- scaling
  generalize val single.binade s = v at *
  have hsc : (-149 - (E1 - c - 38 - (E2 - d))).toNat + d + ((E1 + 149).toNat + c149) = 38 + c + (E1 - c - 38 - (E2 - d) + 149).toNat + (E2 + 149).toNat := by unfold c149; omega
  have hP : 0 < 2 ^ ((E1 + 149).toNat + c149) := Nat.two_pow_pos _
  have hR : 0 < 2 ^ (38 + c + (E1 - c - 38 - (E2 - d) + 149).toNat) := Nat.two_pow_pos _
  have e1 : v * 2 ^ (-149 - (E1 - c - 38 - (E2 - d))).toNat * B * 2 ^ ((E1 + 149).toNat + c149) = v * (M2 * 2 ^ (E2 + 149).toNat) * 2 ^ (38 + c + (E1 - c - 38 - (E2 - d) + 149).toNat) := by
    have f1 : v * 2 ^ (-149 - (E1 - c - 38 - (E2 - d))).toNat * B * 2 ^ ((E1 + 149).toNat + c149) = v * M2 * 2 ^ ((-149 - (E1 - c - 38 - (E2 - d))).toNat + d + ((E1 + 149).toNat + c149)) := by
      rw [hB]; simp only [Nat.pow_add, Nat.mul_assoc, Nat.mul_left_comm, Nat.mul_comm]
    have f2 : v * (M2 * 2 ^ (E2 + 149).toNat) * 2 ^ (38 + c + (E1 - c - 38 - (E2 - d) + 149).toNat) = v * M2 * 2 ^ (38 + c + (E1 - c - 38 - (E2 - d) + 149).toNat + (E2 + 149).toNat) := by
      simp only [Nat.pow_add, Nat.mul_assoc, Nat.mul_left_comm, Nat.mul_comm]
    rw [f1, f2, hsc]
  have e2 : A * 2 ^ 38 * 2 ^ (E1 - c - 38 - (E2 - d) + 149).toNat * 2 ^ ((E1 + 149).toNat + c149) = M1 * 2 ^ (E1 + 149).toNat * W * 2 ^ (38 + c + (E1 - c - 38 - (E2 - d) + 149).toNat) := by
    unfold W
    rw [hA, Nat.pow_add _ (E1 + 149).toNat, Nat.pow_add _ (38 + c), Nat.pow_add _ 38]
    generalize (2 : Nat) ^ 38 = x1
    generalize 2 ^ c = x2
    generalize 2 ^ (E1 - c - 38 - (E2 - d) + 149).toNat = x3
    generalize 2 ^ (E1 + 149).toNat = x4
    generalize 2 ^ c149 = x5
    simp only [Nat.mul_assoc, Nat.mul_left_comm, Nat.mul_comm]
  constructor
  · rw [← Nat.mul_le_mul_right_iff hP, e1, e2, Nat.mul_le_mul_right_iff hR]
  · rw [← Nat.mul_le_mul_right_iff hP, e1, e2, Nat.mul_le_mul_right_iff hR]
end Hedge
