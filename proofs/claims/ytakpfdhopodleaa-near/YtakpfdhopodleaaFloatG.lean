import Derived.Test.YtakpfdhopodleaaFloatF
namespace Hedge
open Ieee
set_option linter.unusedSimpArgs false
set_option linter.unusedVariables false

theorem B64 : double.binade = 2 ^ 52 := rfl

/-- The rung of float64 that a finite rung of float32 is. -/
theorem up_rung (s : Nat) (hs : s < single.infRung) : ∃ t, t < double.infRung ∧ val double.binade t = val single.binade s * U := by
  have hB : 0 < double.binade := Nat.two_pow_pos _
  by_cases h0 : s = 0
  · exact ⟨0, by rw [in64]; omega, by rw [h0]; simp [val_zero]⟩
  · obtain ⟨m, k, m1, m2, e1, k1, k2⟩ := norm24 s (by omega) hs
    obtain ⟨t, ht⟩ := val_rep double.binade hB k m (by rw [bi64]; omega)
    exact ⟨t, rung_lt_inf t _ _ ht (by rw [bi64]; omega) (by omega), by rw [ht, e1]⟩

theorem gap_small {r0 r m k : Nat} (hr : r0 ≤ r) (hv : val double.binade r = m * 2 ^ k) (hm : m < 16777216) (hk : 28 ≤ k) : 2 ^ ex double.binade r0 * 2 ^ 28 ≤ 2 ^ k := by
  have hB : 0 < double.binade := Nat.two_pow_pos _
  obtain ⟨k1, k2, k3⟩ := split_rung double.binade r0 hB
  have hv0 : val double.binade r0 = sig double.binade r0 * 2 ^ ex double.binade r0 := rfl
  have hmono := val_mono double.binade hB hr
  rw [hv, hv0] at hmono
  generalize sig double.binade r0 = s at *
  generalize ex double.binade r0 = e at *
  rw [← Nat.pow_add]
  apply Nat.pow_le_pow_right (by omega)
  rcases k3 with k3 | k3
  · omega
  · have h1 : 2 ^ 52 * 2 ^ e ≤ s * 2 ^ e := Nat.mul_le_mul_right _ (by rw [← B64]; exact k3)
    have h2 : m * 2 ^ k < 2 ^ 24 * 2 ^ k := Nat.mul_lt_mul_of_pos_right (by omega) (Nat.two_pow_pos _)
    rw [← Nat.pow_add] at h1 h2
    have h3 : 2 ^ (52 + e) < 2 ^ (24 + k) := by omega
    have := (Nat.pow_lt_pow_iff_right (a := 2) (by omega)).1 h3
    omega

theorem near_close {B N D r : Nat} (hB : 0 < B) (h : NearN B N D r) : ∃ r0, r0 ≤ r ∧ 2 * (val B r * D) ≤ 2 * N + 2 ^ ex B r0 * D ∧ 2 * N ≤ 2 * (val B r * D) + 2 ^ ex B r0 * D := by
  obtain ⟨r0, h1, h2, h3⟩ := h
  have hs := val_succ B r0 hB
  refine ⟨r0, ?_⟩
  rw [hs] at h2 h3
  rw [Nat.add_mul] at h2
  have e : (val B r0 + (val B r0 + 2 ^ ex B r0)) * D = 2 * (val B r0 * D) + 2 ^ ex B r0 * D := by
    rw [Nat.add_mul, Nat.add_mul]; omega
  rw [e] at h3
  rcases h3 with ⟨rfl, h3⟩ | ⟨rfl, h3⟩
  · refine ⟨Nat.le_refl _, by omega, by omega⟩
  · rw [hs, Nat.add_mul]
    refine ⟨by omega, by omega, by omega⟩

/-- Two whole numbers of units of 2 ^ k, nearer than one such unit. -/
theorem eq_of_near {A C k : Nat} (hA : 2 ^ k ∣ A) (hC : 2 ^ k ∣ C) (h1 : A < C + 2 ^ k) (h2 : C < A + 2 ^ k) : A = C := by
  obtain ⟨a, rfl⟩ := hA
  obtain ⟨c, rfl⟩ := hC
  have e : ∀ t, 2 ^ k * t + 2 ^ k = 2 ^ k * (t + 1) := fun t => by rw [Nat.mul_add, Nat.mul_one]
  rw [e] at h1 h2
  have p1 := Nat.lt_of_mul_lt_mul_left h1
  have p2 := Nat.lt_of_mul_lt_mul_left h2
  have : a = c := by omega
  rw [this]

theorem alg1 {N g D Y X : Nat} (hq : N * Y = X * D) : (2 * N + g * D) * Y = (2 * X + g * Y) * D := by
  rw [Nat.add_mul, Nat.add_mul, Nat.mul_assoc, hq, Nat.mul_assoc 2 X, Nat.mul_right_comm g]
theorem alg2 (P D Y : Nat) : 2 * (P * D) * Y = 2 * (P * Y) * D := by
  rw [Nat.mul_assoc 2 (P * D), Nat.mul_right_comm P D Y, ← Nat.mul_assoc 2]
theorem alg3 (P g D Y : Nat) : (2 * (P * D) + g * D) * Y = (2 * (P * Y) + g * Y) * D := by
  rw [Nat.add_mul, Nat.add_mul, alg2, Nat.mul_right_comm g]

/-- A quotient of float32 whose nearest float64 is a float32 is that one. -/
theorem quot_short {rx ry N D r m1 k1 : Nat} (hx : rx < single.infRung) (hy0 : 0 < ry) (hy : ry < single.infRung) (hD : 0 < D)
    (hn : NearN double.binade N D r) (hq : N * (val single.binade ry * U) = (val single.binade rx * U) * V * D)
    (hm1 : 8388608 ≤ m1) (hm2 : m1 < 16777216) (hk : 900 ≤ k1) (hS : val double.binade r = m1 * 2 ^ k1) :
    val double.binade r * (val single.binade ry * U) = (val single.binade rx * U) * V := by
  have hB : 0 < double.binade := Nat.two_pow_pos _
  obtain ⟨r0, hr0, c1, c2⟩ := near_close hB hn
  have hg := gap_small hr0 hS hm2 (by omega)
  obtain ⟨m2, k2, n1, n2, e2, l1, l2⟩ := norm24 ry hy0 hy
  rw [e2] at hq ⊢
  rw [hS] at c1 c2 ⊢
  generalize 2 ^ ex double.binade r0 = g at *
  generalize hX : val single.binade rx * U * V = X at *
  -- 2 * |X - S * Y| * 2 ^ 28 <= 2 ^ k1 * Y
  have hY : 0 < m2 * 2 ^ k2 := Nat.mul_pos (by omega) (Nat.two_pow_pos _)
  have hSY : m1 * 2 ^ k1 * (m2 * 2 ^ k2) = m1 * m2 * 2 ^ (k1 + k2) := by rw [Nat.pow_add, Nat.mul_mul_mul_comm]
  have hgY : g * (m2 * 2 ^ k2) * 2 ^ 4 ≤ 2 ^ (k1 + k2) := by
    have h1 : g * (m2 * 2 ^ k2) * 2 ^ 4 ≤ g * (2 ^ 24 * 2 ^ k2) * 2 ^ 4 := Nat.mul_le_mul_right _ (Nat.mul_le_mul_left _ (Nat.mul_le_mul_right _ (by omega)))
    have h2 : g * (2 ^ 24 * 2 ^ k2) * 2 ^ 4 = (g * 2 ^ 28) * 2 ^ k2 := by
      rw [show (2 : Nat) ^ 28 = 2 ^ 24 * 2 ^ 4 by rfl]; simp only [Nat.mul_assoc, Nat.mul_left_comm, Nat.mul_comm]
    have h3 : (g * 2 ^ 28) * 2 ^ k2 ≤ 2 ^ k1 * 2 ^ k2 := Nat.mul_le_mul_right _ hg
    rw [Nat.pow_add]; omega
  have d1 : 2 * (m1 * 2 ^ k1 * (m2 * 2 ^ k2)) ≤ 2 * X + g * (m2 * 2 ^ k2) := by
    have := Nat.mul_le_mul_right (m2 * 2 ^ k2) c1
    rw [alg1 hq, alg2] at this
    exact Nat.le_of_mul_le_mul_right this hD
  have d2 : 2 * X ≤ 2 * (m1 * 2 ^ k1 * (m2 * 2 ^ k2)) + g * (m2 * 2 ^ k2) := by
    have := Nat.mul_le_mul_right (m2 * 2 ^ k2) c2
    rw [alg3, Nat.mul_assoc, hq, ← Nat.mul_assoc] at this
    exact Nat.le_of_mul_le_mul_right this hD
  rw [hSY] at d1 d2 ⊢
  generalize g * (m2 * 2 ^ k2) = z at *
  have hmm : 8388608 * 8388608 ≤ m1 * m2 := Nat.mul_le_mul hm1 n1
  have hbig : 70368744177664 * 2 ^ (k1 + k2) ≤ m1 * m2 * 2 ^ (k1 + k2) := Nat.mul_le_mul_right _ (by omega)
  have hX0 : rx ≠ 0 := by
    intro h; subst h
    rw [val_zero] at hX
    simp at hX; subst hX
    have := Nat.two_pow_pos (k1 + k2)
    omega
  obtain ⟨m3, k3, o1, o2, e3, p1, p2⟩ := norm24 rx (by omega) hx
  have hX2 : X = m3 * 2 ^ (k3 + c1074) := by rw [← hX, e3, V, Nat.pow_add, Nat.mul_assoc]
  have hkk : k1 + k2 ≤ k3 + c1074 := by
    apply Nat.le_of_not_lt
    intro hc
    have h1 : 2 ^ (k3 + c1074) ≤ 2 ^ (k1 + k2) := Nat.pow_le_pow_right (by omega) (by omega)
    have h2 : X ≤ 16777216 * 2 ^ (k1 + k2) := by rw [hX2]; exact Nat.mul_le_mul (by omega) h1
    have := Nat.two_pow_pos (k1 + k2)
    omega
  have hdX : 2 ^ (k1 + k2) ∣ X := by rw [hX2]; exact Nat.dvd_trans (Nat.pow_dvd_pow 2 hkk) (Nat.dvd_mul_left _ _)
  have hpos := Nat.two_pow_pos (k1 + k2)
  exact eq_of_near (Nat.dvd_mul_left _ _) hdX (by omega) (by omega)

/-- How the float64 nearest to a quotient of two float32 stands to a float32: as the quotient does. -/
theorem quot_cmp {rx ry N D r s : Nat} (hx : rx < single.infRung) (hy0 : 0 < ry) (hy : ry < single.infRung) (hD : 0 < D)
    (hn : NearN double.binade N D r) (hq : N * (val single.binade ry * U) = (val single.binade rx * U) * V * D) (hs : s < single.infRung) :
    (val single.binade s * U ≤ val double.binade r ↔ val single.binade s * val single.binade ry ≤ val single.binade rx * W) ∧
    (val double.binade r ≤ val single.binade s * U ↔ val single.binade rx * W ≤ val single.binade s * val single.binade ry) := by
  have hB : 0 < double.binade := Nat.two_pow_pos _
  have hS : 0 < single.binade := Nat.two_pow_pos _
  obtain ⟨t, htI, ht⟩ := up_rung s hs
  have hyv : 0 < val single.binade ry := by have := val_lt single.binade hS hy0; rw [val_zero] at this; exact this
  have hUU : 0 < U * U := Nat.mul_pos U_pos U_pos
  have eSY : (val single.binade s * U) * (val single.binade ry * U) = (val single.binade s * val single.binade ry) * (U * U) := Nat.mul_mul_mul_comm _ _ _ _
  have eXV : (val single.binade rx * U) * V = (val single.binade rx * W) * (U * U) := by
    rw [V_eq, Nat.mul_comm U W, Nat.mul_mul_mul_comm]
  have hY : 0 < val single.binade ry * U := Nat.mul_pos hyv U_pos
  have key : val single.binade s * U = val double.binade r → (val single.binade s * U) * (val single.binade ry * U) = (val single.binade rx * U) * V := by
    intro he
    by_cases h0 : s = 0
    · subst h0
      rw [val_zero, Nat.zero_mul] at he
      rw [val_zero, Nat.zero_mul, Nat.zero_mul]
      have hr0 : r = 0 := val_inj double.binade hB (by rw [val_zero]; exact he.symm)
      subst hr0
      by_cases hx0 : rx = 0
      · subst hx0; rw [val_zero]; simp
      · exfalso
        obtain ⟨q0, hq0, c1, c2⟩ := near_close hB hn
        have hq1 : q0 = 0 := by omega
        subst hq1
        have e0 : ex double.binade 0 = 0 := by simp [ex]
        rw [val_zero, e0] at c2
        simp only [Nat.pow_zero, Nat.one_mul, Nat.zero_mul, Nat.mul_zero, Nat.zero_add] at c2
        obtain ⟨m2, k2, n1, n2, e2, l1, l2⟩ := norm24 ry hy0 hy
        obtain ⟨m3, k3, o1, o2, e3, p1, p2⟩ := norm24 rx (by omega) hx
        rw [e2, e3] at hq
        have h1 := Nat.mul_le_mul_right (m2 * 2 ^ k2) c2
        rw [Nat.mul_assoc, hq, ← Nat.mul_assoc, Nat.mul_comm D] at h1
        have h2 := Nat.le_of_mul_le_mul_right h1 hD
        rw [V, Nat.mul_assoc m3, ← Nat.pow_add] at h2
        have h3 : m2 * 2 ^ k2 < 16777216 * 2 ^ (k3 + c1074) := pow_scale_lt n2 (by unfold c1074; omega)
        have h4 : 8388608 * 2 ^ (k3 + c1074) ≤ m3 * 2 ^ (k3 + c1074) := Nat.mul_le_mul_right _ o1
        omega
    · obtain ⟨m, k, m1, m2, e1, k1, k2⟩ := norm24 s (by omega) hs
      have := quot_short hx hy0 hy hD hn hq m1 m2 k1 (by rw [← he, e1])
      rw [he]; exact this
  have lo : (val single.binade s * U) * (val single.binade ry * U) ≤ (val single.binade rx * U) * V → val single.binade s * U ≤ val double.binade r := by
    intro h
    rw [← ht]
    apply val_mono double.binade hB
    apply near_lo hB hD hn
    apply Nat.le_of_mul_le_mul_right _ hY
    rw [hq, ht, Nat.mul_right_comm]
    exact Nat.mul_le_mul_right D h
  have hi : (val single.binade rx * U) * V ≤ (val single.binade s * U) * (val single.binade ry * U) → val double.binade r ≤ val single.binade s * U := by
    intro h
    rw [← ht]
    apply val_mono double.binade hB
    apply near_hi hB hD hn
    apply Nat.le_of_mul_le_mul_right _ hY
    rw [hq, ht, Nat.mul_right_comm _ D]
    exact Nat.mul_le_mul_right D h
  have tr1 : (val single.binade s * U) * (val single.binade ry * U) ≤ (val single.binade rx * U) * V ↔ val single.binade s * val single.binade ry ≤ val single.binade rx * W := by
    rw [eSY, eXV]; exact Nat.mul_le_mul_right_iff hUU
  have tr2 : (val single.binade rx * U) * V ≤ (val single.binade s * U) * (val single.binade ry * U) ↔ val single.binade rx * W ≤ val single.binade s * val single.binade ry := by
    rw [eSY, eXV]; exact Nat.mul_le_mul_right_iff hUU
  rw [← tr1, ← tr2]
  generalize (val single.binade s * U) * (val single.binade ry * U) = P at *
  generalize (val single.binade rx * U) * V = Q at *
  refine ⟨⟨fun h => ?_, lo⟩, ⟨fun h => ?_, hi⟩⟩
  · apply Nat.le_of_not_lt
    intro hc
    have := key (by have := hi (by omega); omega)
    omega
  · apply Nat.le_of_not_lt
    intro hc
    have := key (by have := lo (by omega); omega)
    omega
end Hedge
