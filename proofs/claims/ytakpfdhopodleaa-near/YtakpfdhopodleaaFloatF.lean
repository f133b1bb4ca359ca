import Derived.Test.YtakpfdhopodleaaFloatE
namespace Hedge
open Ieee
set_option linter.unusedSimpArgs false
set_option linter.unusedVariables false

theorem div_spec (x y : Nat) (hx : x % double.signWeight < double.infRung) (hy : y % double.signWeight < double.infRung) (hy0 : 0 < y % double.signWeight) :
    ∃ r, double.div x y = some (double.word ((x / double.signWeight % 2 == 1) ^^ (y / double.signWeight % 2 == 1)) (min r double.infRung)) ∧
      ∃ N D, 0 < D ∧ NearN double.binade N D r ∧ N * val double.binade (y % double.signWeight) = val double.binade (x % double.signWeight) * V * D := by
  have hB : 0 < double.binade := Nat.two_pow_pos _
  unfold Format.div
  rw [read_fin double x hx, read_fin double y hy]
  obtain ⟨k1, k2, k3⟩ := split_rung double.binade (x % double.signWeight) hB
  obtain ⟨l1, l2, l3⟩ := split_rung double.binade (y % double.signWeight) hB
  generalize x % double.signWeight = rx at *
  generalize y % double.signWeight = ry at *
  generalize (x / double.signWeight % 2 == 1) = p at *
  generalize (y / double.signWeight % 2 == 1) = q at *
  have hvx : val double.binade rx = sig double.binade rx * 2 ^ ex double.binade rx := rfl
  have hvy : val double.binade ry = sig double.binade ry * 2 ^ ex double.binade ry := rfl
  generalize sig double.binade rx = m at *
  generalize ex double.binade rx = e at *
  generalize sig double.binade ry = n at *
  generalize ex double.binade ry = d at *
  have hn0 : n ≠ 0 := by
    intro h; subst h
    rcases l3 with l3 | l3
    · subst l3; omega
    · omega
  simp only [Datum.quotient]
  rw [if_neg hn0]
  simp only [Option.map_some, Format.write]
  have hdig : double.fractionBits + 2 = 54 := rfl
  rw [hdig]
  by_cases h0 : m = 0
  · subst h0
    refine ⟨0, ?_, 0, 1, by omega, near_zero _ hB, by rw [hvx]; simp⟩
    simp [Format.nearest]
  · have hml1 : m < 2 ^ (m.log2 + 1) := Nat.lt_log2_self
    have hml0 : 2 ^ m.log2 ≤ m := Nat.log2_self_le h0
    have hnl1 : n < 2 ^ (n.log2 + 1) := Nat.lt_log2_self
    have hnl0 : 2 ^ n.log2 ≤ n := Nat.log2_self_le hn0
    have hml : m.log2 ≤ 52 := by
      have : 2 ^ m.log2 < 2 ^ 53 := by rw [bi64] at k2; omega
      have := (Nat.pow_lt_pow_iff_right (a := 2) (by omega)).1 this
      omega
    generalize m.log2 = lm at *
    generalize n.log2 = ln at *
    generalize hmore : 54 + ln - lm = more at *
    rw [Nat.shiftLeft_eq]
    have hQB : 2 * double.binade ≤ m * 2 ^ more / n := by
      apply (Nat.le_div_iff_mul_le (by omega)).2
      have h1 : 2 ^ lm * 2 ^ more ≤ m * 2 ^ more := Nat.mul_le_mul_right _ hml0
      rw [← Nat.pow_add, show lm + more = 53 + (ln + 1) by omega, Nat.pow_add] at h1
      have h2 : 2 * double.binade * n ≤ 2 ^ 53 * 2 ^ (ln + 1) := Nat.mul_le_mul (by rw [bi64]; omega) (by omega)
      omega
    have hmag : 2 * (m * 2 ^ more / n) + (m * 2 ^ more % n != 0).toNat ≠ 0 := by rw [bi64] at hQB; omega
    obtain ⟨r, hr, hn⟩ := nearest_spec double (p ^^ q) _ (double.leastPlace + (e : Int) - (double.leastPlace + (d : Int)) - (more : Int) - 1) hmag
    have hst := sticky hB (by omega) rfl hQB hn
    refine ⟨r, by rw [hr], _, _, ?_, hst, ?_⟩
    · exact Nat.mul_pos (by omega) (Nat.two_pow_pos _)
    · rw [hvx, hvy]
      unfold V
      have hab : more + ((double.leastPlace + (e : Int) - (double.leastPlace + (d : Int)) - (more : Int) - 1 - double.leastPlace).toNat + 1) + d =
          e + c1074 + (double.leastPlace - (double.leastPlace + (e : Int) - (double.leastPlace + (d : Int)) - (more : Int) - 1)).toNat := by
        rw [lp64]; unfold c1074; omega
      generalize (double.leastPlace + (e : Int) - (double.leastPlace + (d : Int)) - (more : Int) - 1 - double.leastPlace).toNat + 1 = a at *
      generalize (double.leastPlace - (double.leastPlace + (e : Int) - (double.leastPlace + (d : Int)) - (more : Int) - 1)).toNat = b at *
      generalize c1074 = c at *
      have e1 : m * 2 ^ more * 2 ^ a * (n * 2 ^ d) = m * n * 2 ^ (more + a + d) := by
        rw [Nat.pow_add, Nat.pow_add]; simp only [Nat.mul_assoc, Nat.mul_left_comm, Nat.mul_comm]
      have e2 : m * 2 ^ e * 2 ^ c * (n * 2 ^ b) = m * n * 2 ^ (e + c + b) := by
        rw [Nat.pow_add, Nat.pow_add]; simp only [Nat.mul_assoc, Nat.mul_left_comm, Nat.mul_comm]
      rw [e1, e2, hab]

/-- A float32 that is not 0, with a mantissa of 24 bits, in units of float64. -/
theorem norm24 (r : Nat) (h0 : 0 < r) (hr : r < single.infRung) :
    ∃ m k, 8388608 ≤ m ∧ m < 16777216 ∧ val single.binade r * U = m * 2 ^ k ∧ 900 ≤ k ∧ k ≤ 1179 := by
  have hS : 0 < single.binade := Nat.two_pow_pos _
  obtain ⟨k1, k2, k3⟩ := split_rung single.binade r hS
  have hv : val single.binade r = sig single.binade r * 2 ^ ex single.binade r := rfl
  have hex : ex single.binade r ≤ 254 := by
    have : r / single.binade ≤ 255 := by
      apply Nat.le_of_lt_succ
      apply (Nat.div_lt_iff_lt_mul hS).2
      rw [in32] at hr; rw [bi32]; omega
    unfold ex; omega
  generalize sig single.binade r = m at *
  generalize ex single.binade r = e at *
  rw [bi32] at k1 k2 k3
  by_cases hm : 8388608 ≤ m
  · refine ⟨m, e + c925, hm, by omega, ?_, by unfold c925; omega, by unfold c925; omega⟩
    rw [hv, U, Nat.mul_assoc, ← Nat.pow_add]
  · have he : e = 0 := by omega
    subst he
    have hm0 : m ≠ 0 := by omega
    have l1 : m < 2 ^ (m.log2 + 1) := Nat.lt_log2_self
    have l0 : 2 ^ m.log2 ≤ m := Nat.log2_self_le hm0
    have hl : m.log2 ≤ 22 := by
      have : 2 ^ m.log2 < 2 ^ 23 := by omega
      have := (Nat.pow_lt_pow_iff_right (a := 2) (by omega)).1 this
      omega
    generalize m.log2 = l at *
    refine ⟨m * 2 ^ (23 - l), c925 - (23 - l), ?_, ?_, ?_, by unfold c925; omega, by unfold c925; omega⟩
    · have : 2 ^ l * 2 ^ (23 - l) ≤ m * 2 ^ (23 - l) := Nat.mul_le_mul_right _ l0
      rw [← Nat.pow_add, show l + (23 - l) = 23 by omega] at this
      omega
    · have : m * 2 ^ (23 - l) < 2 ^ (l + 1) * 2 ^ (23 - l) := Nat.mul_lt_mul_of_pos_right l1 (Nat.two_pow_pos _)
      rw [← Nat.pow_add, show l + 1 + (23 - l) = 24 by omega] at this
      omega
    · rw [hv, U, Nat.mul_assoc m (2 ^ (23 - l)), ← Nat.pow_add, show 23 - l + (c925 - (23 - l)) = c925 by unfold c925; omega]; simp

theorem rung_lt_inf (t k m : Nat) (ht : val double.binade t = m * 2 ^ k) (hm : m < double.binade) (hk : k ≤ 2046) : t < double.infRung := by
  have hB : 0 < double.binade := Nat.two_pow_pos _
  apply (val_lt_iff double.binade hB).1
  have e1 : val double.binade double.infRung = double.binade * 2 ^ topEx := by
    rw [inf_top]
    exact val_shift double.binade topEx double.binade hB (Or.inr (Nat.le_refl _)) (by rw [bi64]; omega)
  rw [ht, e1]
  exact pow_scale_lt hm (by unfold topEx; omega)

/-- The product of two float32 is a float64. -/
theorem prod_rung (rx ry : Nat) (hx : rx < single.infRung) (hy : ry < single.infRung) :
    ∃ t, t < double.infRung ∧ val double.binade t * V = (val single.binade rx * U) * (val single.binade ry * U) := by
  have hB : 0 < double.binade := Nat.two_pow_pos _
  by_cases h0 : rx = 0
  · exact ⟨0, by rw [in64]; omega, by rw [h0]; simp [val_zero]⟩
  by_cases h1 : ry = 0
  · exact ⟨0, by rw [in64]; omega, by rw [h1]; simp [val_zero]⟩
  obtain ⟨m, k, m1, m2, e1, k1, k2⟩ := norm24 rx (by omega) hx
  obtain ⟨n, l, n1, n2, e2, l1, l2⟩ := norm24 ry (by omega) hy
  have hmn : m * n < 16777216 * 16777216 := Nat.mul_lt_mul_of_le_of_lt (Nat.le_of_lt m2) n2 (by omega)
  obtain ⟨t, ht⟩ := val_rep double.binade hB (k + l - c1074) (m * n) (by rw [bi64]; omega)
  refine ⟨t, rung_lt_inf t _ _ ht (by rw [bi64]; omega) (by unfold c1074; omega), ?_⟩
  rw [ht, e1, e2, V, Nat.mul_assoc (m * n), ← Nat.pow_add, show k + l - c1074 + c1074 = k + l by unfold c1074; omega, Nat.pow_add, Nat.mul_mul_mul_comm]
end Hedge
