import Ieee.Arith
namespace Hedge
open Ieee
set_option linter.unusedSimpArgs false
set_option linter.unusedVariables false

/-! The magnitudes of a format, rung by rung, in units of its least place. -/
def ex (B r : Nat) : Nat := r / B - 1
def sig (B r : Nat) : Nat := r - ex B r * B
def val (B r : Nat) : Nat := sig B r * 2 ^ ex B r

theorem split_rung (B r : Nat) (hB : 0 < B) : r = ex B r * B + sig B r ∧ sig B r < 2 * B ∧ (ex B r = 0 ∨ B ≤ sig B r) := by
  have h := Nat.div_add_mod r B
  have hm := Nat.mod_lt r hB
  unfold sig ex
  generalize r / B = q at *
  rw [Nat.mul_comm B q] at h
  cases q with
  | zero => simp at *; omega
  | succ n =>
    have e : (n + 1) * B = n * B + B := Nat.succ_mul n B
    simp only [Nat.add_sub_cancel]
    refine ⟨by omega, by omega, Or.inr (by omega)⟩

theorem ex_of (B t k : Nat) (hB : 0 < B) (h : t = 0 ∨ B ≤ k) (hk : k < 2 * B) : ex B (t * B + k) = t := by
  unfold ex
  rw [Nat.mul_comm, Nat.mul_add_div hB]
  by_cases hk2 : k < B
  · rw [Nat.div_eq_of_lt hk2]; omega
  · have : k / B = 1 := by
      apply Nat.div_eq_of_lt_le <;> omega
    omega

theorem val_shift (B t k : Nat) (hB : 0 < B) (h : t = 0 ∨ B ≤ k) (hk : k ≤ 2 * B) : val B (t * B + k) = k * 2 ^ t := by
  by_cases hk2 : k < 2 * B
  · unfold val sig
    rw [ex_of B t k hB h hk2, Nat.add_sub_cancel_left]
  · have hk3 : k = 2 * B := by omega
    subst hk3
    have e : t * B + 2 * B = (t + 1) * B + B := by rw [Nat.add_mul]; omega
    unfold val sig
    rw [e, ex_of B (t + 1) B hB (Or.inr (Nat.le_refl _)) (by omega), Nat.add_sub_cancel_left, Nat.pow_succ]
    rw [Nat.mul_comm 2 B, Nat.mul_assoc, Nat.mul_comm (2 ^ t) 2]

theorem val_zero (B : Nat) : val B 0 = 0 := by simp [val, sig, ex]

theorem val_succ (B r : Nat) (hB : 0 < B) : val B (r + 1) = val B r + 2 ^ ex B r := by
  obtain ⟨h1, h2, h3⟩ := split_rung B r hB
  have e1 : val B (r + 1) = (sig B r + 1) * 2 ^ ex B r := by
    have := val_shift B (ex B r) (sig B r + 1) hB (by omega) (by omega)
    rw [← this]; congr 1; omega
  rw [e1, Nat.add_mul, Nat.one_mul]; rfl

theorem val_lt_succ (B r : Nat) (hB : 0 < B) : val B r < val B (r + 1) := by
  rw [val_succ B r hB]; have := Nat.two_pow_pos (ex B r); omega

theorem val_mono (B : Nat) (hB : 0 < B) {r s : Nat} (h : r ≤ s) : val B r ≤ val B s := by
  induction h with
  | refl => exact Nat.le_refl _
  | step _ ih => exact Nat.le_trans ih (Nat.le_of_lt (val_lt_succ B _ hB))

theorem val_lt (B : Nat) (hB : 0 < B) {r s : Nat} (h : r < s) : val B r < val B s :=
  Nat.lt_of_lt_of_le (val_lt_succ B r hB) (val_mono B hB h)

theorem val_lt_iff (B : Nat) (hB : 0 < B) {r s : Nat} : val B r < val B s ↔ r < s := by
  refine ⟨fun h => ?_, val_lt B hB⟩
  apply Nat.lt_of_not_le
  intro k
  have := val_mono B hB k
  omega

theorem val_le_iff (B : Nat) (hB : 0 < B) {r s : Nat} : val B r ≤ val B s ↔ r ≤ s := by
  have := @val_lt_iff B hB s r
  omega

theorem val_inj (B : Nat) (hB : 0 < B) {r s : Nat} (h : val B r = val B s) : r = s := by
  have h1 := (val_le_iff B hB (r := r) (s := s)).1 (Nat.le_of_eq h)
  have h2 := (val_le_iff B hB (r := s) (s := r)).1 (Nat.le_of_eq h.symm)
  omega

/-- A short number is the value of a rung. -/
theorem val_rep (B : Nat) (hB : 0 < B) : ∀ (k m : Nat), m ≤ 2 * B → ∃ s, val B s = m * 2 ^ k
  | 0, m, hm => ⟨m, by have := val_shift B 0 m hB (Or.inl rfl) hm; simpa using this⟩
  | k + 1, m, hm => by
    by_cases h : B ≤ m
    · exact ⟨(k + 1) * B + m, val_shift B (k + 1) m hB (Or.inr h) hm⟩
    · obtain ⟨s, hs⟩ := val_rep B hB k (2 * m) (by omega)
      refine ⟨s, ?_⟩
      rw [hs, Nat.pow_succ, Nat.mul_comm 2 m, Nat.mul_assoc, Nat.mul_comm 2]

/-- 'r' is a rung nearest to N / D. -/
def NearN (B N D r : Nat) : Prop :=
  ∃ r0, val B r0 * D ≤ N ∧ N < val B (r0 + 1) * D ∧
    ((r = r0 ∧ 2 * N ≤ (val B r0 + val B (r0 + 1)) * D) ∨ (r = r0 + 1 ∧ (val B r0 + val B (r0 + 1)) * D ≤ 2 * N))

theorem cut_even (neg : Bool) (n drop : Nat) :
    (Toward.even.cut neg n drop = n / 2 ^ drop ∧ 2 * (n % 2 ^ drop) ≤ 2 ^ drop) ∨
    (Toward.even.cut neg n drop = n / 2 ^ drop + 1 ∧ 2 ^ drop ≤ 2 * (n % 2 ^ drop)) := by
  have key : ∀ d, (Toward.even.cut neg n drop = n / 2 ^ d + (decide (2 ^ d < 2 * (n % 2 ^ d)) || (2 ^ d == 2 * (n % 2 ^ d) && n / 2 ^ d % 2 == 1)).toNat) →
      (Toward.even.cut neg n drop = n / 2 ^ d ∧ 2 * (n % 2 ^ d) ≤ 2 ^ d) ∨ (Toward.even.cut neg n drop = n / 2 ^ d + 1 ∧ 2 ^ d ≤ 2 * (n % 2 ^ d)) := by
    intro d h
    rw [h]
    by_cases h1 : 2 ^ d < 2 * (n % 2 ^ d)
    · right; simp [h1]; omega
    · by_cases h2 : 2 ^ d = 2 * (n % 2 ^ d)
      · by_cases h3 : n / 2 ^ d % 2 = 1
        · right; simp [h1, ← h2, h3]
        · left; simp [h1, ← h2, h3]
      · left; simp [h1, h2]; omega
  have hl : n < 2 ^ (n.log2 + 1) := Nat.lt_log2_self
  by_cases hd : drop ≤ n.log2 + 2
  · apply key
    unfold Toward.cut
    simp only [Nat.min_eq_left hd, Nat.one_shiftLeft]
  · have hp : 2 ^ (n.log2 + 2) ≤ 2 ^ drop := Nat.pow_le_pow_right (by omega) (by omega)
    have hp2 : 2 ^ (n.log2 + 2) = 2 * 2 ^ (n.log2 + 1) := by rw [Nat.pow_succ, Nat.mul_comm]
    left
    have e1 : n / 2 ^ drop = 0 := Nat.div_eq_of_lt (by omega)
    have e2 : n % 2 ^ drop = n := Nat.mod_eq_of_lt (by omega)
    have e3 : n / 2 ^ (n.log2 + 2) = 0 := Nat.div_eq_of_lt (by omega)
    have e4 : n % 2 ^ (n.log2 + 2) = n := Nat.mod_eq_of_lt (by omega)
    rw [e1, e2]
    refine ⟨?_, by omega⟩
    unfold Toward.cut
    simp only [Nat.min_eq_right (show n.log2 + 2 ≤ drop by omega), Nat.one_shiftLeft, e3, e4]
    have h5 : ¬ 2 ^ (n.log2 + 2) < 2 * n := by omega
    have h6 : ¬ 2 ^ (n.log2 + 2) = 2 * n := by omega
    simp [h5, h6]

theorem nearest_spec (f : Format) (neg : Bool) (mag : Nat) (place : Int) (hm : mag ≠ 0) :
    ∃ r, f.nearest neg mag place = f.word neg (min r f.infRung) ∧
      NearN f.binade (mag * 2 ^ (place - f.leastPlace).toNat) (2 ^ (f.leastPlace - place).toNat) r := by
  have hB : 0 < f.binade := Nat.two_pow_pos _
  unfold Format.nearest
  rw [if_neg hm]
  dsimp only
  generalize hlast : max (place + (mag.log2 : Int) - (f.fractionBits : Int)) f.leastPlace = last
  have hl1 : mag < 2 ^ (mag.log2 + 1) := Nat.lt_log2_self
  have hl0 : 2 ^ mag.log2 ≤ mag := Nat.log2_self_le hm
  generalize mag.log2 = L at *
  refine ⟨_, rfl, ?_⟩
  generalize hc : (place - last).toNat = c
  generalize hd : (last - place).toNat = d
  generalize ht : (last - f.leastPlace).toNat = t
  generalize ha : (place - f.leastPlace).toNat = a
  generalize hb : (f.leastPlace - place).toNat = b
  have hsum : c + t + b = a + d := by omega
  rw [Nat.shiftLeft_eq]
  have hG : 0 < 2 ^ d := Nat.two_pow_pos d
  have hdm := Nat.div_add_mod (mag * 2 ^ c) (2 ^ d)
  have hml := Nat.mod_lt (mag * 2 ^ c) hG
  have hcut := cut_even neg (mag * 2 ^ c) d
  generalize hlow : mag * 2 ^ c / 2 ^ d = low at *
  generalize hrest : mag * 2 ^ c % 2 ^ d = rest at *
  generalize Toward.even.cut neg (mag * 2 ^ c) d = kept at *
  -- the bounds of 'low'
  have hlt : low < 2 * f.binade := by
    rw [← hlow]
    apply (Nat.div_lt_iff_lt_mul hG).2
    have e : 2 * f.binade = 2 ^ (f.fractionBits + 1) := by rw [Nat.pow_succ, Nat.mul_comm]; rfl
    rw [e, ← Nat.pow_add]
    have : mag * 2 ^ c < 2 ^ (L + 1) * 2 ^ c := Nat.mul_lt_mul_of_pos_right hl1 (Nat.two_pow_pos c)
    rw [← Nat.pow_add] at this
    refine Nat.lt_of_lt_of_le this (Nat.pow_le_pow_right (by omega) (by omega))
  have hge : t = 0 ∨ f.binade ≤ low := by
    by_cases h0 : t = 0
    · exact Or.inl h0
    · right
      rw [← hlow]
      apply (Nat.le_div_iff_mul_le hG).2
      have : 2 ^ L * 2 ^ c ≤ mag * 2 ^ c := Nat.mul_le_mul_right _ hl0
      rw [← Nat.pow_add] at this
      refine Nat.le_trans ?_ this
      unfold Format.binade
      rw [← Nat.pow_add]
      exact Nat.pow_le_pow_right (by omega) (by omega)
  have v0 : val f.binade (t * f.binade + low) = low * 2 ^ t := val_shift _ t low hB hge (by omega)
  have v1 : val f.binade (t * f.binade + low + 1) = (low + 1) * 2 ^ t := by
    rw [Nat.add_assoc]; exact val_shift _ t (low + 1) hB (by omega) (by omega)
  -- scaling
  have hN : (mag * 2 ^ a) * 2 ^ d = (mag * 2 ^ c) * (2 ^ t * 2 ^ b) := by
    rw [Nat.mul_assoc, Nat.mul_assoc, ← Nat.pow_add, ← Nat.pow_add, ← Nat.pow_add, ← hsum, Nat.add_assoc]
  have hT : 0 < 2 ^ t * 2 ^ b := Nat.mul_pos (Nat.two_pow_pos t) (Nat.two_pow_pos b)
  generalize hNN : mag * 2 ^ a = N at *
  generalize mag * 2 ^ c = n at *
  generalize hTT : 2 ^ t * 2 ^ b = T at *
  generalize 2 ^ d = G at *
  have s0 : val f.binade (t * f.binade + low) * 2 ^ b = low * T := by rw [v0, ← hTT, Nat.mul_assoc]
  have s1 : val f.binade (t * f.binade + low + 1) * 2 ^ b = (low + 1) * T := by rw [v1, ← hTT, Nat.mul_assoc]
  have l0 : low * T ≤ N := by
    apply Nat.le_of_mul_le_mul_right _ hG
    rw [hN]
    have : G * low ≤ n := by omega
    have := Nat.mul_le_mul_right T this
    rw [Nat.mul_comm G low, Nat.mul_right_comm] at this
    exact this
  have l1 : N < (low + 1) * T := by
    apply Nat.lt_of_mul_lt_mul_right (a := G)
    rw [hN]
    have : n < G * (low + 1) := by rw [Nat.mul_add]; omega
    have := Nat.mul_lt_mul_of_pos_right this hT
    rw [Nat.mul_comm G (low + 1), Nat.mul_right_comm] at this
    exact this
  refine ⟨t * f.binade + low, by rw [s0]; exact l0, by rw [s1]; exact l1, ?_⟩
  have e2 : (val f.binade (t * f.binade + low) + val f.binade (t * f.binade + low + 1)) * 2 ^ b = (2 * low + 1) * T := by
    rw [Nat.add_mul, s0, s1, ← Nat.add_mul]; congr 1; omega
  rw [e2]
  rcases hcut with ⟨hk, hr⟩ | ⟨hk, hr⟩
  · left
    refine ⟨by omega, ?_⟩
    apply Nat.le_of_mul_le_mul_right _ hG
    rw [Nat.mul_assoc, hN]
    have : 2 * n ≤ G * (2 * low + 1) := by rw [Nat.mul_add, ← Nat.mul_assoc, Nat.mul_comm G 2, Nat.mul_assoc]; omega
    have := Nat.mul_le_mul_right T this
    rw [Nat.mul_comm G (2 * low + 1), Nat.mul_right_comm (2 * low + 1), Nat.mul_assoc 2 n] at this
    exact this
  · right
    refine ⟨by omega, ?_⟩
    apply Nat.le_of_mul_le_mul_right _ hG
    rw [Nat.mul_assoc 2 N, hN]
    have : G * (2 * low + 1) ≤ 2 * n := by rw [Nat.mul_add, ← Nat.mul_assoc, Nat.mul_comm G 2, Nat.mul_assoc]; omega
    have := Nat.mul_le_mul_right T this
    rw [Nat.mul_comm G (2 * low + 1), Nat.mul_right_comm, Nat.mul_assoc 2 n] at this
    exact this
end Hedge
