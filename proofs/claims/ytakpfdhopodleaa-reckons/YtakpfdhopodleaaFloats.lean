import Ieee.Arith
import Derived.Laws.FloatBits
import Derived.Laws.FloatArith
namespace Hedge
open Ieee
set_option linter.unusedSimpArgs false
set_option linter.unusedVariables false

/-! The magnitudes of a format, rung by rung, in units of its least place. -/
def ex (B r : Nat) : Nat := r / B - 1
def sig (B r : Nat) : Nat := r - ex B r * B
def val (B r : Nat) : Nat := sig B r * 2 ^ ex B r

theorem split_rung (B r : Nat) (hB : 0 < B) : r = ex B r * B + sig B r ∧ sig B r < 2 * B ∧ (ex B r = 0 ∨ B ≤ sig B r) := by
  have h := Nat.div_add_mod r B
  have hm := Nat.mod_lt r hB
  unfold sig ex
  generalize r / B = q at *
  rw [Nat.mul_comm B q] at h
  cases q with
  | zero => simp at *; omega
  | succ n =>
    have e : (n + 1) * B = n * B + B := Nat.succ_mul n B
    simp only [Nat.add_sub_cancel]
    refine ⟨by omega, by omega, Or.inr (by omega)⟩

theorem ex_of (B t k : Nat) (hB : 0 < B) (h : t = 0 ∨ B ≤ k) (hk : k < 2 * B) : ex B (t * B + k) = t := by
  unfold ex
  rw [Nat.mul_comm, Nat.mul_add_div hB]
  by_cases hk2 : k < B
  · rw [Nat.div_eq_of_lt hk2]; omega
  · have : k / B = 1 := by
      apply Nat.div_eq_of_lt_le <;> omega
    omega

theorem val_shift (B t k : Nat) (hB : 0 < B) (h : t = 0 ∨ B ≤ k) (hk : k ≤ 2 * B) : val B (t * B + k) = k * 2 ^ t := by
  by_cases hk2 : k < 2 * B
  · unfold val sig
    rw [ex_of B t k hB h hk2, Nat.add_sub_cancel_left]
  · have hk3 : k = 2 * B := by omega
    subst hk3
    have e : t * B + 2 * B = (t + 1) * B + B := by rw [Nat.add_mul]; omega
    unfold val sig
    rw [e, ex_of B (t + 1) B hB (Or.inr (Nat.le_refl _)) (by omega), Nat.add_sub_cancel_left, Nat.pow_succ]
    rw [Nat.mul_comm 2 B, Nat.mul_assoc, Nat.mul_comm (2 ^ t) 2]

theorem val_zero (B : Nat) : val B 0 = 0 := by simp [val, sig, ex]

theorem val_succ (B r : Nat) (hB : 0 < B) : val B (r + 1) = val B r + 2 ^ ex B r := by
  obtain ⟨h1, h2, h3⟩ := split_rung B r hB
  have e1 : val B (r + 1) = (sig B r + 1) * 2 ^ ex B r := by
    have := val_shift B (ex B r) (sig B r + 1) hB (by omega) (by omega)
    rw [← this]; congr 1; omega
  rw [e1, Nat.add_mul, Nat.one_mul]; rfl

theorem val_lt_succ (B r : Nat) (hB : 0 < B) : val B r < val B (r + 1) := by
  rw [val_succ B r hB]; have := Nat.two_pow_pos (ex B r); omega

theorem val_mono (B : Nat) (hB : 0 < B) {r s : Nat} (h : r ≤ s) : val B r ≤ val B s := by
  induction h with
  | refl => exact Nat.le_refl _
  | step _ ih => exact Nat.le_trans ih (Nat.le_of_lt (val_lt_succ B _ hB))

theorem val_lt (B : Nat) (hB : 0 < B) {r s : Nat} (h : r < s) : val B r < val B s :=
  Nat.lt_of_lt_of_le (val_lt_succ B r hB) (val_mono B hB h)

theorem val_lt_iff (B : Nat) (hB : 0 < B) {r s : Nat} : val B r < val B s ↔ r < s := by
  refine ⟨fun h => ?_, val_lt B hB⟩
  apply Nat.lt_of_not_le
  intro k
  have := val_mono B hB k
  omega

theorem val_le_iff (B : Nat) (hB : 0 < B) {r s : Nat} : val B r ≤ val B s ↔ r ≤ s := by
  have := @val_lt_iff B hB s r
  omega

theorem val_inj (B : Nat) (hB : 0 < B) {r s : Nat} (h : val B r = val B s) : r = s := by
  have h1 := (val_le_iff B hB (r := r) (s := s)).1 (Nat.le_of_eq h)
  have h2 := (val_le_iff B hB (r := s) (s := r)).1 (Nat.le_of_eq h.symm)
  omega

/-- A short number is the value of a rung. -/
theorem val_rep (B : Nat) (hB : 0 < B) : ∀ (k m : Nat), m ≤ 2 * B → ∃ s, val B s = m * 2 ^ k
  | 0, m, hm => ⟨m, by have := val_shift B 0 m hB (Or.inl rfl) hm; simpa using this⟩
  | k + 1, m, hm => by
    by_cases h : B ≤ m
    · exact ⟨(k + 1) * B + m, val_shift B (k + 1) m hB (Or.inr h) hm⟩
    · obtain ⟨s, hs⟩ := val_rep B hB k (2 * m) (by omega)
      refine ⟨s, ?_⟩
      rw [hs, Nat.pow_succ, Nat.mul_comm 2 m, Nat.mul_assoc, Nat.mul_comm 2]

/-- 'r' is a rung nearest to N / D. -/
def NearN (B N D r : Nat) : Prop :=
  ∃ r0, val B r0 * D ≤ N ∧ N < val B (r0 + 1) * D ∧
    ((r = r0 ∧ 2 * N ≤ (val B r0 + val B (r0 + 1)) * D) ∨ (r = r0 + 1 ∧ (val B r0 + val B (r0 + 1)) * D ≤ 2 * N))

theorem cut_even (neg : Bool) (n drop : Nat) :
    (Toward.even.cut neg n drop = n / 2 ^ drop ∧ 2 * (n % 2 ^ drop) ≤ 2 ^ drop) ∨
    (Toward.even.cut neg n drop = n / 2 ^ drop + 1 ∧ 2 ^ drop ≤ 2 * (n % 2 ^ drop)) := by
  have key : ∀ d, (Toward.even.cut neg n drop = n / 2 ^ d + (decide (2 ^ d < 2 * (n % 2 ^ d)) || (2 ^ d == 2 * (n % 2 ^ d) && n / 2 ^ d % 2 == 1)).toNat) →
      (Toward.even.cut neg n drop = n / 2 ^ d ∧ 2 * (n % 2 ^ d) ≤ 2 ^ d) ∨ (Toward.even.cut neg n drop = n / 2 ^ d + 1 ∧ 2 ^ d ≤ 2 * (n % 2 ^ d)) := by
    intro d h
    rw [h]
    by_cases h1 : 2 ^ d < 2 * (n % 2 ^ d)
    · right; simp [h1]; omega
    · by_cases h2 : 2 ^ d = 2 * (n % 2 ^ d)
      · by_cases h3 : n / 2 ^ d % 2 = 1
        · right; simp [h1, ← h2, h3]
        · left; simp [h1, ← h2, h3]
      · left; simp [h1, h2]; omega
  have hl : n < 2 ^ (n.log2 + 1) := Nat.lt_log2_self
  by_cases hd : drop ≤ n.log2 + 2
  · apply key
    unfold Toward.cut
    simp only [Nat.min_eq_left hd, Nat.one_shiftLeft]
  · have hp : 2 ^ (n.log2 + 2) ≤ 2 ^ drop := Nat.pow_le_pow_right (by omega) (by omega)
    have hp2 : 2 ^ (n.log2 + 2) = 2 * 2 ^ (n.log2 + 1) := by rw [Nat.pow_succ, Nat.mul_comm]
    left
    have e1 : n / 2 ^ drop = 0 := Nat.div_eq_of_lt (by omega)
    have e2 : n % 2 ^ drop = n := Nat.mod_eq_of_lt (by omega)
    have e3 : n / 2 ^ (n.log2 + 2) = 0 := Nat.div_eq_of_lt (by omega)
    have e4 : n % 2 ^ (n.log2 + 2) = n := Nat.mod_eq_of_lt (by omega)
    rw [e1, e2]
    refine ⟨?_, by omega⟩
    unfold Toward.cut
    simp only [Nat.min_eq_right (show n.log2 + 2 ≤ drop by omega), Nat.one_shiftLeft, e3, e4]
    have h5 : ¬ 2 ^ (n.log2 + 2) < 2 * n := by omega
    have h6 : ¬ 2 ^ (n.log2 + 2) = 2 * n := by omega
    simp [h5, h6]

theorem nearest_spec (f : Format) (neg : Bool) (mag : Nat) (place : Int) (hm : mag ≠ 0) :
    ∃ r, f.nearest neg mag place = f.word neg (min r f.infRung) ∧
      NearN f.binade (mag * 2 ^ (place - f.leastPlace).toNat) (2 ^ (f.leastPlace - place).toNat) r := by
  have hB : 0 < f.binade := Nat.two_pow_pos _
  unfold Format.nearest
  rw [if_neg hm]
  dsimp only
  generalize hlast : max (place + (mag.log2 : Int) - (f.fractionBits : Int)) f.leastPlace = last
  have hl1 : mag < 2 ^ (mag.log2 + 1) := Nat.lt_log2_self
  have hl0 : 2 ^ mag.log2 ≤ mag := Nat.log2_self_le hm
  generalize mag.log2 = L at *
  refine ⟨_, rfl, ?_⟩
  generalize hc : (place - last).toNat = c
  generalize hd : (last - place).toNat = d
  generalize ht : (last - f.leastPlace).toNat = t
  generalize ha : (place - f.leastPlace).toNat = a
  generalize hb : (f.leastPlace - place).toNat = b
  have hsum : c + t + b = a + d := by omega
  rw [Nat.shiftLeft_eq]
  have hG : 0 < 2 ^ d := Nat.two_pow_pos d
  have hdm := Nat.div_add_mod (mag * 2 ^ c) (2 ^ d)
  have hml := Nat.mod_lt (mag * 2 ^ c) hG
  have hcut := cut_even neg (mag * 2 ^ c) d
  generalize hlow : mag * 2 ^ c / 2 ^ d = low at *
  generalize hrest : mag * 2 ^ c % 2 ^ d = rest at *
  generalize Toward.even.cut neg (mag * 2 ^ c) d = kept at *
  -- the bounds of 'low'
  have hlt : low < 2 * f.binade := by
    rw [← hlow]
    apply (Nat.div_lt_iff_lt_mul hG).2
    have e : 2 * f.binade = 2 ^ (f.fractionBits + 1) := by rw [Nat.pow_succ, Nat.mul_comm]; rfl
    rw [e, ← Nat.pow_add]
    have : mag * 2 ^ c < 2 ^ (L + 1) * 2 ^ c := Nat.mul_lt_mul_of_pos_right hl1 (Nat.two_pow_pos c)
    rw [← Nat.pow_add] at this
    refine Nat.lt_of_lt_of_le this (Nat.pow_le_pow_right (by omega) (by omega))
  have hge : t = 0 ∨ f.binade ≤ low := by
    by_cases h0 : t = 0
    · exact Or.inl h0
    · right
      rw [← hlow]
      apply (Nat.le_div_iff_mul_le hG).2
      have : 2 ^ L * 2 ^ c ≤ mag * 2 ^ c := Nat.mul_le_mul_right _ hl0
      rw [← Nat.pow_add] at this
      refine Nat.le_trans ?_ this
      unfold Format.binade
      rw [← Nat.pow_add]
      exact Nat.pow_le_pow_right (by omega) (by omega)
  have v0 : val f.binade (t * f.binade + low) = low * 2 ^ t := val_shift _ t low hB hge (by omega)
  have v1 : val f.binade (t * f.binade + low + 1) = (low + 1) * 2 ^ t := by
    rw [Nat.add_assoc]; exact val_shift _ t (low + 1) hB (by omega) (by omega)
  -- scaling
  have hN : (mag * 2 ^ a) * 2 ^ d = (mag * 2 ^ c) * (2 ^ t * 2 ^ b) := by
    rw [Nat.mul_assoc, Nat.mul_assoc, ← Nat.pow_add, ← Nat.pow_add, ← Nat.pow_add, ← hsum, Nat.add_assoc]
  have hT : 0 < 2 ^ t * 2 ^ b := Nat.mul_pos (Nat.two_pow_pos t) (Nat.two_pow_pos b)
  generalize hNN : mag * 2 ^ a = N at *
  generalize mag * 2 ^ c = n at *
  generalize hTT : 2 ^ t * 2 ^ b = T at *
  generalize 2 ^ d = G at *
  have s0 : val f.binade (t * f.binade + low) * 2 ^ b = low * T := by rw [v0, ← hTT, Nat.mul_assoc]
  have s1 : val f.binade (t * f.binade + low + 1) * 2 ^ b = (low + 1) * T := by rw [v1, ← hTT, Nat.mul_assoc]
  have l0 : low * T ≤ N := by
    apply Nat.le_of_mul_le_mul_right _ hG
    rw [hN]
    have : G * low ≤ n := by omega
    have := Nat.mul_le_mul_right T this
    rw [Nat.mul_comm G low, Nat.mul_right_comm] at this
    exact this
  have l1 : N < (low + 1) * T := by
    apply Nat.lt_of_mul_lt_mul_right (a := G)
    rw [hN]
    have : n < G * (low + 1) := by rw [Nat.mul_add]; omega
    have := Nat.mul_lt_mul_of_pos_right this hT
    rw [Nat.mul_comm G (low + 1), Nat.mul_right_comm] at this
    exact this
  refine ⟨t * f.binade + low, by rw [s0]; exact l0, by rw [s1]; exact l1, ?_⟩
  have e2 : (val f.binade (t * f.binade + low) + val f.binade (t * f.binade + low + 1)) * 2 ^ b = (2 * low + 1) * T := by
    rw [Nat.add_mul, s0, s1, ← Nat.add_mul]; congr 1; omega
  rw [e2]
  rcases hcut with ⟨hk, hr⟩ | ⟨hk, hr⟩
  · left
    refine ⟨by omega, ?_⟩
    apply Nat.le_of_mul_le_mul_right _ hG
    rw [Nat.mul_assoc, hN]
    have : 2 * n ≤ G * (2 * low + 1) := by rw [Nat.mul_add, ← Nat.mul_assoc, Nat.mul_comm G 2, Nat.mul_assoc]; omega
    have := Nat.mul_le_mul_right T this
    rw [Nat.mul_comm G (2 * low + 1), Nat.mul_right_comm (2 * low + 1), Nat.mul_assoc 2 n] at this
    exact this
  · right
    refine ⟨by omega, ?_⟩
    apply Nat.le_of_mul_le_mul_right _ hG
    rw [Nat.mul_assoc 2 N, hN]
    have : G * (2 * low + 1) ≤ 2 * n := by rw [Nat.mul_add, ← Nat.mul_assoc, Nat.mul_comm G 2, Nat.mul_assoc]; omega
    have := Nat.mul_le_mul_right T this
    rw [Nat.mul_comm G (2 * low + 1), Nat.mul_right_comm, Nat.mul_assoc 2 n] at this
    exact this
end Hedge
namespace Hedge
open Ieee
set_option linter.unusedSimpArgs false
set_option linter.unusedVariables false

def sgn (neg : Bool) (n : Nat) : Int := if neg then -(n : Int) else (n : Int)
def idx (f : Format) (w : Nat) : Int := sgn (w / f.signWeight % 2 == 1) (w % f.signWeight)
def sval (B : Nat) (i : Int) : Int := if i < 0 then -(val B i.natAbs : Int) else (val B i.natAbs : Int)

theorem sval_sgn (B : Nat) (neg : Bool) (r : Nat) : sval B (sgn neg r) = sgn neg (val B r) := by
  cases neg
  · simp only [sgn, sval]; simp
    intro h; omega
  · simp only [sgn, sval, if_true]
    by_cases h : r = 0
    · subst h; simp [val_zero]
    · have e : (-(r : Int)).natAbs = r := by omega
      rw [if_pos (by omega), e]

theorem sval_zero (B : Nat) : sval B 0 = 0 := by simp [sval, val_zero]
theorem sval_neg (B : Nat) (i : Int) : sval B (-i) = -sval B i := by
  unfold sval
  by_cases h0 : i = 0
  · subst h0; simp [val_zero]
  · by_cases h : i < 0
    · rw [if_neg (by omega), if_pos h, Int.natAbs_neg]; omega
    · rw [if_pos (by omega), if_neg h, Int.natAbs_neg]
theorem sval_nat (B r : Nat) : sval B (r : Int) = (val B r : Int) := by
  unfold sval; rw [if_neg (by omega)]; rfl

theorem sval_lt (B : Nat) (hB : 0 < B) {i j : Int} (h : i < j) : sval B i < sval B j := by
  unfold sval
  by_cases hi : i < 0
  · rw [if_pos hi]
    have h0 : 0 < val B i.natAbs := by have := val_lt B hB (r := 0) (s := i.natAbs) (by omega); rw [val_zero] at this; exact this
    by_cases hj : j < 0
    · rw [if_pos hj]
      have := val_lt B hB (r := j.natAbs) (s := i.natAbs) (by omega)
      omega
    · rw [if_neg hj]; omega
  · rw [if_neg hi, if_neg (by omega)]
    have := val_lt B hB (r := i.natAbs) (s := j.natAbs) (by omega)
    omega
theorem sval_lt_iff (B : Nat) (hB : 0 < B) {i j : Int} : sval B i < sval B j ↔ i < j := by
  refine ⟨fun h => ?_, sval_lt B hB⟩
  rcases Int.lt_trichotomy i j with h1 | h1 | h1
  · exact h1
  · subst h1; omega
  · have := sval_lt B hB h1; omega
theorem sval_le_iff (B : Nat) (hB : 0 < B) {i j : Int} : sval B i ≤ sval B j ↔ i ≤ j := by
  have := @sval_lt_iff B hB j i; omega
theorem sval_inj (B : Nat) (hB : 0 < B) {i j : Int} (h : sval B i = sval B j) : i = j := by
  have h1 := (@sval_le_iff B hB i j).1 (by omega)
  have h2 := (@sval_le_iff B hB j i).1 (by omega)
  omega

theorem cmp_congr {a b c d : Int} (h1 : a < b ↔ c < d) (h2 : a = b ↔ c = d) : compare a b = compare c d := by
  simp only [compare, compareOfLessAndEq, h1, h2]

theorem sgn_natAbs (neg : Bool) (n : Nat) : (sgn neg n).natAbs = n := by cases neg <;> simp [sgn]
theorem sgn_mul (neg : Bool) (n k : Nat) : sgn neg (n * k) = sgn neg n * (k : Int) := by
  cases neg <;> simp [sgn, Int.neg_mul]
theorem signed_eq (neg : Bool) (m up : Nat) : signed neg m up = sgn neg (m * 2 ^ up) := by
  cases neg <;> simp [signed, sgn, Nat.shiftLeft_eq]

/-- A format as IEEE 754 has it. -/
structure Good (f : Format) : Prop where
  le : f.binade ≤ f.infRung

theorem good_single : Good single := ⟨by decide +kernel⟩
theorem good_double : Good double := ⟨by decide +kernel⟩

theorem read_fin (f : Format) (w : Nat) (h : w % f.signWeight < f.infRung) :
    f.read w = .number (w / f.signWeight % 2 == 1) (sig f.binade (w % f.signWeight)) (f.leastPlace + (ex f.binade (w % f.signWeight) : Nat)) := by
  have hB : 0 < f.binade := Nat.two_pow_pos _
  unfold Format.read
  dsimp only
  generalize w % f.signWeight = r at *
  by_cases h1 : r < f.binade
  · rw [if_pos h1]
    have e : ex f.binade r = 0 := by unfold ex; rw [Nat.div_eq_of_lt h1]
    simp [sig, e]
  · rw [if_neg h1, if_pos h]
    have h2 := Nat.div_add_mod r f.binade
    have h3 : 0 < r / f.binade := Nat.div_pos (by omega) hB
    have e : sig f.binade r = f.binade + r % f.binade := by
      unfold sig ex
      generalize r / f.binade = q at *
      obtain ⟨q', rfl⟩ : ∃ q', q = q' + 1 := ⟨q - 1, by omega⟩
      rw [Nat.mul_comm, Nat.add_mul] at h2
      simp only [Nat.add_sub_cancel]
      omega
    rw [e]; rfl

theorem read_inf (f : Format) (g : Good f) (w : Nat) (h : w % f.signWeight = f.infRung) : f.read w = .infinity (w / f.signWeight % 2 == 1) := by
  have := g.le
  unfold Format.read
  dsimp only
  rw [h, if_neg (by omega), if_neg (by omega), if_pos rfl]

theorem read_nan (f : Format) (g : Good f) (w : Nat) (h : f.infRung < w % f.signWeight) : f.read w = .nan (w / f.signWeight % 2 == 1) (w % f.signWeight - f.infRung) := by
  have := g.le
  unfold Format.read
  dsimp only
  rw [if_neg (by omega), if_neg (by omega), if_neg (by omega)]

theorem order_nan (f : Format) (g : Good f) (x y : Nat) (h : f.infRung < x % f.signWeight ∨ f.infRung < y % f.signWeight) : f.order x y = none := by
  unfold Format.order
  rcases h with h | h
  · rw [read_nan f g x h]; rfl
  · rw [read_nan f g y h]; cases f.read x <;> rfl

theorem order_spec (f : Format) (g : Good f) (x y : Nat) (hx : x % f.signWeight ≤ f.infRung) (hy : y % f.signWeight ≤ f.infRung) :
    f.order x y = some (compare (idx f x) (idx f y)) := by
  have hB : 0 < f.binade := Nat.two_pow_pos _
  have hI : 0 < f.infRung := by have := g.le; omega
  unfold Format.order idx
  by_cases h1 : x % f.signWeight < f.infRung
  · by_cases h2 : y % f.signWeight < f.infRung
    · rw [read_fin f x h1, read_fin f y h2]
      simp only [Datum.order, signed_eq]
      generalize x % f.signWeight = r at *
      generalize y % f.signWeight = s at *
      generalize (x / f.signWeight % 2 == 1) = p at *
      generalize (y / f.signWeight % 2 == 1) = q at *
      congr 1
      have hr : val f.binade r = sig f.binade r * 2 ^ ex f.binade r := rfl
      have hs : val f.binade s = sig f.binade s * 2 ^ ex f.binade s := rfl
      generalize sig f.binade r = m at *
      generalize sig f.binade s = n at *
      generalize ex f.binade r = i at *
      generalize ex f.binade s = j at *
      generalize f.leastPlace = lp
      have eb : min (lp + (i : Int)) (lp + (j : Int)) = lp + (min i j : Nat) := by omega
      rw [eb]
      have e1 : (lp + (i : Int) - (lp + (min i j : Nat))).toNat = i - min i j := by omega
      have e2 : (lp + (j : Int) - (lp + (min i j : Nat))).toNat = j - min i j := by omega
      rw [e1, e2]
      have hc : 0 < 2 ^ min i j := Nat.two_pow_pos _
      have f1 : sgn p (m * 2 ^ (i - min i j)) * ((2 ^ min i j : Nat) : Int) = sval f.binade (sgn p r) := by
        rw [← sgn_mul, sval_sgn, hr, Nat.mul_assoc, ← Nat.pow_add]; congr 3; omega
      have f2 : sgn q (n * 2 ^ (j - min i j)) * ((2 ^ min i j : Nat) : Int) = sval f.binade (sgn q s) := by
        rw [← sgn_mul, sval_sgn, hs, Nat.mul_assoc, ← Nat.pow_add]; congr 3; omega
      have hc' : (0 : Int) < ((2 ^ min i j : Nat) : Int) := by exact_mod_cast hc
      generalize ((2 ^ min i j : Nat) : Int) = c at *
      apply cmp_congr
      · rw [← sval_lt_iff f.binade hB (i := sgn p r), ← f1, ← f2]
        exact ⟨fun h => Int.mul_lt_mul_of_pos_right h hc', fun h => Int.lt_of_mul_lt_mul_right h (Int.le_of_lt hc')⟩
      · constructor
        · intro h; apply sval_inj f.binade hB; rw [← f1, ← f2, h]
        · intro h; rw [h] at f1; rw [← f2] at f1; exact Int.eq_of_mul_eq_mul_right (by omega) f1
    · have h2' : y % f.signWeight = f.infRung := by omega
      rw [read_fin f x h1, read_inf f g y h2']
      simp only [Datum.order]
      congr 1
      rw [h2']
      generalize x % f.signWeight = r at *
      generalize (x / f.signWeight % 2 == 1) = p at *
      cases (y / f.signWeight % 2 == 1)
      · rw [if_neg (by simp)]
        symm
        simp only [compare, compareOfLessAndEq]
        rw [if_pos]; cases p <;> simp [sgn] <;> omega
      · rw [if_pos rfl]
        symm
        simp only [compare, compareOfLessAndEq]
        rw [if_neg, if_neg] <;> cases p <;> simp [sgn] <;> omega
  · have h1' : x % f.signWeight = f.infRung := by omega
    by_cases h2 : y % f.signWeight < f.infRung
    · rw [read_fin f y h2, read_inf f g x h1']
      simp only [Datum.order]
      congr 1
      rw [h1']
      generalize y % f.signWeight = r at *
      generalize (y / f.signWeight % 2 == 1) = p at *
      cases (x / f.signWeight % 2 == 1)
      · rw [if_neg (by simp)]
        symm
        simp only [compare, compareOfLessAndEq]
        rw [if_neg, if_neg] <;> cases p <;> simp [sgn] <;> omega
      · rw [if_pos rfl]
        symm
        simp only [compare, compareOfLessAndEq]
        rw [if_pos]; cases p <;> simp [sgn] <;> omega
    · have h2' : y % f.signWeight = f.infRung := by omega
      rw [read_inf f g x h1', read_inf f g y h2']
      simp only [Datum.order]
      congr 1
      rw [h1', h2']
      cases (x / f.signWeight % 2 == 1) <;> cases (y / f.signWeight % 2 == 1)
      · simp [sgn, compare, compareOfLessAndEq]
      · symm; simp only [compare, compareOfLessAndEq]; rw [if_neg (by simp [sgn] <;> omega), if_neg (by simp [sgn] <;> omega)]; rfl
      · symm; simp only [compare, compareOfLessAndEq]; rw [if_pos (by simp [sgn] <;> omega)]; rfl
      · simp [sgn, compare, compareOfLessAndEq]

/-! Words and their indexes. -/
theorem idx_word (f : Format) (neg : Bool) (r : Nat) (h : r < f.signWeight) : idx f (f.word neg r) = sgn neg r ∧ f.word neg r % f.signWeight = r ∧ (f.word neg r / f.signWeight % 2 == 1) = neg := by
  have hp : 0 < f.signWeight := Nat.two_pow_pos _
  unfold idx Format.word
  cases neg
  · have e1 : r / f.signWeight = 0 := Nat.div_eq_of_lt h
    have e2 : r % f.signWeight = r := Nat.mod_eq_of_lt h
    simp [e1, e2, sgn]
  · have e1 : (f.signWeight + r) / f.signWeight = 1 := by rw [Nat.add_div_left _ hp, Nat.div_eq_of_lt h]
    have e2 : (f.signWeight + r) % f.signWeight = r := by rw [Nat.add_mod_left, Nat.mod_eq_of_lt h]
    simp [e1, e2, sgn]
end Hedge
namespace Hedge
open Ieee
set_option linter.unusedSimpArgs false
set_option linter.unusedVariables false

theorem near_lo {B N D r s : Nat} (hB : 0 < B) (hD : 0 < D) (h : NearN B N D r) (hs : val B s * D ≤ N) : s ≤ r := by
  obtain ⟨r0, h1, h2, h3⟩ := h
  have : val B s < val B (r0 + 1) := Nat.lt_of_mul_lt_mul_right (a := D) (by omega)
  have := (val_lt_iff B hB).1 this
  omega

theorem near_hi {B N D r s : Nat} (hB : 0 < B) (hD : 0 < D) (h : NearN B N D r) (hs : N ≤ val B s * D) : r ≤ s := by
  obtain ⟨r0, h1, h2, h3⟩ := h
  by_cases hc : r0 + 1 ≤ s
  · omega
  · have hm := val_mono B hB (show s ≤ r0 by omega)
    have hm' := Nat.mul_le_mul_right D hm
    have e : val B s * D = val B r0 * D := by omega
    have e2 : s = r0 := val_inj B hB (Nat.eq_of_mul_eq_mul_right hD e)
    subst e2
    have hlt : val B s * D < val B (s + 1) * D := Nat.mul_lt_mul_of_pos_right (val_lt_succ B s hB) hD
    rcases h3 with ⟨h3, _⟩ | ⟨h3, h4⟩
    · omega
    · rw [Nat.add_mul] at h4; omega

theorem near_exact {B N D r s : Nat} (hB : 0 < B) (hD : 0 < D) (h : NearN B N D r) (hs : val B s * D = N) : r = s := by
  have h1 := near_lo hB hD h (Nat.le_of_eq hs)
  have h2 := near_hi hB hD h (Nat.le_of_eq hs.symm)
  omega

theorem near_best {B N r : Nat} (hB : 0 < B) (h : NearN B N 1 r) (s : Nat) : ((val B r : Int) - N).natAbs ≤ ((val B s : Int) - N).natAbs := by
  obtain ⟨r0, h1, h2, h3⟩ := h
  simp only [Nat.mul_one] at h1 h2 h3
  by_cases hc : s ≤ r0
  · have := val_mono B hB hc
    rcases h3 with ⟨rfl, h4⟩ | ⟨rfl, h4⟩ <;> omega
  · have := val_mono B hB (show r0 + 1 ≤ s by omega)
    rcases h3 with ⟨rfl, h4⟩ | ⟨rfl, h4⟩ <;> omega

theorem val_dvd (B r k : Nat) (hB : 0 < B) (h : (k + 1) * B ≤ r) : 2 ^ k ∣ val B r := by
  have : k + 1 ≤ r / B := (Nat.le_div_iff_mul_le hB).2 h
  unfold val ex
  exact Nat.dvd_trans (Nat.pow_dvd_pow 2 (show k ≤ r / B - 1 by omega)) (Nat.dvd_mul_left _ _)

theorem near_dvd {B N r : Nat} (hB : 0 < B) (h : NearN B N 1 r) (k : Nat) (hk : 2 ^ k ∣ N) : 2 ^ k ∣ val B r := by
  obtain ⟨m, rfl⟩ := hk
  by_cases hm : m ≤ 2 * B
  · obtain ⟨s, hs⟩ := val_rep B hB k m hm
    have := near_exact hB (by omega) h (s := s) (by rw [hs, Nat.mul_one, Nat.mul_comm])
    rw [this, hs]; exact Nat.dvd_mul_left _ _
  · apply val_dvd B r k hB
    have h1 : val B (k * B + B) = B * 2 ^ k := val_shift B k B hB (Or.inr (Nat.le_refl _)) (by omega)
    have h2 : val B (k * B + B) * 1 ≤ 2 ^ k * m := by
      rw [h1, Nat.mul_one, Nat.mul_comm]; exact Nat.mul_le_mul_left _ (by omega)
    have := near_lo hB (by omega) h h2
    rw [Nat.add_mul, Nat.one_mul]; exact this

/-- The index 'k' is nearest to the whole number 'Z' (in units). -/
def RN (B : Nat) (Z k : Int) : Prop := ∃ r, NearN B Z.natAbs 1 r ∧ k = sgn (decide (Z < 0)) r

theorem sval_RN {B : Nat} {Z k : Int} (h : RN B Z k) : ∃ r, NearN B Z.natAbs 1 r ∧ sval B k = sgn (decide (Z < 0)) (val B r) := by
  obtain ⟨r, h1, rfl⟩ := h
  exact ⟨r, h1, sval_sgn B _ r⟩

theorem RN_best {B : Nat} {Z k : Int} (hB : 0 < B) (h : RN B Z k) (j : Int) : (sval B k - Z).natAbs ≤ (sval B j - Z).natAbs := by
  obtain ⟨r, h1, h2⟩ := sval_RN h
  rw [h2]
  have hn := near_best hB h1 j.natAbs
  have h0 := near_best hB h1 0
  rw [val_zero] at h0
  by_cases hz : Z < 0
  · simp only [hz, decide_true, sgn, if_true]
    by_cases hj : j < 0
    · simp only [sval, if_pos hj]; omega
    · simp only [sval, if_neg hj]; omega
  · simp only [hz, decide_false, sgn]
    by_cases hj : j < 0
    · simp only [sval, if_pos hj]; simp; omega
    · simp only [sval, if_neg hj]; simp; omega

theorem RN_dvd {B : Nat} {Z k : Int} (hB : 0 < B) (h : RN B Z k) (n : Nat) (hn : ((2 ^ n : Nat) : Int) ∣ Z) : ((2 ^ n : Nat) : Int) ∣ sval B k := by
  obtain ⟨r, h1, h2⟩ := sval_RN h
  have := near_dvd hB h1 n (Int.ofNat_dvd_left.1 hn)
  rw [h2]
  have h3 : ((2 ^ n : Nat) : Int) ∣ (val B r : Int) := Int.natCast_dvd_natCast.2 this
  unfold sgn
  split
  · exact (Int.dvd_neg).2 h3
  · exact h3

/-- A whole number of units 2 ^ n, not too many of them, is an index's value. -/
theorem rep_int {B : Nat} (hB : 0 < B) (n : Nat) (Z : Int) (h1 : ((2 ^ n : Nat) : Int) ∣ Z) (h2 : Z.natAbs ≤ 2 * B * 2 ^ n) : ∃ j, sval B j = Z := by
  have hd := Int.ofNat_dvd_left.1 h1
  obtain ⟨m, hm⟩ := hd
  have hp : 0 < 2 ^ n := Nat.two_pow_pos n
  have : m ≤ 2 * B := by
    apply Nat.le_of_mul_le_mul_right _ hp
    rw [Nat.mul_comm, ← hm]; exact h2
  obtain ⟨s, hs⟩ := val_rep B hB n m this
  refine ⟨sgn (decide (Z < 0)) s, ?_⟩
  rw [sval_sgn, hs, Nat.mul_comm, ← hm]
  by_cases hz : Z < 0 <;> simp [sgn, hz] <;> omega

theorem RN_exact {B : Nat} {Z k : Int} (hB : 0 < B) (h : RN B Z k) (n : Nat) (h1 : ((2 ^ n : Nat) : Int) ∣ Z) (h2 : Z.natAbs ≤ 2 * B * 2 ^ n) : sval B k = Z := by
  obtain ⟨j, hj⟩ := rep_int hB n Z h1 h2
  have := RN_best hB h j
  rw [hj] at this; omega

theorem two_sum {B : Nat} (hB : 2 ^ 25 ≤ B) {X Y s b a dx dy e : Int} (kx ky : Nat)
    (hx1 : ((2 ^ kx : Nat) : Int) ∣ X) (hx2 : X.natAbs ≤ 2 ^ 24 * 2 ^ kx) (hy1 : ((2 ^ ky : Nat) : Int) ∣ Y) (hy2 : Y.natAbs ≤ 2 ^ 24 * 2 ^ ky)
    (rs : RN B (X + Y) s) (rb : RN B (sval B s - X) b) (ra : RN B (sval B s - sval B b) a) (rx : RN B (X - sval B a) dx) (ry : RN B (Y - sval B b) dy) (re : RN B (sval B dx + sval B dy) e) :
    sval B e = X + Y - sval B s := by
  have hB0 : 0 < B := by omega
  obtain ⟨jx, ejx⟩ := rep_int hB0 kx X hx1 (Nat.le_trans hx2 (Nat.mul_le_mul_right _ (by omega)))
  obtain ⟨jy, ejy⟩ := rep_int hB0 ky Y hy1 (Nat.le_trans hy2 (Nat.mul_le_mul_right _ (by omega)))
  have bx := RN_best hB0 rs jx
  have bY := RN_best hB0 rs jy
  rw [ejx] at bx; rw [ejy] at bY
  have ex : ∀ (n : Nat) {Z k : Int}, RN B Z k → ((2 ^ n : Nat) : Int) ∣ Z → Z.natAbs ≤ 67108864 * 2 ^ n → sval B k = Z := fun n Z k h h1 h2 =>
    RN_exact hB0 h n h1 (Nat.le_trans h2 (Nat.mul_le_mul_right _ (by omega)))
  by_cases hk : ky ≤ kx
  · have dX : ((2 ^ ky : Nat) : Int) ∣ X := Int.dvd_trans (Int.natCast_dvd_natCast.2 (Nat.pow_dvd_pow 2 hk)) hx1
    have dS := RN_dvd hB0 rs ky (Int.dvd_add dX hy1)
    have e1 := ex ky rb (Int.dvd_sub dS dX) (by generalize 2 ^ ky = p at *; omega)
    rw [e1] at ra ry
    have e2 := ex kx ra (by rw [show sval B s - (sval B s - X) = X by omega]; exact hx1) (by generalize 2 ^ kx = p at *; omega)
    rw [e2] at rx
    have e3 := ex 0 rx (by simp) (by omega)
    have e4 := ex ky ry (Int.dvd_sub hy1 (Int.dvd_sub dS dX)) (by generalize 2 ^ ky = p at *; omega)
    rw [e3, e4] at re
    have e5 := ex ky re (by rw [show X - (sval B s - (sval B s - X)) + (Y - (sval B s - X)) = Y - (sval B s - X) by omega]; exact Int.dvd_sub hy1 (Int.dvd_sub dS dX)) (by generalize 2 ^ ky = p at *; omega)
    omega
  · have dY : ((2 ^ kx : Nat) : Int) ∣ Y := Int.dvd_trans (Int.natCast_dvd_natCast.2 (Nat.pow_dvd_pow 2 (by omega))) hy1
    have dS := RN_dvd hB0 rs kx (Int.dvd_add hx1 dY)
    have bb := RN_best hB0 rb jy
    rw [ejy] at bb
    have dB := RN_dvd hB0 rb kx (Int.dvd_sub dS hx1)
    have e2 := ex kx ra (Int.dvd_sub dS dB) (by generalize 2 ^ kx = p at *; omega)
    rw [e2] at rx
    have e3 := ex kx rx (Int.dvd_sub hx1 (Int.dvd_sub dS dB)) (by generalize 2 ^ kx = p at *; omega)
    have e4 := ex kx ry (Int.dvd_sub dY dB) (by generalize 2 ^ kx = p at *; omega)
    rw [e3, e4] at re
    have e5 := ex kx re (Int.dvd_add (Int.dvd_sub hx1 (Int.dvd_sub dS dB)) (Int.dvd_sub dY dB)) (by generalize 2 ^ kx = p at *; omega)
    omega
end Hedge
namespace Hedge
open Ieee
set_option linter.unusedSimpArgs false
set_option linter.unusedVariables false

theorem lp32 : single.leastPlace = -149 := by decide +kernel
theorem lp64 : double.leastPlace = -1074 := by decide +kernel
theorem sw32 : single.signWeight = 2147483648 := by decide +kernel
theorem sw64 : double.signWeight = 9223372036854775808 := by decide +kernel
theorem bi32 : single.binade = 8388608 := by decide +kernel
theorem bi64 : double.binade = 4503599627370496 := by decide +kernel
theorem in32 : single.infRung = 2139095040 := by decide +kernel
theorem in64 : double.infRung = 9218868437227405312 := by decide +kernel

theorem near_zero (B : Nat) (hB : 0 < B) : NearN B 0 1 0 := by
  refine ⟨0, by rw [val_zero]; omega, ?_, Or.inl ⟨rfl, by omega⟩⟩
  have := val_lt_succ B 0 hB
  rw [val_zero] at this; omega

theorem sum_data (f : Format) (p q : Bool) (m n i j s : Nat) (Z : Int) (hZ : Z = sgn p (m * 2 ^ i) + sgn q (n * 2 ^ j)) (hs : s < f.infRung) (hz : Z.natAbs ≤ val f.binade s) :
    ∃ w, ((Datum.number p m (f.leastPlace + (i : Int))).sum (.number q n (f.leastPlace + (j : Int)))).map f.write = some w ∧ w < 2 ^ f.width ∧ w % f.signWeight < f.infRung ∧ RN f.binade Z (idx f w) := by
  have hB : 0 < f.binade := Nat.two_pow_pos _
  have hI := f.infRung_lt
  refine ⟨_, rfl, f.write_lt _, ?_⟩
  generalize hlp : f.leastPlace = lp0 at *
  have eb : min (lp0 + (i : Int)) (lp0 + (j : Int)) = lp0 + (min i j : Nat) := by omega
  rw [eb]
  have e1 : (lp0 + (i : Int) - (lp0 + (min i j : Nat))).toNat = i - min i j := by omega
  have e2 : (lp0 + (j : Int) - (lp0 + (min i j : Nat))).toNat = j - min i j := by omega
  rw [e1, e2, signed_eq, signed_eq]
  have hc : 0 < 2 ^ min i j := Nat.two_pow_pos _
  have hT : (sgn p (m * 2 ^ (i - min i j)) + sgn q (n * 2 ^ (j - min i j))) * ((2 ^ min i j : Nat) : Int) = Z := by
    rw [hZ, Int.add_mul, ← sgn_mul, ← sgn_mul, Nat.mul_assoc, ← Nat.pow_add, Nat.mul_assoc, ← Nat.pow_add]
    congr 4 <;> omega
  generalize sgn p (m * 2 ^ (i - min i j)) + sgn q (n * 2 ^ (j - min i j)) = T at *
  simp only [Format.write]
  by_cases h0 : T = 0
  · subst h0
    have hZ0 : Z = 0 := by rw [← hT]; simp
    simp only [if_true, Int.natAbs_zero]
    unfold Format.nearest
    rw [if_pos rfl]
    obtain ⟨a1, a2, a3⟩ := idx_word f (p && q) 0 (by omega)
    refine ⟨by rw [a2]; omega, ?_⟩
    rw [a1, hZ0]
    refine ⟨0, by simpa using near_zero f.binade hB, by simp [sgn]⟩
  · rw [if_neg h0]
    obtain ⟨r, hr, hn⟩ := nearest_spec f (decide (T < 0)) T.natAbs (lp0 + (min i j : Nat)) (by omega)
    rw [hlp] at hn
    have ea : (lp0 + ((min i j : Nat) : Int) - lp0).toNat = min i j := by omega
    have eb : (lp0 - (lp0 + ((min i j : Nat) : Int))).toNat = 0 := by omega
    rw [ea, eb] at hn
    have eN : T.natAbs * 2 ^ min i j = Z.natAbs := by rw [← hT, Int.natAbs_mul]; simp
    rw [eN] at hn
    have hrs : r ≤ s := near_hi hB (by simp) hn (by simpa using hz)
    rw [hr, Nat.min_eq_left (by omega)]
    obtain ⟨a1, a2, a3⟩ := idx_word f (decide (T < 0)) r (by omega)
    refine ⟨by rw [a2]; omega, r, by simpa using hn, ?_⟩
    rw [a1]
    congr 1
    have hc' : (0 : Int) < ((2 ^ min i j : Nat) : Int) := by exact_mod_cast hc
    generalize ((2 ^ min i j : Nat) : Int) = c at *
    by_cases hT0 : T < 0
    · have : T * c < 0 := Int.mul_neg_of_neg_of_pos hT0 hc'
      simp [hT0]; omega
    · have : 0 ≤ T * c := Int.mul_nonneg (by omega) (by omega)
      simp [hT0]; omega

theorem add_fin (f : Format) (x y s : Nat) (hx : x % f.signWeight < f.infRung) (hy : y % f.signWeight < f.infRung) (hs : s < f.infRung) (hz : (sval f.binade (idx f x) + sval f.binade (idx f y)).natAbs ≤ val f.binade s) :
    ∃ w, f.add x y = some w ∧ w < 2 ^ f.width ∧ w % f.signWeight < f.infRung ∧ RN f.binade (sval f.binade (idx f x) + sval f.binade (idx f y)) (idx f w) := by
  unfold Format.add
  rw [read_fin f x hx, read_fin f y hy]
  exact sum_data f _ _ _ _ _ _ s _ (by unfold idx; rw [sval_sgn, sval_sgn]; rfl) hs hz

theorem sub_fin (f : Format) (x y s : Nat) (hx : x % f.signWeight < f.infRung) (hy : y % f.signWeight < f.infRung) (hs : s < f.infRung) (hz : (sval f.binade (idx f x) - sval f.binade (idx f y)).natAbs ≤ val f.binade s) :
    ∃ w, f.sub x y = some w ∧ w < 2 ^ f.width ∧ w % f.signWeight < f.infRung ∧ RN f.binade (sval f.binade (idx f x) - sval f.binade (idx f y)) (idx f w) := by
  unfold Format.sub
  rw [read_fin f x hx, read_fin f y hy]
  have e : ∀ (b : Bool) (n : Nat), sgn (!b) n = - sgn b n := by intro b n; cases b <;> simp [sgn]
  exact sum_data f _ _ _ _ _ _ s _ (by unfold idx; rw [sval_sgn, sval_sgn, e, Int.sub_eq_add_neg]; rfl) hs hz

/-! Scaling of a place: 'm * 2 ^ (place - lp)' as a fraction. -/
theorem scale_place (m e c : Nat) (place lp : Int) (h : place - lp = (e : Int) - (c : Int)) :
    (m * 2 ^ (place - lp).toNat) * 2 ^ c = (m * 2 ^ e) * 2 ^ (lp - place).toNat := by
  rw [Nat.mul_assoc, Nat.mul_assoc, ← Nat.pow_add, ← Nat.pow_add]
  congr 2; omega

def topEx : Nat := 2046
theorem inf_top : double.infRung = topEx * double.binade + double.binade := by decide +kernel

/-- How many units of float64 a unit of float32 is. -/
def c925 : Nat := 925
def U : Nat := 2 ^ c925
theorem U_pos : 0 < U := by unfold U; exact Nat.two_pow_pos _
theorem pow_scale_lt {m c a b : Nat} (h : m < c) (hab : a ≤ b) : m * 2 ^ a < c * 2 ^ b :=
  Nat.lt_of_le_of_lt (Nat.mul_le_mul_left _ (Nat.pow_le_pow_right (by omega) hab)) (Nat.mul_lt_mul_of_pos_right h (Nat.two_pow_pos b))
theorem pow_scale_le {m c a b : Nat} (h : m ≤ c) (hab : a ≤ b) : m * 2 ^ a ≤ c * 2 ^ b :=
  Nat.mul_le_mul h (Nat.pow_le_pow_right (by omega) hab)

theorem ftf_number {src dst : Go.FloatKind} {bits m w : Nat} {s : Bool} {e : Int} (h : src ≠ dst) (hd : src.format.read bits = .number s m e) (hw : dst.format.nearest s m e = w) (hf : (dst.format.read w).isInfinity = false) :
    Go.floatToFloatBits src bits dst = some w := by
  unfold Go.floatToFloatBits Go.FloatKind.decode
  rw [if_neg h, hd]
  subst hw
  exact if_neg (by rw [Bool.not_eq_true]; exact hf)

/-- A word of float32 as one of float64. -/
theorem widen_fin (x : Nat) (hx : x % single.signWeight < single.infRung) :
    ∃ w, Go.floatToFloatBits .f32 x .f64 = some w ∧ w < 2 ^ double.width ∧ w % double.signWeight < double.infRung ∧
      sval double.binade (idx double w) = sval single.binade (idx single x) * (U : Int) ∧ (w / double.signWeight % 2 == 1) = (x / single.signWeight % 2 == 1) := by
  have hB : 0 < double.binade := Nat.two_pow_pos _
  have hI := double.infRung_lt
  have hS : 0 < single.binade := Nat.two_pow_pos _
  obtain ⟨k1, k2, k3⟩ := split_rung single.binade (x % single.signWeight) hS
  have hread := read_fin single x hx
  unfold idx
  generalize x % single.signWeight = r at *
  generalize (x / single.signWeight % 2 == 1) = p at *
  have hv : val single.binade r = sig single.binade r * 2 ^ ex single.binade r := rfl
  have hex : ex single.binade r ≤ 254 := by
    have : r / single.binade ≤ 255 := by
      apply Nat.le_of_lt_succ
      apply (Nat.div_lt_iff_lt_mul hS).2
      rw [in32] at hx; rw [bi32]; omega
    unfold ex; omega
  generalize sig single.binade r = m at *
  generalize ex single.binade r = e at *
  have hm : m ≤ 2 * double.binade := by rw [bi64]; rw [bi32] at k2; omega
  obtain ⟨t, ht⟩ := val_rep double.binade hB (e + c925) m hm
  have htI : t < double.infRung := by
    apply (val_lt_iff double.binade hB).1
    have e1 : val double.binade double.infRung = double.binade * 2 ^ topEx := by
      rw [inf_top]
      exact val_shift double.binade topEx double.binade hB (Or.inr (Nat.le_refl _)) (by rw [bi64]; omega)
    rw [ht, e1, bi64]
    exact pow_scale_lt (by rw [bi32] at k2; omega) (by unfold topEx c925; omega)
  have key : double.nearest p m (single.leastPlace + (e : Nat)) = double.word p t := by
    by_cases hm0 : m = 0
    · subst hm0
      have : t = 0 := val_inj double.binade hB (by rw [ht, val_zero]; simp)
      subst this
      unfold Format.nearest; rw [if_pos rfl]
    · obtain ⟨r', hr', hn⟩ := nearest_spec double p m (single.leastPlace + (e : Nat)) hm0
      have es := scale_place m (e + c925) 0 (single.leastPlace + (e : Nat)) double.leastPlace (by rw [lp32, lp64]; unfold c925; omega)
      have ez : (double.leastPlace - (single.leastPlace + (e : Nat))).toNat = 0 := by rw [lp32, lp64]; omega
      rw [ez] at hn es
      simp only [Nat.pow_zero, Nat.mul_one] at es
      have : r' = t := near_exact hB (by simp) hn (by rw [ht, es]; simp)
      subst this
      rw [hr', Nat.min_eq_left (by omega)]
  obtain ⟨a1, a2, a3⟩ := idx_word double p t (by omega)
  refine ⟨double.word p t, ?_, double.word_lt p (by omega), by rw [a2]; exact htI, ?_, a3⟩
  · refine ftf_number (by decide) hread key ?_
    show (double.read _).isInfinity = false
    rw [read_fin double _ (by rw [a2]; exact htI)]; rfl
  · rw [a2, a3, sval_sgn, sval_sgn, ← sgn_mul, ht, hv, Nat.mul_assoc, U, ← Nat.pow_add]

theorem widen_inf (x : Nat) (hx : x % single.signWeight = single.infRung) :
    Go.floatToFloatBits .f32 x .f64 = some (double.word (x / single.signWeight % 2 == 1) double.infRung) := by
  unfold Go.floatToFloatBits
  rw [if_neg (by decide)]
  unfold Go.FloatKind.decode Go.FloatKind.encode
  simp only [Go.FloatKind.format]
  rw [read_inf single good_single x hx]
  simp only [Format.write]

/-- float32(x) of a float64 that is not beyond the greatest float32. -/
theorem narrow_fin (x : Nat) (hx : x % double.signWeight < double.infRung) (hm : val double.binade (x % double.signWeight) ≤ val single.binade (single.infRung - 1) * U) :
    ∃ w, Go.floatToFloatBits .f64 x .f32 = some w ∧ w < 2 ^ single.width ∧ w % single.signWeight < single.infRung ∧
      (w / single.signWeight % 2 == 1) = (x / double.signWeight % 2 == 1) ∧
      ∃ N D, 0 < D ∧ NearN single.binade N D (w % single.signWeight) ∧ N * U = val double.binade (x % double.signWeight) * D := by
  have hB : 0 < double.binade := Nat.two_pow_pos _
  have hI := single.infRung_lt
  have hS : 0 < single.binade := Nat.two_pow_pos _
  have hread := read_fin double x hx
  generalize x % double.signWeight = r at *
  generalize (x / double.signWeight % 2 == 1) = p at *
  have hv : val double.binade r = sig double.binade r * 2 ^ ex double.binade r := rfl
  generalize sig double.binade r = m at *
  generalize ex double.binade r = e at *
  have key : ∃ t, single.nearest p m (double.leastPlace + (e : Nat)) = single.word p t ∧ t < single.infRung ∧ ∃ N D, 0 < D ∧ NearN single.binade N D t ∧ N * U = val double.binade r * D := by
    by_cases hm0 : m = 0
    · subst hm0
      refine ⟨0, by unfold Format.nearest; rw [if_pos rfl], by rw [in32]; omega, 0, 1, by omega, near_zero _ hS, by rw [hv]; simp⟩
    · obtain ⟨t, ht, hn⟩ := nearest_spec single p m (double.leastPlace + (e : Nat)) hm0
      have es := scale_place m e c925 (double.leastPlace + (e : Nat)) single.leastPlace (by rw [lp32, lp64]; unfold c925; omega)
      rw [← hv] at es
      change _ * U = _ at es
      have hD : 0 < 2 ^ (single.leastPlace - (double.leastPlace + (e : Nat))).toNat := Nat.two_pow_pos _
      generalize 2 ^ (single.leastPlace - (double.leastPlace + (e : Nat))).toNat = D at *
      generalize m * 2 ^ (double.leastPlace + (e : Nat) - single.leastPlace).toNat = N at *
      have hle : t ≤ single.infRung - 1 := by
        apply near_hi hS hD hn
        apply Nat.le_of_mul_le_mul_right _ U_pos
        rw [es, Nat.mul_right_comm]
        exact Nat.mul_le_mul_right _ hm
      have h0 : 0 < single.infRung := by rw [in32]; omega
      exact ⟨t, by rw [ht, Nat.min_eq_left (by omega)], by omega, N, D, hD, hn, es⟩
  obtain ⟨t, ht, htI, N, D, hD, hn, hs⟩ := key
  obtain ⟨a1, a2, a3⟩ := idx_word single p t (by omega)
  refine ⟨single.word p t, ?_, single.word_lt p (by omega), by rw [a2]; exact htI, a3, N, D, hD, by rw [a2]; exact hn, hs⟩
  refine ftf_number (by decide) hread ht ?_
  show (single.read _).isInfinity = false
  rw [read_fin single _ (by rw [a2]; exact htI)]; rfl
end Hedge
namespace Hedge
open Ieee
set_option linter.unusedSimpArgs false
set_option linter.unusedVariables false

def c149 : Nat := 149
def c1074 : Nat := 1074
def W : Nat := 2 ^ c149
def V : Nat := 2 ^ c1074
theorem W_pos : 0 < W := by unfold W; exact Nat.two_pow_pos _
theorem V_pos : 0 < V := by unfold V; exact Nat.two_pow_pos _
theorem V_eq : V = U * W := by unfold V U W; rw [← Nat.pow_add, show c925 + c149 = c1074 by decide]

theorem mul_spec (x y : Nat) (hx : x % double.signWeight < double.infRung) (hy : y % double.signWeight < double.infRung) :
    ∃ r, double.mul x y = some (double.word ((x / double.signWeight % 2 == 1) ^^ (y / double.signWeight % 2 == 1)) (min r double.infRung)) ∧
      ∃ N D, 0 < D ∧ NearN double.binade N D r ∧ N * V = val double.binade (x % double.signWeight) * val double.binade (y % double.signWeight) * D := by
  have hB : 0 < double.binade := Nat.two_pow_pos _
  unfold Format.mul
  rw [read_fin double x hx, read_fin double y hy]
  generalize x % double.signWeight = rx at *
  generalize y % double.signWeight = ry at *
  generalize (x / double.signWeight % 2 == 1) = p at *
  generalize (y / double.signWeight % 2 == 1) = q at *
  have hvx : val double.binade rx = sig double.binade rx * 2 ^ ex double.binade rx := rfl
  have hvy : val double.binade ry = sig double.binade ry * 2 ^ ex double.binade ry := rfl
  generalize sig double.binade rx = m at *
  generalize ex double.binade rx = e at *
  generalize sig double.binade ry = n at *
  generalize ex double.binade ry = d at *
  simp only [Datum.product, Option.map_some, Format.write]
  by_cases h0 : m * n = 0
  · refine ⟨0, ?_, 0, 1, by omega, near_zero _ hB, ?_⟩
    · unfold Format.nearest; rw [if_pos h0]; simp
    · rw [hvx, hvy, Nat.mul_one, Nat.mul_mul_mul_comm, h0]; simp
  · obtain ⟨r, hr, hn⟩ := nearest_spec double (p ^^ q) (m * n) (double.leastPlace + (e : Int) + (double.leastPlace + (d : Int))) h0
    have es : (m * n * 2 ^ (double.leastPlace + (e : Int) + (double.leastPlace + (d : Int)) - double.leastPlace).toNat) * V = (m * n * 2 ^ (e + d)) * 2 ^ (double.leastPlace - (double.leastPlace + (e : Int) + (double.leastPlace + (d : Int)))).toNat := scale_place (m * n) (e + d) c1074 (double.leastPlace + (e : Int) + (double.leastPlace + (d : Int))) double.leastPlace (by rw [lp64]; unfold c1074; omega)
    have hD : 0 < 2 ^ (double.leastPlace - (double.leastPlace + (e : Int) + (double.leastPlace + (d : Int)))).toNat := Nat.two_pow_pos _
    generalize 2 ^ (double.leastPlace - (double.leastPlace + (e : Int) + (double.leastPlace + (d : Int)))).toNat = D at *
    generalize m * n * 2 ^ (double.leastPlace + (e : Int) + (double.leastPlace + (d : Int)) - double.leastPlace).toNat = N at *
    refine ⟨r, by rw [hr], N, D, hD, hn, ?_⟩
    rw [es, hvx, hvy, Nat.pow_add, Nat.mul_mul_mul_comm]

/-- What is left over only has to be told from nothing. -/
theorem sticky {B Q n0 d a b r : Nat} (hB : 0 < B) (hd : 0 < d) (hQ : Q = n0 / d) (hQB : 2 * B ≤ Q)
    (h : NearN B ((2 * Q + (n0 % d != 0).toNat) * 2 ^ a) (2 ^ b) r) : NearN B (n0 * 2 ^ (a + 1)) (d * 2 ^ b) r := by
  obtain ⟨r0, h1, h2, h3⟩ := h
  refine ⟨r0, ?_⟩
  have hs := val_succ B r0 hB
  have hv : val B r0 = sig B r0 * 2 ^ ex B r0 := rfl
  obtain ⟨k1, k2, k3⟩ := split_rung B r0 hB
  have hdm := Nat.div_add_mod n0 d
  have hml := Nat.mod_lt n0 hd
  rw [← hQ] at hdm
  rw [hs] at h2 h3 ⊢
  rw [hv] at h1 h2 h3 ⊢
  generalize sig B r0 = s at *
  generalize ex B r0 = e at *
  -- the gap is four times the unit at least
  have hg : a + 2 ≤ e + b := by
    apply Nat.lt_of_not_le
    intro hc
    have hp : 2 ^ (e + b) ≤ 2 ^ (a + 1) := Nat.pow_le_pow_right (by omega) (by omega)
    have e1 : (s * 2 ^ e + 2 ^ e) * 2 ^ b = (s + 1) * 2 ^ (e + b) := by rw [← Nat.succ_mul, Nat.mul_assoc, ← Nat.pow_add]
    rw [e1] at h2
    have h4 : (s + 1) * 2 ^ (e + b) ≤ (2 * B) * 2 ^ (a + 1) := Nat.mul_le_mul (by omega) hp
    have h5 : (2 * (2 * B)) * 2 ^ a ≤ (2 * Q + (n0 % d != 0).toNat) * 2 ^ a := Nat.mul_le_mul_right _ (by omega)
    have h6 : (2 * B) * 2 ^ (a + 1) = (2 * (2 * B)) * 2 ^ a := by rw [Nat.pow_succ, Nat.mul_comm (2 ^ a) 2, ← Nat.mul_assoc, Nat.mul_comm (2 * B) 2]
    omega
  obtain ⟨c, hc⟩ : ∃ c, e + b = a + 2 + c := ⟨e + b - (a + 2), by omega⟩
  have hG : 2 ^ e * 2 ^ b = 4 * 2 ^ c * 2 ^ a := by
    rw [← Nat.pow_add, hc, Nat.pow_add, Nat.pow_add, Nat.mul_comm (2 ^ a)]; rw [show 2 ^ 2 = 4 by rfl, Nat.mul_right_comm]
  have hA : 0 < 2 ^ a := Nat.two_pow_pos a
  generalize 2 ^ c = H at *
  have f1 : ∀ t : Nat, t * 2 ^ e * 2 ^ b = t * (4 * H) * 2 ^ a := by intro t; rw [Nat.mul_assoc, hG, Nat.mul_assoc t]
  have f2 : ∀ t : Nat, t * 2 ^ e * (d * 2 ^ b) = t * (2 * H) * d * 2 ^ (a + 1) := by
    intro t
    rw [Nat.mul_comm d, ← Nat.mul_assoc, f1, Nat.pow_succ]
    simp only [Nat.mul_assoc, Nat.mul_left_comm, Nat.mul_comm]
    have : (4 : Nat) = 2 * 2 := rfl
    rw [this]; simp only [Nat.mul_assoc, Nat.mul_left_comm, Nat.mul_comm]
  have g1 : s * 2 ^ e + 2 ^ e = (s + 1) * 2 ^ e := (Nat.succ_mul s (2 ^ e)).symm
  have g2 : s * 2 ^ e + (s + 1) * 2 ^ e = (2 * s + 1) * 2 ^ e := by rw [← Nat.add_mul]; congr 1; omega
  rw [g1] at h2 h3 ⊢
  rw [g2] at h3 ⊢
  rw [f1] at h1 h2 h3
  rw [f2, f2, f2]
  have p1 := Nat.le_of_mul_le_mul_right h1 hA
  have p2 := Nat.lt_of_mul_lt_mul_right h2
  have hσ : (n0 % d != 0).toNat = if n0 % d = 0 then 0 else 1 := by by_cases hh : n0 % d = 0 <;> simp [hh]
  rw [hσ] at p1 p2 h3
  generalize hs2 : s * (2 * H) = S at *
  have eS : s * (4 * H) = 2 * S := by rw [← hs2, Nat.mul_left_comm 2 s, ← Nat.mul_assoc 2 2]
  have eS1 : (s + 1) * (2 * H) = S + 2 * H := by rw [Nat.add_mul, hs2]; omega
  have eS2 : (s + 1) * (4 * H) = 2 * S + 4 * H := by rw [Nat.add_mul, eS]; omega
  have eS3 : (2 * s + 1) * (2 * H) = 2 * S + 2 * H := by rw [Nat.add_mul, Nat.mul_assoc, hs2]; omega
  have eS4 : (2 * s + 1) * (4 * H) = 4 * S + 4 * H := by rw [Nat.add_mul, Nat.mul_assoc, eS]; omega
  rw [eS] at p1; rw [eS2] at p2; rw [eS4] at h3
  rw [eS1, eS3]
  have q1 : S ≤ Q := by split at p1 <;> omega
  have q2 : Q + 1 ≤ S + 2 * H := by split at p2 <;> omega
  have z1 : S * d ≤ n0 := Nat.le_trans (Nat.mul_le_mul_right d q1) (by rw [Nat.mul_comm]; omega)
  have z2 : n0 < (S + 2 * H) * d := by
    have : (Q + 1) * d ≤ (S + 2 * H) * d := Nat.mul_le_mul_right d q2
    rw [Nat.add_mul, Nat.one_mul, Nat.mul_comm Q] at this
    omega
  have hA1 : 0 < 2 ^ (a + 1) := Nat.two_pow_pos _
  refine ⟨Nat.mul_le_mul_right _ z1, Nat.mul_lt_mul_of_pos_right z2 hA1, ?_⟩
  have e2 : ∀ t : Nat, 2 * (t * 2 ^ a) = (2 * t) * 2 ^ a := by intro t; rw [Nat.mul_assoc]
  rcases h3 with ⟨rfl, h3⟩ | ⟨rfl, h3⟩
  · left
    refine ⟨rfl, ?_⟩
    rw [e2] at h3
    have p3 := Nat.le_of_mul_le_mul_right h3 hA
    rw [← Nat.mul_assoc 2 n0]
    apply Nat.mul_le_mul_right
    by_cases hz : n0 % d = 0
    · rw [if_pos hz] at p3
      have : Q * d ≤ (S + H) * d := Nat.mul_le_mul_right d (by omega)
      have e3 : (2 * S + 2 * H) * d = 2 * ((S + H) * d) := by rw [← Nat.mul_add, Nat.mul_assoc]
      rw [e3]; rw [Nat.mul_comm Q] at this; omega
    · rw [if_neg hz] at p3
      have : (Q + 1) * d ≤ (S + H) * d := Nat.mul_le_mul_right d (by omega)
      have e3 : (2 * S + 2 * H) * d = 2 * ((S + H) * d) := by rw [← Nat.mul_add, Nat.mul_assoc]
      rw [Nat.add_mul, Nat.one_mul, Nat.mul_comm Q] at this
      rw [e3]; omega
  · right
    refine ⟨rfl, ?_⟩
    rw [e2] at h3
    have p3 := Nat.le_of_mul_le_mul_right h3 hA
    rw [← Nat.mul_assoc 2 n0]
    apply Nat.mul_le_mul_right
    have : (S + H) * d ≤ Q * d := Nat.mul_le_mul_right d (by split at p3 <;> omega)
    have e3 : (2 * S + 2 * H) * d = 2 * ((S + H) * d) := by rw [← Nat.mul_add, Nat.mul_assoc]
    rw [Nat.mul_comm Q] at this
    rw [e3]; omega
end Hedge
namespace Hedge
open Ieee
set_option linter.unusedSimpArgs false
set_option linter.unusedVariables false

theorem div_spec (x y : Nat) (hx : x % double.signWeight < double.infRung) (hy : y % double.signWeight < double.infRung) (hy0 : 0 < y % double.signWeight) :
    ∃ r, double.div x y = some (double.word ((x / double.signWeight % 2 == 1) ^^ (y / double.signWeight % 2 == 1)) (min r double.infRung)) ∧
      ∃ N D, 0 < D ∧ NearN double.binade N D r ∧ N * val double.binade (y % double.signWeight) = val double.binade (x % double.signWeight) * V * D := by
  have hB : 0 < double.binade := Nat.two_pow_pos _
  unfold Format.div
  rw [read_fin double x hx, read_fin double y hy]
  obtain ⟨k1, k2, k3⟩ := split_rung double.binade (x % double.signWeight) hB
  obtain ⟨l1, l2, l3⟩ := split_rung double.binade (y % double.signWeight) hB
  generalize x % double.signWeight = rx at *
  generalize y % double.signWeight = ry at *
  generalize (x / double.signWeight % 2 == 1) = p at *
  generalize (y / double.signWeight % 2 == 1) = q at *
  have hvx : val double.binade rx = sig double.binade rx * 2 ^ ex double.binade rx := rfl
  have hvy : val double.binade ry = sig double.binade ry * 2 ^ ex double.binade ry := rfl
  generalize sig double.binade rx = m at *
  generalize ex double.binade rx = e at *
  generalize sig double.binade ry = n at *
  generalize ex double.binade ry = d at *
  have hn0 : n ≠ 0 := by
    intro h; subst h
    rcases l3 with l3 | l3
    · subst l3; omega
    · omega
  simp only [Datum.quotient]
  rw [if_neg hn0]
  simp only [Option.map_some, Format.write]
  have hdig : double.fractionBits + 2 = 54 := rfl
  rw [hdig]
  by_cases h0 : m = 0
  · subst h0
    refine ⟨0, ?_, 0, 1, by omega, near_zero _ hB, by rw [hvx]; simp⟩
    simp [Format.nearest]
  · have hml1 : m < 2 ^ (m.log2 + 1) := Nat.lt_log2_self
    have hml0 : 2 ^ m.log2 ≤ m := Nat.log2_self_le h0
    have hnl1 : n < 2 ^ (n.log2 + 1) := Nat.lt_log2_self
    have hnl0 : 2 ^ n.log2 ≤ n := Nat.log2_self_le hn0
    have hml : m.log2 ≤ 52 := by
      have : 2 ^ m.log2 < 2 ^ 53 := by rw [bi64] at k2; omega
      have := (Nat.pow_lt_pow_iff_right (a := 2) (by omega)).1 this
      omega
    generalize m.log2 = lm at *
    generalize n.log2 = ln at *
    generalize hmore : 54 + ln - lm = more at *
    rw [Nat.shiftLeft_eq]
    have hQB : 2 * double.binade ≤ m * 2 ^ more / n := by
      apply (Nat.le_div_iff_mul_le (by omega)).2
      have h1 : 2 ^ lm * 2 ^ more ≤ m * 2 ^ more := Nat.mul_le_mul_right _ hml0
      rw [← Nat.pow_add, show lm + more = 53 + (ln + 1) by omega, Nat.pow_add] at h1
      have h2 : 2 * double.binade * n ≤ 2 ^ 53 * 2 ^ (ln + 1) := Nat.mul_le_mul (by rw [bi64]; omega) (by omega)
      omega
    have hmag : 2 * (m * 2 ^ more / n) + (m * 2 ^ more % n != 0).toNat ≠ 0 := by rw [bi64] at hQB; omega
    obtain ⟨r, hr, hn⟩ := nearest_spec double (p ^^ q) _ (double.leastPlace + (e : Int) - (double.leastPlace + (d : Int)) - (more : Int) - 1) hmag
    have hst := sticky hB (by omega) rfl hQB hn
    refine ⟨r, by rw [hr], _, _, ?_, hst, ?_⟩
    · exact Nat.mul_pos (by omega) (Nat.two_pow_pos _)
    · rw [hvx, hvy]
      unfold V
      have hab : more + ((double.leastPlace + (e : Int) - (double.leastPlace + (d : Int)) - (more : Int) - 1 - double.leastPlace).toNat + 1) + d =
          e + c1074 + (double.leastPlace - (double.leastPlace + (e : Int) - (double.leastPlace + (d : Int)) - (more : Int) - 1)).toNat := by
        rw [lp64]; unfold c1074; omega
      generalize (double.leastPlace + (e : Int) - (double.leastPlace + (d : Int)) - (more : Int) - 1 - double.leastPlace).toNat + 1 = a at *
      generalize (double.leastPlace - (double.leastPlace + (e : Int) - (double.leastPlace + (d : Int)) - (more : Int) - 1)).toNat = b at *
      generalize c1074 = c at *
      have e1 : m * 2 ^ more * 2 ^ a * (n * 2 ^ d) = m * n * 2 ^ (more + a + d) := by
        rw [Nat.pow_add, Nat.pow_add]; simp only [Nat.mul_assoc, Nat.mul_left_comm, Nat.mul_comm]
      have e2 : m * 2 ^ e * 2 ^ c * (n * 2 ^ b) = m * n * 2 ^ (e + c + b) := by
        rw [Nat.pow_add, Nat.pow_add]; simp only [Nat.mul_assoc, Nat.mul_left_comm, Nat.mul_comm]
      rw [e1, e2, hab]

/-- A float32 that is not 0, with a mantissa of 24 bits, in units of float64. -/
theorem norm24 (r : Nat) (h0 : 0 < r) (hr : r < single.infRung) :
    ∃ m k, 8388608 ≤ m ∧ m < 16777216 ∧ val single.binade r * U = m * 2 ^ k ∧ 900 ≤ k ∧ k ≤ 1179 := by
  have hS : 0 < single.binade := Nat.two_pow_pos _
  obtain ⟨k1, k2, k3⟩ := split_rung single.binade r hS
  have hv : val single.binade r = sig single.binade r * 2 ^ ex single.binade r := rfl
  have hex : ex single.binade r ≤ 254 := by
    have : r / single.binade ≤ 255 := by
      apply Nat.le_of_lt_succ
      apply (Nat.div_lt_iff_lt_mul hS).2
      rw [in32] at hr; rw [bi32]; omega
    unfold ex; omega
  generalize sig single.binade r = m at *
  generalize ex single.binade r = e at *
  rw [bi32] at k1 k2 k3
  by_cases hm : 8388608 ≤ m
  · refine ⟨m, e + c925, hm, by omega, ?_, by unfold c925; omega, by unfold c925; omega⟩
    rw [hv, U, Nat.mul_assoc, ← Nat.pow_add]
  · have he : e = 0 := by omega
    subst he
    have hm0 : m ≠ 0 := by omega
    have l1 : m < 2 ^ (m.log2 + 1) := Nat.lt_log2_self
    have l0 : 2 ^ m.log2 ≤ m := Nat.log2_self_le hm0
    have hl : m.log2 ≤ 22 := by
      have : 2 ^ m.log2 < 2 ^ 23 := by omega
      have := (Nat.pow_lt_pow_iff_right (a := 2) (by omega)).1 this
      omega
    generalize m.log2 = l at *
    refine ⟨m * 2 ^ (23 - l), c925 - (23 - l), ?_, ?_, ?_, by unfold c925; omega, by unfold c925; omega⟩
    · have : 2 ^ l * 2 ^ (23 - l) ≤ m * 2 ^ (23 - l) := Nat.mul_le_mul_right _ l0
      rw [← Nat.pow_add, show l + (23 - l) = 23 by omega] at this
      omega
    · have : m * 2 ^ (23 - l) < 2 ^ (l + 1) * 2 ^ (23 - l) := Nat.mul_lt_mul_of_pos_right l1 (Nat.two_pow_pos _)
      rw [← Nat.pow_add, show l + 1 + (23 - l) = 24 by omega] at this
      omega
    · rw [hv, U, Nat.mul_assoc m (2 ^ (23 - l)), ← Nat.pow_add, show 23 - l + (c925 - (23 - l)) = c925 by unfold c925; omega]; simp

theorem rung_lt_inf (t k m : Nat) (ht : val double.binade t = m * 2 ^ k) (hm : m < double.binade) (hk : k ≤ 2046) : t < double.infRung := by
  have hB : 0 < double.binade := Nat.two_pow_pos _
  apply (val_lt_iff double.binade hB).1
  have e1 : val double.binade double.infRung = double.binade * 2 ^ topEx := by
    rw [inf_top]
    exact val_shift double.binade topEx double.binade hB (Or.inr (Nat.le_refl _)) (by rw [bi64]; omega)
  rw [ht, e1]
  exact pow_scale_lt hm (by unfold topEx; omega)

/-- The product of two float32 is a float64. -/
theorem prod_rung (rx ry : Nat) (hx : rx < single.infRung) (hy : ry < single.infRung) :
    ∃ t, t < double.infRung ∧ val double.binade t * V = (val single.binade rx * U) * (val single.binade ry * U) := by
  have hB : 0 < double.binade := Nat.two_pow_pos _
  by_cases h0 : rx = 0
  · exact ⟨0, by rw [in64]; omega, by rw [h0]; simp [val_zero]⟩
  by_cases h1 : ry = 0
  · exact ⟨0, by rw [in64]; omega, by rw [h1]; simp [val_zero]⟩
  obtain ⟨m, k, m1, m2, e1, k1, k2⟩ := norm24 rx (by omega) hx
  obtain ⟨n, l, n1, n2, e2, l1, l2⟩ := norm24 ry (by omega) hy
  have hmn : m * n < 16777216 * 16777216 := Nat.mul_lt_mul_of_le_of_lt (Nat.le_of_lt m2) n2 (by omega)
  obtain ⟨t, ht⟩ := val_rep double.binade hB (k + l - c1074) (m * n) (by rw [bi64]; omega)
  refine ⟨t, rung_lt_inf t _ _ ht (by rw [bi64]; omega) (by unfold c1074; omega), ?_⟩
  rw [ht, e1, e2, V, Nat.mul_assoc (m * n), ← Nat.pow_add, show k + l - c1074 + c1074 = k + l by unfold c1074; omega, Nat.pow_add, Nat.mul_mul_mul_comm]
end Hedge
namespace Hedge
open Ieee
set_option linter.unusedSimpArgs false
set_option linter.unusedVariables false

theorem B64 : double.binade = 2 ^ 52 := rfl

/-- The rung of float64 that a finite rung of float32 is. -/
theorem up_rung (s : Nat) (hs : s < single.infRung) : ∃ t, t < double.infRung ∧ val double.binade t = val single.binade s * U := by
  have hB : 0 < double.binade := Nat.two_pow_pos _
  by_cases h0 : s = 0
  · exact ⟨0, by rw [in64]; omega, by rw [h0]; simp [val_zero]⟩
  · obtain ⟨m, k, m1, m2, e1, k1, k2⟩ := norm24 s (by omega) hs
    obtain ⟨t, ht⟩ := val_rep double.binade hB k m (by rw [bi64]; omega)
    exact ⟨t, rung_lt_inf t _ _ ht (by rw [bi64]; omega) (by omega), by rw [ht, e1]⟩

theorem gap_small {r0 r m k : Nat} (hr : r0 ≤ r) (hv : val double.binade r = m * 2 ^ k) (hm : m < 16777216) (hk : 28 ≤ k) : 2 ^ ex double.binade r0 * 2 ^ 28 ≤ 2 ^ k := by
  have hB : 0 < double.binade := Nat.two_pow_pos _
  obtain ⟨k1, k2, k3⟩ := split_rung double.binade r0 hB
  have hv0 : val double.binade r0 = sig double.binade r0 * 2 ^ ex double.binade r0 := rfl
  have hmono := val_mono double.binade hB hr
  rw [hv, hv0] at hmono
  generalize sig double.binade r0 = s at *
  generalize ex double.binade r0 = e at *
  rw [← Nat.pow_add]
  apply Nat.pow_le_pow_right (by omega)
  rcases k3 with k3 | k3
  · omega
  · have h1 : 2 ^ 52 * 2 ^ e ≤ s * 2 ^ e := Nat.mul_le_mul_right _ (by rw [← B64]; exact k3)
    have h2 : m * 2 ^ k < 2 ^ 24 * 2 ^ k := Nat.mul_lt_mul_of_pos_right (by omega) (Nat.two_pow_pos _)
    rw [← Nat.pow_add] at h1 h2
    have h3 : 2 ^ (52 + e) < 2 ^ (24 + k) := by omega
    have := (Nat.pow_lt_pow_iff_right (a := 2) (by omega)).1 h3
    omega

theorem near_close {B N D r : Nat} (hB : 0 < B) (h : NearN B N D r) : ∃ r0, r0 ≤ r ∧ 2 * (val B r * D) ≤ 2 * N + 2 ^ ex B r0 * D ∧ 2 * N ≤ 2 * (val B r * D) + 2 ^ ex B r0 * D := by
  obtain ⟨r0, h1, h2, h3⟩ := h
  have hs := val_succ B r0 hB
  refine ⟨r0, ?_⟩
  rw [hs] at h2 h3
  rw [Nat.add_mul] at h2
  have e : (val B r0 + (val B r0 + 2 ^ ex B r0)) * D = 2 * (val B r0 * D) + 2 ^ ex B r0 * D := by
    rw [Nat.add_mul, Nat.add_mul]; omega
  rw [e] at h3
  rcases h3 with ⟨rfl, h3⟩ | ⟨rfl, h3⟩
  · refine ⟨Nat.le_refl _, by omega, by omega⟩
  · rw [hs, Nat.add_mul]
    refine ⟨by omega, by omega, by omega⟩

/-- Two whole numbers of units of 2 ^ k, nearer than one such unit. -/
theorem eq_of_near {A C k : Nat} (hA : 2 ^ k ∣ A) (hC : 2 ^ k ∣ C) (h1 : A < C + 2 ^ k) (h2 : C < A + 2 ^ k) : A = C := by
  obtain ⟨a, rfl⟩ := hA
  obtain ⟨c, rfl⟩ := hC
  have e : ∀ t, 2 ^ k * t + 2 ^ k = 2 ^ k * (t + 1) := fun t => by rw [Nat.mul_add, Nat.mul_one]
  rw [e] at h1 h2
  have p1 := Nat.lt_of_mul_lt_mul_left h1
  have p2 := Nat.lt_of_mul_lt_mul_left h2
  have : a = c := by omega
  rw [this]

theorem alg1 {N g D Y X : Nat} (hq : N * Y = X * D) : (2 * N + g * D) * Y = (2 * X + g * Y) * D := by
  rw [Nat.add_mul, Nat.add_mul, Nat.mul_assoc, hq, Nat.mul_assoc 2 X, Nat.mul_right_comm g]
theorem alg2 (P D Y : Nat) : 2 * (P * D) * Y = 2 * (P * Y) * D := by
  rw [Nat.mul_assoc 2 (P * D), Nat.mul_right_comm P D Y, ← Nat.mul_assoc 2]
theorem alg3 (P g D Y : Nat) : (2 * (P * D) + g * D) * Y = (2 * (P * Y) + g * Y) * D := by
  rw [Nat.add_mul, Nat.add_mul, alg2, Nat.mul_right_comm g]

/-- A quotient of float32 whose nearest float64 is a float32 is that one. -/
theorem quot_short {rx ry N D r m1 k1 : Nat} (hx : rx < single.infRung) (hy0 : 0 < ry) (hy : ry < single.infRung) (hD : 0 < D)
    (hn : NearN double.binade N D r) (hq : N * (val single.binade ry * U) = (val single.binade rx * U) * V * D)
    (hm1 : 8388608 ≤ m1) (hm2 : m1 < 16777216) (hk : 900 ≤ k1) (hS : val double.binade r = m1 * 2 ^ k1) :
    val double.binade r * (val single.binade ry * U) = (val single.binade rx * U) * V := by
  have hB : 0 < double.binade := Nat.two_pow_pos _
  obtain ⟨r0, hr0, c1, c2⟩ := near_close hB hn
  have hg := gap_small hr0 hS hm2 (by omega)
  obtain ⟨m2, k2, n1, n2, e2, l1, l2⟩ := norm24 ry hy0 hy
  rw [e2] at hq ⊢
  rw [hS] at c1 c2 ⊢
  generalize 2 ^ ex double.binade r0 = g at *
  generalize hX : val single.binade rx * U * V = X at *
  -- 2 * |X - S * Y| * 2 ^ 28 <= 2 ^ k1 * Y
  have hY : 0 < m2 * 2 ^ k2 := Nat.mul_pos (by omega) (Nat.two_pow_pos _)
  have hSY : m1 * 2 ^ k1 * (m2 * 2 ^ k2) = m1 * m2 * 2 ^ (k1 + k2) := by rw [Nat.pow_add, Nat.mul_mul_mul_comm]
  have hgY : g * (m2 * 2 ^ k2) * 2 ^ 4 ≤ 2 ^ (k1 + k2) := by
    have h1 : g * (m2 * 2 ^ k2) * 2 ^ 4 ≤ g * (2 ^ 24 * 2 ^ k2) * 2 ^ 4 := Nat.mul_le_mul_right _ (Nat.mul_le_mul_left _ (Nat.mul_le_mul_right _ (by omega)))
    have h2 : g * (2 ^ 24 * 2 ^ k2) * 2 ^ 4 = (g * 2 ^ 28) * 2 ^ k2 := by
      rw [show (2 : Nat) ^ 28 = 2 ^ 24 * 2 ^ 4 by rfl]; simp only [Nat.mul_assoc, Nat.mul_left_comm, Nat.mul_comm]
    have h3 : (g * 2 ^ 28) * 2 ^ k2 ≤ 2 ^ k1 * 2 ^ k2 := Nat.mul_le_mul_right _ hg
    rw [Nat.pow_add]; omega
  have d1 : 2 * (m1 * 2 ^ k1 * (m2 * 2 ^ k2)) ≤ 2 * X + g * (m2 * 2 ^ k2) := by
    have := Nat.mul_le_mul_right (m2 * 2 ^ k2) c1
    rw [alg1 hq, alg2] at this
    exact Nat.le_of_mul_le_mul_right this hD
  have d2 : 2 * X ≤ 2 * (m1 * 2 ^ k1 * (m2 * 2 ^ k2)) + g * (m2 * 2 ^ k2) := by
    have := Nat.mul_le_mul_right (m2 * 2 ^ k2) c2
    rw [alg3, Nat.mul_assoc, hq, ← Nat.mul_assoc] at this
    exact Nat.le_of_mul_le_mul_right this hD
  rw [hSY] at d1 d2 ⊢
  generalize g * (m2 * 2 ^ k2) = z at *
  have hmm : 8388608 * 8388608 ≤ m1 * m2 := Nat.mul_le_mul hm1 n1
  have hbig : 70368744177664 * 2 ^ (k1 + k2) ≤ m1 * m2 * 2 ^ (k1 + k2) := Nat.mul_le_mul_right _ (by omega)
  have hX0 : rx ≠ 0 := by
    intro h; subst h
    rw [val_zero] at hX
    simp at hX; subst hX
    have := Nat.two_pow_pos (k1 + k2)
    omega
  obtain ⟨m3, k3, o1, o2, e3, p1, p2⟩ := norm24 rx (by omega) hx
  have hX2 : X = m3 * 2 ^ (k3 + c1074) := by rw [← hX, e3, V, Nat.pow_add, Nat.mul_assoc]
  have hkk : k1 + k2 ≤ k3 + c1074 := by
    apply Nat.le_of_not_lt
    intro hc
    have h1 : 2 ^ (k3 + c1074) ≤ 2 ^ (k1 + k2) := Nat.pow_le_pow_right (by omega) (by omega)
    have h2 : X ≤ 16777216 * 2 ^ (k1 + k2) := by rw [hX2]; exact Nat.mul_le_mul (by omega) h1
    have := Nat.two_pow_pos (k1 + k2)
    omega
  have hdX : 2 ^ (k1 + k2) ∣ X := by rw [hX2]; exact Nat.dvd_trans (Nat.pow_dvd_pow 2 hkk) (Nat.dvd_mul_left _ _)
  have hpos := Nat.two_pow_pos (k1 + k2)
  exact eq_of_near (Nat.dvd_mul_left _ _) hdX (by omega) (by omega)

/-- How the float64 nearest to a quotient of two float32 stands to a float32: as the quotient does. -/
theorem quot_cmp {rx ry N D r s : Nat} (hx : rx < single.infRung) (hy0 : 0 < ry) (hy : ry < single.infRung) (hD : 0 < D)
    (hn : NearN double.binade N D r) (hq : N * (val single.binade ry * U) = (val single.binade rx * U) * V * D) (hs : s < single.infRung) :
    (val single.binade s * U ≤ val double.binade r ↔ val single.binade s * val single.binade ry ≤ val single.binade rx * W) ∧
    (val double.binade r ≤ val single.binade s * U ↔ val single.binade rx * W ≤ val single.binade s * val single.binade ry) := by
  have hB : 0 < double.binade := Nat.two_pow_pos _
  have hS : 0 < single.binade := Nat.two_pow_pos _
  obtain ⟨t, htI, ht⟩ := up_rung s hs
  have hyv : 0 < val single.binade ry := by have := val_lt single.binade hS hy0; rw [val_zero] at this; exact this
  have hUU : 0 < U * U := Nat.mul_pos U_pos U_pos
  have eSY : (val single.binade s * U) * (val single.binade ry * U) = (val single.binade s * val single.binade ry) * (U * U) := Nat.mul_mul_mul_comm _ _ _ _
  have eXV : (val single.binade rx * U) * V = (val single.binade rx * W) * (U * U) := by
    rw [V_eq, Nat.mul_comm U W, Nat.mul_mul_mul_comm]
  have hY : 0 < val single.binade ry * U := Nat.mul_pos hyv U_pos
  have key : val single.binade s * U = val double.binade r → (val single.binade s * U) * (val single.binade ry * U) = (val single.binade rx * U) * V := by
    intro he
    by_cases h0 : s = 0
    · subst h0
      rw [val_zero, Nat.zero_mul] at he
      rw [val_zero, Nat.zero_mul, Nat.zero_mul]
      have hr0 : r = 0 := val_inj double.binade hB (by rw [val_zero]; exact he.symm)
      subst hr0
      by_cases hx0 : rx = 0
      · subst hx0; rw [val_zero]; simp
      · exfalso
        obtain ⟨q0, hq0, c1, c2⟩ := near_close hB hn
        have hq1 : q0 = 0 := by omega
        subst hq1
        have e0 : ex double.binade 0 = 0 := by simp [ex]
        rw [val_zero, e0] at c2
        simp only [Nat.pow_zero, Nat.one_mul, Nat.zero_mul, Nat.mul_zero, Nat.zero_add] at c2
        obtain ⟨m2, k2, n1, n2, e2, l1, l2⟩ := norm24 ry hy0 hy
        obtain ⟨m3, k3, o1, o2, e3, p1, p2⟩ := norm24 rx (by omega) hx
        rw [e2, e3] at hq
        have h1 := Nat.mul_le_mul_right (m2 * 2 ^ k2) c2
        rw [Nat.mul_assoc, hq, ← Nat.mul_assoc, Nat.mul_comm D] at h1
        have h2 := Nat.le_of_mul_le_mul_right h1 hD
        rw [V, Nat.mul_assoc m3, ← Nat.pow_add] at h2
        have h3 : m2 * 2 ^ k2 < 16777216 * 2 ^ (k3 + c1074) := pow_scale_lt n2 (by unfold c1074; omega)
        have h4 : 8388608 * 2 ^ (k3 + c1074) ≤ m3 * 2 ^ (k3 + c1074) := Nat.mul_le_mul_right _ o1
        omega
    · obtain ⟨m, k, m1, m2, e1, k1, k2⟩ := norm24 s (by omega) hs
      have := quot_short hx hy0 hy hD hn hq m1 m2 k1 (by rw [← he, e1])
      rw [he]; exact this
  have lo : (val single.binade s * U) * (val single.binade ry * U) ≤ (val single.binade rx * U) * V → val single.binade s * U ≤ val double.binade r := by
    intro h
    rw [← ht]
    apply val_mono double.binade hB
    apply near_lo hB hD hn
    apply Nat.le_of_mul_le_mul_right _ hY
    rw [hq, ht, Nat.mul_right_comm]
    exact Nat.mul_le_mul_right D h
  have hi : (val single.binade rx * U) * V ≤ (val single.binade s * U) * (val single.binade ry * U) → val double.binade r ≤ val single.binade s * U := by
    intro h
    rw [← ht]
    apply val_mono double.binade hB
    apply near_hi hB hD hn
    apply Nat.le_of_mul_le_mul_right _ hY
    rw [hq, ht, Nat.mul_right_comm _ D]
    exact Nat.mul_le_mul_right D h
  have tr1 : (val single.binade s * U) * (val single.binade ry * U) ≤ (val single.binade rx * U) * V ↔ val single.binade s * val single.binade ry ≤ val single.binade rx * W := by
    rw [eSY, eXV]; exact Nat.mul_le_mul_right_iff hUU
  have tr2 : (val single.binade rx * U) * V ≤ (val single.binade s * U) * (val single.binade ry * U) ↔ val single.binade rx * W ≤ val single.binade s * val single.binade ry := by
    rw [eSY, eXV]; exact Nat.mul_le_mul_right_iff hUU
  rw [← tr1, ← tr2]
  generalize (val single.binade s * U) * (val single.binade ry * U) = P at *
  generalize (val single.binade rx * U) * V = Q at *
  refine ⟨⟨fun h => ?_, lo⟩, ⟨fun h => ?_, hi⟩⟩
  · apply Nat.le_of_not_lt
    intro hc
    have := key (by have := hi (by omega); omega)
    omega
  · apply Nat.le_of_not_lt
    intro hc
    have := key (by have := lo (by omega); omega)
    omega
end Hedge
namespace Hedge
open Ieee
set_option linter.unusedSimpArgs false
set_option linter.unusedVariables false

theorem rootFrom_spec (n : Nat) : ∀ (todo root : Nat), root * root ≤ n → n < (root + 2 ^ todo) * (root + 2 ^ todo) →
    Datum.rootFrom n todo root * Datum.rootFrom n todo root ≤ n ∧ n < (Datum.rootFrom n todo root + 1) * (Datum.rootFrom n todo root + 1)
  | 0, root, h1, h2 => by simpa [Datum.rootFrom] using ⟨h1, h2⟩
  | todo + 1, root, h1, h2 => by
    unfold Datum.rootFrom
    simp only [Nat.shiftLeft_eq, Nat.one_mul]
    have e : 2 ^ (todo + 1) = 2 ^ todo + 2 ^ todo := by rw [Nat.pow_succ]; omega
    by_cases hc : (root + 2 ^ todo) * (root + 2 ^ todo) ≤ n
    · rw [if_pos hc]
      exact rootFrom_spec n todo _ hc (by rw [Nat.add_assoc, ← e]; exact h2)
    · rw [if_neg hc]
      exact rootFrom_spec n todo _ h1 (by omega)

theorem root_whole (n : Nat) : Datum.rootFrom n (n.log2 / 2 + 1) 0 * Datum.rootFrom n (n.log2 / 2 + 1) 0 ≤ n ∧
    n < (Datum.rootFrom n (n.log2 / 2 + 1) 0 + 1) * (Datum.rootFrom n (n.log2 / 2 + 1) 0 + 1) := by
  apply rootFrom_spec
  · simp
  · rw [Nat.zero_add, ← Nat.pow_add]
    exact Nat.lt_of_lt_of_le Nat.lt_log2_self (Nat.pow_le_pow_right (by omega) (by omega))

/-- The float64 root of a float64 above 0: by the whole root of a whole number. -/
theorem sqrt_spec (x : Nat) (hx : x % double.signWeight < double.infRung) (hx0 : 0 < x % double.signWeight) (hp : (x / double.signWeight % 2 == 1) = false) :
    ∃ r Q n a b, double.sqrt x = some (double.word false (min r double.infRung)) ∧ NearN double.binade ((2 * Q + (Q * Q != n).toNat) * 2 ^ a) (2 ^ b) r ∧
      2 * double.binade ≤ Q ∧ Q * Q ≤ n ∧ n < (Q + 1) * (Q + 1) ∧ n * (2 ^ (a + 1) * 2 ^ (a + 1)) = val double.binade (x % double.signWeight) * V * (2 ^ b * 2 ^ b) := by
  have hB : 0 < double.binade := Nat.two_pow_pos _
  unfold Format.sqrt
  rw [read_fin double x hx, hp]
  obtain ⟨k1, k2, k3⟩ := split_rung double.binade (x % double.signWeight) hB
  generalize x % double.signWeight = rx at *
  have hvx : val double.binade rx = sig double.binade rx * 2 ^ ex double.binade rx := rfl
  generalize sig double.binade rx = m at *
  generalize ex double.binade rx = e at *
  have hm0 : m ≠ 0 := by
    intro h; subst h
    rcases k3 with k3 | k3
    · subst k3; omega
    · omega
  simp only [Datum.root]
  rw [if_neg hm0, if_neg (by simp)]
  simp only [Option.map_some, Format.write]
  have hdig : double.fractionBits + 2 = 54 := rfl
  rw [hdig]
  have hml1 : m < 2 ^ (m.log2 + 1) := Nat.lt_log2_self
  have hml0 : 2 ^ m.log2 ≤ m := Nat.log2_self_le hm0
  have hml : m.log2 ≤ 52 := by
    have : 2 ^ m.log2 < 2 ^ 53 := by rw [bi64] at k2; omega
    have := (Nat.pow_lt_pow_iff_right (a := 2) (by omega)).1 this
    omega
  generalize m.log2 = lm at *
  generalize hm1 : 2 * 54 - lm = more0 at *
  generalize hm2 : more0 + ((double.leastPlace + (e : Int) - (more0 : Int)) % 2).toNat = more at *
  rw [Nat.shiftLeft_eq]
  obtain ⟨q1, q2⟩ := root_whole (m * 2 ^ more)
  generalize Datum.rootFrom (m * 2 ^ more) ((m * 2 ^ more).log2 / 2 + 1) 0 = Q at *
  have heven : (double.leastPlace + (e : Int) - (more : Int)) % 2 = 0 := by omega
  have hmore : 108 ≤ lm + more := by omega
  have hQB : 2 * double.binade ≤ Q := by
    apply Nat.le_of_not_lt
    intro hc
    have h1 : (Q + 1) * (Q + 1) ≤ (2 * double.binade) * (2 * double.binade) := Nat.mul_le_mul (by omega) (by omega)
    have h2 : 2 ^ lm * 2 ^ more ≤ m * 2 ^ more := Nat.mul_le_mul_right _ hml0
    rw [← Nat.pow_add] at h2
    have h3 : 2 ^ 108 ≤ 2 ^ (lm + more) := Nat.pow_le_pow_right (by omega) hmore
    rw [bi64] at h1
    omega
  have hmag : 2 * Q + (Q * Q != m * 2 ^ more).toNat ≠ 0 := by rw [bi64] at hQB; omega
  obtain ⟨r, hr, hn⟩ := nearest_spec double false _ ((double.leastPlace + (e : Int) - (more : Int)) / 2 - 1) hmag
  refine ⟨r, Q, m * 2 ^ more, _, _, by rw [hr], hn, hQB, q1, q2, ?_⟩
  rw [hvx]
  have hab : more + (((double.leastPlace + (e : Int) - (more : Int)) / 2 - 1 - double.leastPlace).toNat + 1) + (((double.leastPlace + (e : Int) - (more : Int)) / 2 - 1 - double.leastPlace).toNat + 1) =
      e + c1074 + (double.leastPlace - ((double.leastPlace + (e : Int) - (more : Int)) / 2 - 1)).toNat + (double.leastPlace - ((double.leastPlace + (e : Int) - (more : Int)) / 2 - 1)).toNat := by
    rw [lp64] at heven ⊢; unfold c1074; omega
  generalize ((double.leastPlace + (e : Int) - (more : Int)) / 2 - 1 - double.leastPlace).toNat + 1 = a at *
  generalize (double.leastPlace - ((double.leastPlace + (e : Int) - (more : Int)) / 2 - 1)).toNat = b at *
  unfold V
  generalize c1074 = c at *
  have e1 : m * 2 ^ more * (2 ^ a * 2 ^ a) = m * 2 ^ (more + a + a) := by
    rw [Nat.pow_add, Nat.pow_add]; simp only [Nat.mul_assoc]
  have e2 : m * 2 ^ e * 2 ^ c * (2 ^ b * 2 ^ b) = m * 2 ^ (e + c + b + b) := by
    rw [Nat.pow_add, Nat.pow_add, Nat.pow_add]; simp only [Nat.mul_assoc]
  rw [e1, e2, hab]

theorem sq_le {a b : Nat} (h : a * a ≤ b * b) : a ≤ b := by
  apply Nat.le_of_not_lt
  intro hc
  have := Nat.mul_lt_mul_of_lt_of_le hc (Nat.le_of_lt hc) (by omega)
  omega
theorem sq_lt {a b : Nat} (h : a * a < b * b) : a < b := by
  apply Nat.lt_of_not_le
  intro hc
  have := Nat.mul_le_mul hc hc
  omega

theorem root_near {Q n a b S X N0 G m1 kk m3 k3 : Nat} (q1 : Q * Q ≤ n) (q2 : n < (Q + 1) * (Q + 1))
    (hq : n * (2 ^ (a + 1) * 2 ^ (a + 1)) = X * (2 ^ b * 2 ^ b)) (b1 : Q * 2 ^ (a + 1) ≤ N0) (b2 : N0 ≤ Q * 2 ^ (a + 1) + 2 ^ a) (hGD : 4 * 2 ^ a ≤ G * 2 ^ b)
    (c1 : 2 * (S * 2 ^ b) ≤ 2 * N0 + G * 2 ^ b) (c2 : 2 * N0 ≤ 2 * (S * 2 ^ b) + G * 2 ^ b) (hgs : G * 2 ^ 28 ≤ 2 ^ kk)
    (s1 : 8388608 ≤ m1) (s2 : m1 < 16777216) (s3 : S = m1 * 2 ^ kk) (o1 : 8388608 ≤ m3) (o2 : m3 < 16777216) (hX : X = m3 * 2 ^ (k3 + c1074)) (hD : 0 < 2 ^ b) : S * S = X := by
  have eA : 2 ^ (a + 1) = 2 * 2 ^ a := by rw [Nat.pow_succ, Nat.mul_comm]
  have sqmul : ∀ c d : Nat, (c * d) * (c * d) = (c * c) * (d * d) := fun c d => Nat.mul_mul_mul_comm _ _ _ _
  have hDD : 0 < 2 ^ b * 2 ^ b := Nat.mul_pos hD hD
  have hQ1 : (Q + 1) * 2 ^ (a + 1) = Q * 2 ^ (a + 1) + 2 ^ (a + 1) := by rw [Nat.add_mul, Nat.one_mul]
  have hup : (Q + 1) * 2 ^ (a + 1) ≤ (S + G) * 2 ^ b := by rw [hQ1, Nat.add_mul]; omega
  have hlo : (S - G) * 2 ^ b ≤ Q * 2 ^ (a + 1) := by rw [Nat.sub_mul]; omega
  have u1 : X < (S + G) * (S + G) := by
    apply Nat.lt_of_mul_lt_mul_right (a := 2 ^ b * 2 ^ b)
    rw [← hq, ← sqmul]
    refine Nat.lt_of_lt_of_le ?_ (Nat.mul_le_mul hup hup)
    rw [sqmul]
    exact Nat.mul_lt_mul_of_pos_right q2 (Nat.mul_pos (Nat.two_pow_pos _) (Nat.two_pow_pos _))
  have u2 : (S - G) * (S - G) ≤ X := by
    apply Nat.le_of_mul_le_mul_right _ hDD
    rw [← hq, ← sqmul]
    refine Nat.le_trans (Nat.mul_le_mul hlo hlo) ?_
    rw [sqmul]
    exact Nat.mul_le_mul_right _ q1
  have hK : 0 < 2 ^ kk := Nat.two_pow_pos _
  have hKK : 2 ^ (kk + kk) = 2 ^ kk * 2 ^ kk := Nat.pow_add ..
  have hSK : S ≤ 16777216 * 2 ^ kk := by rw [s3]; exact Nat.mul_le_mul_right _ (by omega)
  have hsm : (2 * S + G) * G < 2 ^ kk * 2 ^ kk := by
    apply Nat.lt_of_mul_lt_mul_right (a := 2 ^ 28)
    rw [Nat.mul_assoc]
    have h1 : (2 * S + G) * (G * 2 ^ 28) ≤ (33554433 * 2 ^ kk) * 2 ^ kk := Nat.mul_le_mul (by omega) hgs
    have h2 : (33554433 * 2 ^ kk) * 2 ^ kk = 33554433 * (2 ^ kk * 2 ^ kk) := Nat.mul_assoc ..
    have h3 : 0 < 2 ^ kk * 2 ^ kk := Nat.mul_pos hK hK
    omega
  have hGS : G ≤ S := by
    rw [s3]
    have : 8388608 * 2 ^ kk ≤ m1 * 2 ^ kk := Nat.mul_le_mul_right _ s1
    omega
  have ex1 : (S + G) * (S + G) = S * S + (2 * S + G) * G := by
    rw [Nat.add_mul, Nat.mul_add, Nat.mul_add, Nat.add_mul, Nat.mul_assoc, Nat.mul_comm G S]; omega
  have ex2 : S * S ≤ (S - G) * (S - G) + (2 * S + G) * G := by
    obtain ⟨T, rfl⟩ : ∃ T, S = T + G := ⟨S - G, by omega⟩
    rw [Nat.add_sub_cancel, Nat.add_mul, Nat.mul_add, Nat.mul_add, Nat.add_mul, Nat.mul_assoc, Nat.add_mul, Nat.mul_comm G T]; omega
  have hSS : S * S = (m1 * m1) * 2 ^ (kk + kk) := by rw [s3, sqmul, hKK]
  have hmm : 8388608 * 8388608 ≤ m1 * m1 := Nat.mul_le_mul s1 s1
  have hbig : 70368744177664 * 2 ^ (kk + kk) ≤ S * S := by rw [hSS]; exact Nat.mul_le_mul_right _ (by omega)
  rw [← hKK] at hsm
  have hkk : kk + kk ≤ k3 + c1074 := by
    apply Nat.le_of_not_lt
    intro hc
    have h1 : 2 ^ (k3 + c1074) ≤ 2 ^ (kk + kk) := Nat.pow_le_pow_right (by omega) (by omega)
    have h2 : X ≤ 16777216 * 2 ^ (kk + kk) := by rw [hX]; exact Nat.mul_le_mul (by omega) h1
    have := Nat.two_pow_pos (kk + kk)
    omega
  have hdX : 2 ^ (kk + kk) ∣ X := by rw [hX]; exact Nat.dvd_trans (Nat.pow_dvd_pow 2 hkk) (Nat.dvd_mul_left _ _)
  have hdS : 2 ^ (kk + kk) ∣ S * S := by rw [hSS]; exact Nat.dvd_mul_left _ _
  exact eq_of_near hdS hdX (by omega) (by omega)

theorem root_cmp {rx r Q n a b s : Nat} (hx : rx < single.infRung) (hx0 : 0 < rx) (hs : s < single.infRung)
    (hn : NearN double.binade ((2 * Q + (Q * Q != n).toNat) * 2 ^ a) (2 ^ b) r) (hQB : 2 * double.binade ≤ Q) (q1 : Q * Q ≤ n) (q2 : n < (Q + 1) * (Q + 1))
    (hq : n * (2 ^ (a + 1) * 2 ^ (a + 1)) = (val single.binade rx * U) * V * (2 ^ b * 2 ^ b)) :
    (val single.binade s * U ≤ val double.binade r ↔ val single.binade s * val single.binade s ≤ val single.binade rx * W) ∧
    (val double.binade r ≤ val single.binade s * U ↔ val single.binade rx * W ≤ val single.binade s * val single.binade s) := by
  have hB : 0 < double.binade := Nat.two_pow_pos _
  have hSi : 0 < single.binade := Nat.two_pow_pos _
  have hUU : 0 < U * U := Nat.mul_pos U_pos U_pos
  have eSS : (val single.binade s * U) * (val single.binade s * U) = (val single.binade s * val single.binade s) * (U * U) := Nat.mul_mul_mul_comm _ _ _ _
  have eXV : (val single.binade rx * U) * V = (val single.binade rx * W) * (U * U) := by
    rw [V_eq, Nat.mul_comm U W, Nat.mul_mul_mul_comm]
  have tr1 : (val single.binade s * U) * (val single.binade s * U) ≤ (val single.binade rx * U) * V ↔ val single.binade s * val single.binade s ≤ val single.binade rx * W := by
    rw [eSS, eXV]; exact Nat.mul_le_mul_right_iff hUU
  have tr2 : (val single.binade rx * U) * V ≤ (val single.binade s * U) * (val single.binade s * U) ↔ val single.binade rx * W ≤ val single.binade s * val single.binade s := by
    rw [eSS, eXV]; exact Nat.mul_le_mul_right_iff hUU
  rw [← tr1, ← tr2]
  clear tr1 tr2 eSS eXV
  obtain ⟨t, htI, ht⟩ := up_rung s hs
  obtain ⟨m3, k3, o1, o2, e3, p1, p2⟩ := norm24 rx hx0 hx
  have hXk : (val single.binade rx * U) * V = m3 * 2 ^ (k3 + c1074) := by rw [e3, V, Nat.pow_add, Nat.mul_assoc]
  have hnorm : s ≠ 0 → ∃ m1 k1, 8388608 ≤ m1 ∧ m1 < 16777216 ∧ val single.binade s * U = m1 * 2 ^ k1 ∧ 900 ≤ k1 := fun h => by
    obtain ⟨m, k, a1, a2, a3, a4, a5⟩ := norm24 s (by omega) hs
    exact ⟨m, k, a1, a2, a3, a4⟩
  have hs0 : s = 0 → val single.binade s * U = 0 := fun h => by rw [h, val_zero]; simp
  generalize (val single.binade rx * U) * V = X at *
  generalize val single.binade s * U = S at *
  have hD : 0 < 2 ^ b := Nat.two_pow_pos b
  have hA : 0 < 2 ^ a := Nat.two_pow_pos a
  have eA : 2 ^ (a + 1) = 2 * 2 ^ a := by rw [Nat.pow_succ, Nat.mul_comm]
  have hσ : (Q * Q != n).toNat = if Q * Q = n then 0 else 1 := by by_cases hh : Q * Q = n <;> simp [hh]
  have hn' := hn
  obtain ⟨r0, h1, h2, h3⟩ := hn'
  have hvs := val_succ double.binade r0 hB
  have hv0 : val double.binade r0 = sig double.binade r0 * 2 ^ ex double.binade r0 := rfl
  obtain ⟨k1, k2, k3'⟩ := split_rung double.binade r0 hB
  have hrr : r = r0 ∨ r = r0 + 1 := by rcases h3 with ⟨h, _⟩ | ⟨h, _⟩ <;> omega
  -- the gap is four times the unit at least
  have hg : a + 2 ≤ ex double.binade r0 + b := by
    apply Nat.lt_of_not_le
    intro hc
    have hp : 2 ^ (ex double.binade r0 + b) ≤ 2 ^ (a + 1) := Nat.pow_le_pow_right (by omega) (by omega)
    have e1 : val double.binade (r0 + 1) * 2 ^ b = (sig double.binade r0 + 1) * 2 ^ (ex double.binade r0 + b) := by
      rw [hvs, hv0, ← Nat.succ_mul, Nat.mul_assoc, ← Nat.pow_add]
    rw [e1] at h2
    have h4 : (sig double.binade r0 + 1) * 2 ^ (ex double.binade r0 + b) ≤ (2 * double.binade) * 2 ^ (a + 1) := Nat.mul_le_mul (by omega) hp
    have h5 : (2 * (2 * double.binade)) * 2 ^ a ≤ (2 * Q + (Q * Q != n).toNat) * 2 ^ a := Nat.mul_le_mul_right _ (by omega)
    have h6 : (2 * double.binade) * 2 ^ (a + 1) = (2 * (2 * double.binade)) * 2 ^ a := by
      rw [eA, ← Nat.mul_assoc, Nat.mul_comm (2 * double.binade) 2]
    omega
  rw [hσ] at h1 h2 h3 hn
  have hwhole : ∀ q, r0 ≤ q → ∃ c, val double.binade q * 2 ^ b = c * 2 ^ (a + 1) := by
    intro q hq
    have he : ex double.binade r0 ≤ ex double.binade q := by
      unfold ex; exact Nat.sub_le_sub_right (Nat.div_le_div_right hq) 1
    refine ⟨sig double.binade q * 2 ^ (ex double.binade q + b - (a + 1)), ?_⟩
    unfold val
    rw [Nat.mul_assoc, ← Nat.pow_add, Nat.mul_assoc, ← Nat.pow_add, Nat.sub_add_cancel (by omega)]
  have sqmul : ∀ c d : Nat, (c * d) * (c * d) = (c * c) * (d * d) := fun c d => Nat.mul_mul_mul_comm _ _ _ _
  have hP1 : 0 < 2 ^ (a + 1) * 2 ^ (a + 1) := Nat.mul_pos (Nat.two_pow_pos _) (Nat.two_pow_pos _)
  have hDD : 0 < 2 ^ b * 2 ^ b := Nat.mul_pos hD hD
  have lo : S * S ≤ X → S ≤ val double.binade r := by
    intro h
    rw [← ht]
    apply val_mono double.binade hB
    apply Nat.le_of_not_lt
    intro hc
    obtain ⟨c, hcc⟩ := hwhole t (by omega)
    rw [ht] at hcc
    have h4 : (S * 2 ^ b) * (S * 2 ^ b) ≤ n * (2 ^ (a + 1) * 2 ^ (a + 1)) := by
      rw [hq, sqmul]; exact Nat.mul_le_mul_right _ h
    rw [hcc, sqmul] at h4
    have h5 := Nat.le_of_mul_le_mul_right h4 hP1
    have h6 : c ≤ Q := by
      have : c * c < (Q + 1) * (Q + 1) := by omega
      have := sq_lt this; omega
    have h7 : t ≤ r := by
      apply near_lo hB hD hn
      rw [ht, hcc, eA, ← Nat.mul_assoc]
      exact Nat.mul_le_mul_right _ (by omega)
    omega
  have hi : X ≤ S * S → val double.binade r ≤ S := by
    intro h
    rw [← ht]
    apply val_mono double.binade hB
    apply Nat.le_of_not_lt
    intro hc
    obtain ⟨c, hcc⟩ := hwhole r0 (Nat.le_refl _)
    have hm := val_mono double.binade hB (show t ≤ r0 by omega)
    rw [ht] at hm
    rw [hcc, eA, ← Nat.mul_assoc] at h1
    have h4 := Nat.le_of_mul_le_mul_right h1 hA
    have h5 : c ≤ Q := by split at h4 <;> omega
    have h6 : n * (2 ^ (a + 1) * 2 ^ (a + 1)) ≤ (S * 2 ^ b) * (S * 2 ^ b) := by
      rw [hq, sqmul]; exact Nat.mul_le_mul_right _ h
    have hSb : S * 2 ^ b ≤ c * 2 ^ (a + 1) := by rw [← hcc]; exact Nat.mul_le_mul_right _ hm
    have h7 : n * (2 ^ (a + 1) * 2 ^ (a + 1)) ≤ (c * c) * (2 ^ (a + 1) * 2 ^ (a + 1)) := by
      rw [← sqmul]; exact Nat.le_trans h6 (Nat.mul_le_mul hSb hSb)
    have h8 := Nat.le_of_mul_le_mul_right h7 hP1
    have h9 : c * c ≤ Q * Q := Nat.mul_le_mul h5 h5
    have h10 : c = Q := by have := sq_le (show Q * Q ≤ c * c by omega); omega
    subst h10
    have h11 : c * c = n := by omega
    rw [if_pos h11] at hn
    have h12 : r = r0 := near_exact hB hD hn (by rw [hcc, eA, ← Nat.mul_assoc, Nat.mul_comm c 2, Nat.add_zero])
    have h13 : c * 2 ^ (a + 1) ≤ S * 2 ^ b := by
      apply sq_le; rw [sqmul, h11]; exact h6
    have h14 : val double.binade r0 ≤ S := by
      apply Nat.le_of_mul_le_mul_right _ hD; rw [hcc]; exact h13
    rw [← ht] at h14
    have := (val_le_iff double.binade hB).1 h14
    omega
  have key : S = val double.binade r → S * S = X := by
    intro he
    by_cases h0 : s = 0
    · exfalso
      have hS0 := hs0 h0
      have hr0' : r = 0 := val_inj double.binade hB (by rw [val_zero, ← he]; exact hS0)
      have h4 : ¬ (val double.binade 1 * 2 ^ b ≤ (2 * Q + if Q * Q = n then 0 else 1) * 2 ^ a) := by
        intro hc
        have := near_lo hB hD hn hc
        omega
      have v1 : val double.binade 1 = 1 := by
        have := val_shift double.binade 0 1 hB (Or.inl rfl) (by rw [bi64]; omega)
        simpa using this
      rw [v1, Nat.one_mul] at h4
      have h5 : Q * 2 ^ (a + 1) < 2 ^ b := by
        have : 2 * Q * 2 ^ a ≤ (2 * Q + if Q * Q = n then 0 else 1) * 2 ^ a := Nat.mul_le_mul_right _ (by omega)
        rw [eA, ← Nat.mul_assoc, Nat.mul_comm Q 2]; omega
      have h6 : n ≤ (2 * Q) * (2 * Q) := Nat.le_trans (Nat.le_of_lt q2) (Nat.mul_le_mul (by rw [bi64] at hQB; omega) (by rw [bi64] at hQB; omega))
      have h7 : n * (2 ^ (a + 1) * 2 ^ (a + 1)) ≤ 4 * (2 ^ b * 2 ^ b) := by
        have h8 : (Q * 2 ^ (a + 1)) * (Q * 2 ^ (a + 1)) ≤ 2 ^ b * 2 ^ b := Nat.mul_le_mul (Nat.le_of_lt h5) (Nat.le_of_lt h5)
        rw [sqmul] at h8
        have h9 : n * (2 ^ (a + 1) * 2 ^ (a + 1)) ≤ (2 * Q) * (2 * Q) * (2 ^ (a + 1) * 2 ^ (a + 1)) := Nat.mul_le_mul_right _ h6
        have e4 : (2 * Q) * (2 * Q) * (2 ^ (a + 1) * 2 ^ (a + 1)) = 4 * (Q * Q * (2 ^ (a + 1) * 2 ^ (a + 1))) := by
          rw [Nat.mul_mul_mul_comm 2 Q, Nat.mul_assoc]
        omega
      rw [hq] at h7
      have h10 := Nat.le_of_mul_le_mul_right h7 hDD
      rw [hXk] at h10
      have h11 : 8388608 * 1 ≤ m3 * 2 ^ (k3 + c1074) := Nat.mul_le_mul o1 (Nat.two_pow_pos _)
      omega
    · obtain ⟨m1, kk, s1, s2, s3, s4⟩ := hnorm h0
      have hgs := gap_small (show r0 ≤ r by omega) (by rw [← he]; exact s3) s2 (by omega)
      have hGD : 4 * 2 ^ a ≤ 2 ^ ex double.binade r0 * 2 ^ b := by
        rw [← Nat.pow_add]
        have : 2 ^ (a + 2) ≤ 2 ^ (ex double.binade r0 + b) := Nat.pow_le_pow_right (by omega) hg
        rw [Nat.pow_add] at this; omega
      have c12 : 2 * (S * 2 ^ b) ≤ 2 * ((2 * Q + if Q * Q = n then 0 else 1) * 2 ^ a) + 2 ^ ex double.binade r0 * 2 ^ b ∧
          2 * ((2 * Q + if Q * Q = n then 0 else 1) * 2 ^ a) ≤ 2 * (S * 2 ^ b) + 2 ^ ex double.binade r0 * 2 ^ b := by
        rw [hvs] at h2 h3
        have e4 : (val double.binade r0 + (val double.binade r0 + 2 ^ ex double.binade r0)) * 2 ^ b = 2 * (val double.binade r0 * 2 ^ b) + 2 ^ ex double.binade r0 * 2 ^ b := by
          rw [Nat.add_mul, Nat.add_mul]; omega
        rw [e4] at h3
        have e5 : (val double.binade r0 + 2 ^ ex double.binade r0) * 2 ^ b = val double.binade r0 * 2 ^ b + 2 ^ ex double.binade r0 * 2 ^ b := Nat.add_mul ..
        rw [e5] at h2
        rcases h3 with ⟨h3, h5⟩ | ⟨h3, h5⟩
        · rw [he, h3]; exact ⟨by omega, by omega⟩
        · rw [he, h3, hvs, Nat.add_mul]; exact ⟨by omega, by omega⟩
      obtain ⟨c1, c2⟩ := c12
      clear h1 h2 h3 hn
      exact root_near q1 q2 hq (by rw [eA, Nat.mul_left_comm, ← Nat.mul_assoc]; exact Nat.le_trans (Nat.le_of_eq (by rw [Nat.mul_comm])) (Nat.mul_le_mul_right _ (Nat.le_add_right _ _))) (by
        rw [Nat.add_mul] ; rw [eA, Nat.mul_left_comm, ← Nat.mul_assoc]; apply Nat.add_le_add_left; split <;> omega) hGD c1 c2 hgs s1 s2 s3 o1 o2 hXk hD
  refine ⟨⟨fun h => ?_, lo⟩, ⟨fun h => ?_, hi⟩⟩
  · apply Nat.le_of_not_lt
    intro hc
    have := key (by have := hi (by omega); omega)
    omega
  · apply Nat.le_of_not_lt
    intro hc
    have := key (by have := lo (by omega); omega)
    omega
end Hedge
