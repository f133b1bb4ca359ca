import Derived.Test.YtakpfdhopodleaaFloatA
import Derived.Laws.FloatBits
namespace Hedge
open Ieee
set_option linter.unusedSimpArgs false
set_option linter.unusedVariables false

def sgn (neg : Bool) (n : Nat) : Int := if neg then -(n : Int) else (n : Int)
def idx (f : Format) (w : Nat) : Int := sgn (w / f.signWeight % 2 == 1) (w % f.signWeight)
def sval (B : Nat) (i : Int) : Int := if i < 0 then -(val B i.natAbs : Int) else (val B i.natAbs : Int)

theorem sval_sgn (B : Nat) (neg : Bool) (r : Nat) : sval B (sgn neg r) = sgn neg (val B r) := by
  cases neg
  · simp only [sgn, sval]; simp
    intro h; omega
  · simp only [sgn, sval, if_true]
    by_cases h : r = 0
    · subst h; simp [val_zero]
    · have e : (-(r : Int)).natAbs = r := by omega
      rw [if_pos (by omega), e]

theorem sval_zero (B : Nat) : sval B 0 = 0 := by simp [sval, val_zero]
theorem sval_neg (B : Nat) (i : Int) : sval B (-i) = -sval B i := by
  unfold sval
  by_cases h0 : i = 0
  · subst h0; simp [val_zero]
  · by_cases h : i < 0
    · rw [if_neg (by omega), if_pos h, Int.natAbs_neg]; omega
    · rw [if_pos (by omega), if_neg h, Int.natAbs_neg]
theorem sval_nat (B r : Nat) : sval B (r : Int) = (val B r : Int) := by
  unfold sval; rw [if_neg (by omega)]; rfl

theorem sval_lt (B : Nat) (hB : 0 < B) {i j : Int} (h : i < j) : sval B i < sval B j := by
  unfold sval
  by_cases hi : i < 0
  · rw [if_pos hi]
    have h0 : 0 < val B i.natAbs := by have := val_lt B hB (r := 0) (s := i.natAbs) (by omega); rw [val_zero] at this; exact this
    by_cases hj : j < 0
    · rw [if_pos hj]
      have := val_lt B hB (r := j.natAbs) (s := i.natAbs) (by omega)
      omega
    · rw [if_neg hj]; omega
  · rw [if_neg hi, if_neg (by omega)]
    have := val_lt B hB (r := i.natAbs) (s := j.natAbs) (by omega)
    omega
theorem sval_lt_iff (B : Nat) (hB : 0 < B) {i j : Int} : sval B i < sval B j ↔ i < j := by
  refine ⟨fun h => ?_, sval_lt B hB⟩
  rcases Int.lt_trichotomy i j with h1 | h1 | h1
  · exact h1
  · subst h1; omega
  · have := sval_lt B hB h1; omega
theorem sval_le_iff (B : Nat) (hB : 0 < B) {i j : Int} : sval B i ≤ sval B j ↔ i ≤ j := by
  have := @sval_lt_iff B hB j i; omega
theorem sval_inj (B : Nat) (hB : 0 < B) {i j : Int} (h : sval B i = sval B j) : i = j := by
  have h1 := (@sval_le_iff B hB i j).1 (by omega)
  have h2 := (@sval_le_iff B hB j i).1 (by omega)
  omega

theorem cmp_congr {a b c d : Int} (h1 : a < b ↔ c < d) (h2 : a = b ↔ c = d) : compare a b = compare c d := by
  simp only [compare, compareOfLessAndEq, h1, h2]

theorem sgn_natAbs (neg : Bool) (n : Nat) : (sgn neg n).natAbs = n := by cases neg <;> simp [sgn]
theorem sgn_mul (neg : Bool) (n k : Nat) : sgn neg (n * k) = sgn neg n * (k : Int) := by
  cases neg <;> simp [sgn, Int.neg_mul]
theorem signed_eq (neg : Bool) (m up : Nat) : signed neg m up = sgn neg (m * 2 ^ up) := by
  cases neg <;> simp [signed, sgn, Nat.shiftLeft_eq]

/-- A format as IEEE 754 has it. -/
structure Good (f : Format) : Prop where
  le : f.binade ≤ f.infRung

theorem good_single : Good single := ⟨by decide +kernel⟩
theorem good_double : Good double := ⟨by decide +kernel⟩

theorem read_fin (f : Format) (w : Nat) (h : w % f.signWeight < f.infRung) :
    f.read w = .number (w / f.signWeight % 2 == 1) (sig f.binade (w % f.signWeight)) (f.leastPlace + (ex f.binade (w % f.signWeight) : Nat)) := by
  have hB : 0 < f.binade := Nat.two_pow_pos _
  unfold Format.read
  dsimp only
  generalize w % f.signWeight = r at *
  by_cases h1 : r < f.binade
  · rw [if_pos h1]
    have e : ex f.binade r = 0 := by unfold ex; rw [Nat.div_eq_of_lt h1]
    simp [sig, e]
  · rw [if_neg h1, if_pos h]
    have h2 := Nat.div_add_mod r f.binade
    have h3 : 0 < r / f.binade := Nat.div_pos (by omega) hB
    have e : sig f.binade r = f.binade + r % f.binade := by
      unfold sig ex
      generalize r / f.binade = q at *
      obtain ⟨q', rfl⟩ : ∃ q', q = q' + 1 := ⟨q - 1, by omega⟩
      rw [Nat.mul_comm, Nat.add_mul] at h2
      simp only [Nat.add_sub_cancel]
      omega
    rw [e]; rfl

theorem read_inf (f : Format) (g : Good f) (w : Nat) (h : w % f.signWeight = f.infRung) : f.read w = .infinity (w / f.signWeight % 2 == 1) := by
  have := g.le
  unfold Format.read
  dsimp only
  rw [h, if_neg (by omega), if_neg (by omega), if_pos rfl]

theorem read_nan (f : Format) (g : Good f) (w : Nat) (h : f.infRung < w % f.signWeight) : f.read w = .nan (w / f.signWeight % 2 == 1) (w % f.signWeight - f.infRung) := by
  have := g.le
  unfold Format.read
  dsimp only
  rw [if_neg (by omega), if_neg (by omega), if_neg (by omega)]

theorem order_nan (f : Format) (g : Good f) (x y : Nat) (h : f.infRung < x % f.signWeight ∨ f.infRung < y % f.signWeight) : f.order x y = none := by
  unfold Format.order
  rcases h with h | h
  · rw [read_nan f g x h]; rfl
  · rw [read_nan f g y h]; cases f.read x <;> rfl

theorem order_spec (f : Format) (g : Good f) (x y : Nat) (hx : x % f.signWeight ≤ f.infRung) (hy : y % f.signWeight ≤ f.infRung) :
    f.order x y = some (compare (idx f x) (idx f y)) := by
  have hB : 0 < f.binade := Nat.two_pow_pos _
  have hI : 0 < f.infRung := by have := g.le; omega
  unfold Format.order idx
  by_cases h1 : x % f.signWeight < f.infRung
  · by_cases h2 : y % f.signWeight < f.infRung
    · rw [read_fin f x h1, read_fin f y h2]
      simp only [Datum.order, signed_eq]
      generalize x % f.signWeight = r at *
      generalize y % f.signWeight = s at *
      generalize (x / f.signWeight % 2 == 1) = p at *
      generalize (y / f.signWeight % 2 == 1) = q at *
      congr 1
      have hr : val f.binade r = sig f.binade r * 2 ^ ex f.binade r := rfl
      have hs : val f.binade s = sig f.binade s * 2 ^ ex f.binade s := rfl
      generalize sig f.binade r = m at *
      generalize sig f.binade s = n at *
      generalize ex f.binade r = i at *
      generalize ex f.binade s = j at *
      generalize f.leastPlace = lp
      have eb : min (lp + (i : Int)) (lp + (j : Int)) = lp + (min i j : Nat) := by omega
      rw [eb]
      have e1 : (lp + (i : Int) - (lp + (min i j : Nat))).toNat = i - min i j := by omega
      have e2 : (lp + (j : Int) - (lp + (min i j : Nat))).toNat = j - min i j := by omega
      rw [e1, e2]
      have hc : 0 < 2 ^ min i j := Nat.two_pow_pos _
      have f1 : sgn p (m * 2 ^ (i - min i j)) * ((2 ^ min i j : Nat) : Int) = sval f.binade (sgn p r) := by
        rw [← sgn_mul, sval_sgn, hr, Nat.mul_assoc, ← Nat.pow_add]; congr 3; omega
      have f2 : sgn q (n * 2 ^ (j - min i j)) * ((2 ^ min i j : Nat) : Int) = sval f.binade (sgn q s) := by
        rw [← sgn_mul, sval_sgn, hs, Nat.mul_assoc, ← Nat.pow_add]; congr 3; omega
      have hc' : (0 : Int) < ((2 ^ min i j : Nat) : Int) := by exact_mod_cast hc
      generalize ((2 ^ min i j : Nat) : Int) = c at *
      apply cmp_congr
      · rw [← sval_lt_iff f.binade hB (i := sgn p r), ← f1, ← f2]
        exact ⟨fun h => Int.mul_lt_mul_of_pos_right h hc', fun h => Int.lt_of_mul_lt_mul_right h (Int.le_of_lt hc')⟩
      · constructor
        · intro h; apply sval_inj f.binade hB; rw [← f1, ← f2, h]
        · intro h; rw [h] at f1; rw [← f2] at f1; exact Int.eq_of_mul_eq_mul_right (by omega) f1
    · have h2' : y % f.signWeight = f.infRung := by omega
      rw [read_fin f x h1, read_inf f g y h2']
      simp only [Datum.order]
      congr 1
      rw [h2']
      generalize x % f.signWeight = r at *
      generalize (x / f.signWeight % 2 == 1) = p at *
      cases (y / f.signWeight % 2 == 1)
      · rw [if_neg (by simp)]
        symm
        simp only [compare, compareOfLessAndEq]
        rw [if_pos]; cases p <;> simp [sgn] <;> omega
      · rw [if_pos rfl]
        symm
        simp only [compare, compareOfLessAndEq]
        rw [if_neg, if_neg] <;> cases p <;> simp [sgn] <;> omega
  · have h1' : x % f.signWeight = f.infRung := by omega
    by_cases h2 : y % f.signWeight < f.infRung
    · rw [read_fin f y h2, read_inf f g x h1']
      simp only [Datum.order]
      congr 1
      rw [h1']
      generalize y % f.signWeight = r at *
      generalize (y / f.signWeight % 2 == 1) = p at *
      cases (x / f.signWeight % 2 == 1)
      · rw [if_neg (by simp)]
        symm
        simp only [compare, compareOfLessAndEq]
        rw [if_neg, if_neg] <;> cases p <;> simp [sgn] <;> omega
      · rw [if_pos rfl]
        symm
        simp only [compare, compareOfLessAndEq]
        rw [if_pos]; cases p <;> simp [sgn] <;> omega
    · have h2' : y % f.signWeight = f.infRung := by omega
      rw [read_inf f g x h1', read_inf f g y h2']
      simp only [Datum.order]
      congr 1
      rw [h1', h2']
      cases (x / f.signWeight % 2 == 1) <;> cases (y / f.signWeight % 2 == 1)
      · simp [sgn, compare, compareOfLessAndEq]
      · symm; simp only [compare, compareOfLessAndEq]; rw [if_neg (by simp [sgn] <;> omega), if_neg (by simp [sgn] <;> omega)]; rfl
      · symm; simp only [compare, compareOfLessAndEq]; rw [if_pos (by simp [sgn] <;> omega)]; rfl
      · simp [sgn, compare, compareOfLessAndEq]

/-! Words and their indexes. -/
theorem idx_word (f : Format) (neg : Bool) (r : Nat) (h : r < f.signWeight) : idx f (f.word neg r) = sgn neg r ∧ f.word neg r % f.signWeight = r ∧ (f.word neg r / f.signWeight % 2 == 1) = neg := by
  have hp : 0 < f.signWeight := Nat.two_pow_pos _
  unfold idx Format.word
  cases neg
  · have e1 : r / f.signWeight = 0 := Nat.div_eq_of_lt h
    have e2 : r % f.signWeight = r := Nat.mod_eq_of_lt h
    simp [e1, e2, sgn]
  · have e1 : (f.signWeight + r) / f.signWeight = 1 := by rw [Nat.add_div_left _ hp, Nat.div_eq_of_lt h]
    have e2 : (f.signWeight + r) % f.signWeight = r := by rw [Nat.add_mod_left, Nat.mod_eq_of_lt h]
    simp [e1, e2, sgn]
end Hedge
