import Derived.Test.YtakpfdhopodleaaFloatB
namespace Hedge
open Ieee
set_option linter.unusedSimpArgs false
set_option linter.unusedVariables false

theorem near_lo {B N D r s : Nat} (hB : 0 < B) (hD : 0 < D) (h : NearN B N D r) (hs : val B s * D ≤ N) : s ≤ r := by
  obtain ⟨r0, h1, h2, h3⟩ := h
  have : val B s < val B (r0 + 1) := Nat.lt_of_mul_lt_mul_right (a := D) (by omega)
  have := (val_lt_iff B hB).1 this
  omega

theorem near_hi {B N D r s : Nat} (hB : 0 < B) (hD : 0 < D) (h : NearN B N D r) (hs : N ≤ val B s * D) : r ≤ s := by
  obtain ⟨r0, h1, h2, h3⟩ := h
  by_cases hc : r0 + 1 ≤ s
  · omega
  · have hm := val_mono B hB (show s ≤ r0 by omega)
    have hm' := Nat.mul_le_mul_right D hm
    have e : val B s * D = val B r0 * D := by omega
    have e2 : s = r0 := val_inj B hB (Nat.eq_of_mul_eq_mul_right hD e)
    subst e2
    have hlt : val B s * D < val B (s + 1) * D := Nat.mul_lt_mul_of_pos_right (val_lt_succ B s hB) hD
    rcases h3 with ⟨h3, _⟩ | ⟨h3, h4⟩
    · omega
    · rw [Nat.add_mul] at h4; omega

theorem near_exact {B N D r s : Nat} (hB : 0 < B) (hD : 0 < D) (h : NearN B N D r) (hs : val B s * D = N) : r = s := by
  have h1 := near_lo hB hD h (Nat.le_of_eq hs)
  have h2 := near_hi hB hD h (Nat.le_of_eq hs.symm)
  omega

theorem near_best {B N r : Nat} (hB : 0 < B) (h : NearN B N 1 r) (s : Nat) : ((val B r : Int) - N).natAbs ≤ ((val B s : Int) - N).natAbs := by
  obtain ⟨r0, h1, h2, h3⟩ := h
  simp only [Nat.mul_one] at h1 h2 h3
  by_cases hc : s ≤ r0
  · have := val_mono B hB hc
    rcases h3 with ⟨rfl, h4⟩ | ⟨rfl, h4⟩ <;> omega
  · have := val_mono B hB (show r0 + 1 ≤ s by omega)
    rcases h3 with ⟨rfl, h4⟩ | ⟨rfl, h4⟩ <;> omega

theorem val_dvd (B r k : Nat) (hB : 0 < B) (h : (k + 1) * B ≤ r) : 2 ^ k ∣ val B r := by
  have : k + 1 ≤ r / B := (Nat.le_div_iff_mul_le hB).2 h
  unfold val ex
  exact Nat.dvd_trans (Nat.pow_dvd_pow 2 (show k ≤ r / B - 1 by omega)) (Nat.dvd_mul_left _ _)

theorem near_dvd {B N r : Nat} (hB : 0 < B) (h : NearN B N 1 r) (k : Nat) (hk : 2 ^ k ∣ N) : 2 ^ k ∣ val B r := by
  obtain ⟨m, rfl⟩ := hk
  by_cases hm : m ≤ 2 * B
  · obtain ⟨s, hs⟩ := val_rep B hB k m hm
    have := near_exact hB (by omega) h (s := s) (by rw [hs, Nat.mul_one, Nat.mul_comm])
    rw [this, hs]; exact Nat.dvd_mul_left _ _
  · apply val_dvd B r k hB
    have h1 : val B (k * B + B) = B * 2 ^ k := val_shift B k B hB (Or.inr (Nat.le_refl _)) (by omega)
    have h2 : val B (k * B + B) * 1 ≤ 2 ^ k * m := by
      rw [h1, Nat.mul_one, Nat.mul_comm]; exact Nat.mul_le_mul_left _ (by omega)
    have := near_lo hB (by omega) h h2
    rw [Nat.add_mul, Nat.one_mul]; exact this

/-- The index 'k' is nearest to the whole number 'Z' (in units). -/
def RN (B : Nat) (Z k : Int) : Prop := ∃ r, NearN B Z.natAbs 1 r ∧ k = sgn (decide (Z < 0)) r

theorem sval_RN {B : Nat} {Z k : Int} (h : RN B Z k) : ∃ r, NearN B Z.natAbs 1 r ∧ sval B k = sgn (decide (Z < 0)) (val B r) := by
  obtain ⟨r, h1, rfl⟩ := h
  exact ⟨r, h1, sval_sgn B _ r⟩

theorem RN_best {B : Nat} {Z k : Int} (hB : 0 < B) (h : RN B Z k) (j : Int) : (sval B k - Z).natAbs ≤ (sval B j - Z).natAbs := by
  obtain ⟨r, h1, h2⟩ := sval_RN h
  rw [h2]
  have hn := near_best hB h1 j.natAbs
  have h0 := near_best hB h1 0
  rw [val_zero] at h0
  by_cases hz : Z < 0
  · simp only [hz, decide_true, sgn, if_true]
    by_cases hj : j < 0
    · simp only [sval, if_pos hj]; omega
    · simp only [sval, if_neg hj]; omega
  · simp only [hz, decide_false, sgn]
    by_cases hj : j < 0
    · simp only [sval, if_pos hj]; simp; omega
    · simp only [sval, if_neg hj]; simp; omega

theorem RN_dvd {B : Nat} {Z k : Int} (hB : 0 < B) (h : RN B Z k) (n : Nat) (hn : ((2 ^ n : Nat) : Int) ∣ Z) : ((2 ^ n : Nat) : Int) ∣ sval B k := by
  obtain ⟨r, h1, h2⟩ := sval_RN h
  have := near_dvd hB h1 n (Int.ofNat_dvd_left.1 hn)
  rw [h2]
  have h3 : ((2 ^ n : Nat) : Int) ∣ (val B r : Int) := Int.natCast_dvd_natCast.2 this
  unfold sgn
  split
  · exact (Int.dvd_neg).2 h3
  · exact h3

/-- A whole number of units 2 ^ n, not too many of them, is an index's value. -/
theorem rep_int {B : Nat} (hB : 0 < B) (n : Nat) (Z : Int) (h1 : ((2 ^ n : Nat) : Int) ∣ Z) (h2 : Z.natAbs ≤ 2 * B * 2 ^ n) : ∃ j, sval B j = Z := by
  have hd := Int.ofNat_dvd_left.1 h1
  obtain ⟨m, hm⟩ := hd
  have hp : 0 < 2 ^ n := Nat.two_pow_pos n
  have : m ≤ 2 * B := by
    apply Nat.le_of_mul_le_mul_right _ hp
    rw [Nat.mul_comm, ← hm]; exact h2
  obtain ⟨s, hs⟩ := val_rep B hB n m this
  refine ⟨sgn (decide (Z < 0)) s, ?_⟩
  rw [sval_sgn, hs, Nat.mul_comm, ← hm]
  by_cases hz : Z < 0 <;> simp [sgn, hz] <;> omega

theorem RN_exact {B : Nat} {Z k : Int} (hB : 0 < B) (h : RN B Z k) (n : Nat) (h1 : ((2 ^ n : Nat) : Int) ∣ Z) (h2 : Z.natAbs ≤ 2 * B * 2 ^ n) : sval B k = Z := by
  obtain ⟨j, hj⟩ := rep_int hB n Z h1 h2
  have := RN_best hB h j
  rw [hj] at this; omega

theorem two_sum {B : Nat} (hB : 2 ^ 25 ≤ B) {X Y s b a dx dy e : Int} (kx ky : Nat)
    (hx1 : ((2 ^ kx : Nat) : Int) ∣ X) (hx2 : X.natAbs ≤ 2 ^ 24 * 2 ^ kx) (hy1 : ((2 ^ ky : Nat) : Int) ∣ Y) (hy2 : Y.natAbs ≤ 2 ^ 24 * 2 ^ ky)
    (rs : RN B (X + Y) s) (rb : RN B (sval B s - X) b) (ra : RN B (sval B s - sval B b) a) (rx : RN B (X - sval B a) dx) (ry : RN B (Y - sval B b) dy) (re : RN B (sval B dx + sval B dy) e) :
    sval B e = X + Y - sval B s := by
  have hB0 : 0 < B := by omega
  obtain ⟨jx, ejx⟩ := rep_int hB0 kx X hx1 (Nat.le_trans hx2 (Nat.mul_le_mul_right _ (by omega)))
  obtain ⟨jy, ejy⟩ := rep_int hB0 ky Y hy1 (Nat.le_trans hy2 (Nat.mul_le_mul_right _ (by omega)))
  have bx := RN_best hB0 rs jx
  have bY := RN_best hB0 rs jy
  rw [ejx] at bx; rw [ejy] at bY
  have ex : ∀ (n : Nat) {Z k : Int}, RN B Z k → ((2 ^ n : Nat) : Int) ∣ Z → Z.natAbs ≤ 67108864 * 2 ^ n → sval B k = Z := fun n Z k h h1 h2 =>
    RN_exact hB0 h n h1 (Nat.le_trans h2 (Nat.mul_le_mul_right _ (by omega)))
  by_cases hk : ky ≤ kx
  · have dX : ((2 ^ ky : Nat) : Int) ∣ X := Int.dvd_trans (Int.natCast_dvd_natCast.2 (Nat.pow_dvd_pow 2 hk)) hx1
    have dS := RN_dvd hB0 rs ky (Int.dvd_add dX hy1)
    have e1 := ex ky rb (Int.dvd_sub dS dX) (by generalize 2 ^ ky = p at *; omega)
    rw [e1] at ra ry
    have e2 := ex kx ra (by rw [show sval B s - (sval B s - X) = X by omega]; exact hx1) (by generalize 2 ^ kx = p at *; omega)
    rw [e2] at rx
    have e3 := ex 0 rx (by simp) (by omega)
    have e4 := ex ky ry (Int.dvd_sub hy1 (Int.dvd_sub dS dX)) (by generalize 2 ^ ky = p at *; omega)
    rw [e3, e4] at re
    have e5 := ex ky re (by rw [show X - (sval B s - (sval B s - X)) + (Y - (sval B s - X)) = Y - (sval B s - X) by omega]; exact Int.dvd_sub hy1 (Int.dvd_sub dS dX)) (by generalize 2 ^ ky = p at *; omega)
    omega
  · have dY : ((2 ^ kx : Nat) : Int) ∣ Y := Int.dvd_trans (Int.natCast_dvd_natCast.2 (Nat.pow_dvd_pow 2 (by omega))) hy1
    have dS := RN_dvd hB0 rs kx (Int.dvd_add hx1 dY)
    have bb := RN_best hB0 rb jy
    rw [ejy] at bb
    have dB := RN_dvd hB0 rb kx (Int.dvd_sub dS hx1)
    have e2 := ex kx ra (Int.dvd_sub dS dB) (by generalize 2 ^ kx = p at *; omega)
    rw [e2] at rx
    have e3 := ex kx rx (Int.dvd_sub hx1 (Int.dvd_sub dS dB)) (by generalize 2 ^ kx = p at *; omega)
    have e4 := ex kx ry (Int.dvd_sub dY dB) (by generalize 2 ^ kx = p at *; omega)
    rw [e3, e4] at re
    have e5 := ex kx re (Int.dvd_add (Int.dvd_sub hx1 (Int.dvd_sub dS dB)) (Int.dvd_sub dY dB)) (by generalize 2 ^ kx = p at *; omega)
    omega
end Hedge
