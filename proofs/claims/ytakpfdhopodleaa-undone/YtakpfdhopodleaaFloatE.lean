import Derived.Test.YtakpfdhopodleaaFloatD
namespace Hedge
open Ieee
set_option linter.unusedSimpArgs false
set_option linter.unusedVariables false

def c149 : Nat := 149
def c1074 : Nat := 1074
def W : Nat := 2 ^ c149
def V : Nat := 2 ^ c1074
theorem W_pos : 0 < W := by unfold W; exact Nat.two_pow_pos _
theorem V_pos : 0 < V := by unfold V; exact Nat.two_pow_pos _
theorem V_eq : V = U * W := by unfold V U W; rw [← Nat.pow_add, show c925 + c149 = c1074 by decide]

theorem mul_spec (x y : Nat) (hx : x % double.signWeight < double.infRung) (hy : y % double.signWeight < double.infRung) :
    ∃ r, double.mul x y = some (double.word ((x / double.signWeight % 2 == 1) ^^ (y / double.signWeight % 2 == 1)) (min r double.infRung)) ∧
      ∃ N D, 0 < D ∧ NearN double.binade N D r ∧ N * V = val double.binade (x % double.signWeight) * val double.binade (y % double.signWeight) * D := by
  have hB : 0 < double.binade := Nat.two_pow_pos _
  unfold Format.mul
  rw [read_fin double x hx, read_fin double y hy]
  generalize x % double.signWeight = rx at *
  generalize y % double.signWeight = ry at *
  generalize (x / double.signWeight % 2 == 1) = p at *
  generalize (y / double.signWeight % 2 == 1) = q at *
  have hvx : val double.binade rx = sig double.binade rx * 2 ^ ex double.binade rx := rfl
  have hvy : val double.binade ry = sig double.binade ry * 2 ^ ex double.binade ry := rfl
  generalize sig double.binade rx = m at *
  generalize ex double.binade rx = e at *
  generalize sig double.binade ry = n at *
  generalize ex double.binade ry = d at *
  simp only [Datum.product, Option.map_some, Format.write]
  by_cases h0 : m * n = 0
  · refine ⟨0, ?_, 0, 1, by omega, near_zero _ hB, ?_⟩
    · unfold Format.nearest; rw [if_pos h0]; simp
    · rw [hvx, hvy, Nat.mul_one, Nat.mul_mul_mul_comm, h0]; simp
  · obtain ⟨r, hr, hn⟩ := nearest_spec double (p ^^ q) (m * n) (double.leastPlace + (e : Int) + (double.leastPlace + (d : Int))) h0
    have es : (m * n * 2 ^ (double.leastPlace + (e : Int) + (double.leastPlace + (d : Int)) - double.leastPlace).toNat) * V = (m * n * 2 ^ (e + d)) * 2 ^ (double.leastPlace - (double.leastPlace + (e : Int) + (double.leastPlace + (d : Int)))).toNat := scale_place (m * n) (e + d) c1074 (double.leastPlace + (e : Int) + (double.leastPlace + (d : Int))) double.leastPlace (by rw [lp64]; unfold c1074; omega)
    have hD : 0 < 2 ^ (double.leastPlace - (double.leastPlace + (e : Int) + (double.leastPlace + (d : Int)))).toNat := Nat.two_pow_pos _
    generalize 2 ^ (double.leastPlace - (double.leastPlace + (e : Int) + (double.leastPlace + (d : Int)))).toNat = D at *
    generalize m * n * 2 ^ (double.leastPlace + (e : Int) + (double.leastPlace + (d : Int)) - double.leastPlace).toNat = N at *
    refine ⟨r, by rw [hr], N, D, hD, hn, ?_⟩
    rw [es, hvx, hvy, Nat.pow_add, Nat.mul_mul_mul_comm]

/-- What is left over only has to be told from nothing. -/
theorem sticky {B Q n0 d a b r : Nat} (hB : 0 < B) (hd : 0 < d) (hQ : Q = n0 / d) (hQB : 2 * B ≤ Q)
    (h : NearN B ((2 * Q + (n0 % d != 0).toNat) * 2 ^ a) (2 ^ b) r) : NearN B (n0 * 2 ^ (a + 1)) (d * 2 ^ b) r := by
  obtain ⟨r0, h1, h2, h3⟩ := h
  refine ⟨r0, ?_⟩
  have hs := val_succ B r0 hB
  have hv : val B r0 = sig B r0 * 2 ^ ex B r0 := rfl
  obtain ⟨k1, k2, k3⟩ := split_rung B r0 hB
  have hdm := Nat.div_add_mod n0 d
  have hml := Nat.mod_lt n0 hd
  rw [← hQ] at hdm
  rw [hs] at h2 h3 ⊢
  rw [hv] at h1 h2 h3 ⊢
  generalize sig B r0 = s at *
  generalize ex B r0 = e at *
  -- the gap is four times the unit at least
  have hg : a + 2 ≤ e + b := by
    apply Nat.lt_of_not_le
    intro hc
    have hp : 2 ^ (e + b) ≤ 2 ^ (a + 1) := Nat.pow_le_pow_right (by omega) (by omega)
    have e1 : (s * 2 ^ e + 2 ^ e) * 2 ^ b = (s + 1) * 2 ^ (e + b) := by rw [← Nat.succ_mul, Nat.mul_assoc, ← Nat.pow_add]
    rw [e1] at h2
    have h4 : (s + 1) * 2 ^ (e + b) ≤ (2 * B) * 2 ^ (a + 1) := Nat.mul_le_mul (by omega) hp
    have h5 : (2 * (2 * B)) * 2 ^ a ≤ (2 * Q + (n0 % d != 0).toNat) * 2 ^ a := Nat.mul_le_mul_right _ (by omega)
    have h6 : (2 * B) * 2 ^ (a + 1) = (2 * (2 * B)) * 2 ^ a := by rw [Nat.pow_succ, Nat.mul_comm (2 ^ a) 2, ← Nat.mul_assoc, Nat.mul_comm (2 * B) 2]
    omega
  obtain ⟨c, hc⟩ : ∃ c, e + b = a + 2 + c := ⟨e + b - (a + 2), by omega⟩
  have hG : 2 ^ e * 2 ^ b = 4 * 2 ^ c * 2 ^ a := by
    rw [← Nat.pow_add, hc, Nat.pow_add, Nat.pow_add, Nat.mul_comm (2 ^ a)]; rw [show 2 ^ 2 = 4 by rfl, Nat.mul_right_comm]
  have hA : 0 < 2 ^ a := Nat.two_pow_pos a
  generalize 2 ^ c = H at *
  have f1 : ∀ t : Nat, t * 2 ^ e * 2 ^ b = t * (4 * H) * 2 ^ a := by intro t; rw [Nat.mul_assoc, hG, Nat.mul_assoc t]
  have f2 : ∀ t : Nat, t * 2 ^ e * (d * 2 ^ b) = t * (2 * H) * d * 2 ^ (a + 1) := by
    intro t
    rw [Nat.mul_comm d, ← Nat.mul_assoc, f1, Nat.pow_succ]
    simp only [Nat.mul_assoc, Nat.mul_left_comm, Nat.mul_comm]
    have : (4 : Nat) = 2 * 2 := rfl
    rw [this]; simp only [Nat.mul_assoc, Nat.mul_left_comm, Nat.mul_comm]
  have g1 : s * 2 ^ e + 2 ^ e = (s + 1) * 2 ^ e := (Nat.succ_mul s (2 ^ e)).symm
  have g2 : s * 2 ^ e + (s + 1) * 2 ^ e = (2 * s + 1) * 2 ^ e := by rw [← Nat.add_mul]; congr 1; omega
  rw [g1] at h2 h3 ⊢
  rw [g2] at h3 ⊢
  rw [f1] at h1 h2 h3
  rw [f2, f2, f2]
  have p1 := Nat.le_of_mul_le_mul_right h1 hA
  have p2 := Nat.lt_of_mul_lt_mul_right h2
  have hσ : (n0 % d != 0).toNat = if n0 % d = 0 then 0 else 1 := by by_cases hh : n0 % d = 0 <;> simp [hh]
  rw [hσ] at p1 p2 h3
  generalize hs2 : s * (2 * H) = S at *
  have eS : s * (4 * H) = 2 * S := by rw [← hs2, Nat.mul_left_comm 2 s, ← Nat.mul_assoc 2 2]
  have eS1 : (s + 1) * (2 * H) = S + 2 * H := by rw [Nat.add_mul, hs2]; omega
  have eS2 : (s + 1) * (4 * H) = 2 * S + 4 * H := by rw [Nat.add_mul, eS]; omega
  have eS3 : (2 * s + 1) * (2 * H) = 2 * S + 2 * H := by rw [Nat.add_mul, Nat.mul_assoc, hs2]; omega
  have eS4 : (2 * s + 1) * (4 * H) = 4 * S + 4 * H := by rw [Nat.add_mul, Nat.mul_assoc, eS]; omega
  rw [eS] at p1; rw [eS2] at p2; rw [eS4] at h3
  rw [eS1, eS3]
  have q1 : S ≤ Q := by split at p1 <;> omega
  have q2 : Q + 1 ≤ S + 2 * H := by split at p2 <;> omega
  have z1 : S * d ≤ n0 := Nat.le_trans (Nat.mul_le_mul_right d q1) (by rw [Nat.mul_comm]; omega)
  have z2 : n0 < (S + 2 * H) * d := by
    have : (Q + 1) * d ≤ (S + 2 * H) * d := Nat.mul_le_mul_right d q2
    rw [Nat.add_mul, Nat.one_mul, Nat.mul_comm Q] at this
    omega
  have hA1 : 0 < 2 ^ (a + 1) := Nat.two_pow_pos _
  refine ⟨Nat.mul_le_mul_right _ z1, Nat.mul_lt_mul_of_pos_right z2 hA1, ?_⟩
  have e2 : ∀ t : Nat, 2 * (t * 2 ^ a) = (2 * t) * 2 ^ a := by intro t; rw [Nat.mul_assoc]
  rcases h3 with ⟨rfl, h3⟩ | ⟨rfl, h3⟩
  · left
    refine ⟨rfl, ?_⟩
    rw [e2] at h3
    have p3 := Nat.le_of_mul_le_mul_right h3 hA
    rw [← Nat.mul_assoc 2 n0]
    apply Nat.mul_le_mul_right
    by_cases hz : n0 % d = 0
    · rw [if_pos hz] at p3
      have : Q * d ≤ (S + H) * d := Nat.mul_le_mul_right d (by omega)
      have e3 : (2 * S + 2 * H) * d = 2 * ((S + H) * d) := by rw [← Nat.mul_add, Nat.mul_assoc]
      rw [e3]; rw [Nat.mul_comm Q] at this; omega
    · rw [if_neg hz] at p3
      have : (Q + 1) * d ≤ (S + H) * d := Nat.mul_le_mul_right d (by omega)
      have e3 : (2 * S + 2 * H) * d = 2 * ((S + H) * d) := by rw [← Nat.mul_add, Nat.mul_assoc]
      rw [Nat.add_mul, Nat.one_mul, Nat.mul_comm Q] at this
      rw [e3]; omega
  · right
    refine ⟨rfl, ?_⟩
    rw [e2] at h3
    have p3 := Nat.le_of_mul_le_mul_right h3 hA
    rw [← Nat.mul_assoc 2 n0]
    apply Nat.mul_le_mul_right
    have : (S + H) * d ≤ Q * d := Nat.mul_le_mul_right d (by split at p3 <;> omega)
    have e3 : (2 * S + 2 * H) * d = 2 * ((S + H) * d) := by rw [← Nat.mul_add, Nat.mul_assoc]
    rw [Nat.mul_comm Q] at this
    rw [e3]; omega
end Hedge
