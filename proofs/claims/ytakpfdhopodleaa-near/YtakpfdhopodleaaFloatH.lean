import Derived.Test.YtakpfdhopodleaaFloatG
namespace Hedge
open Ieee
set_option linter.unusedSimpArgs false
set_option linter.unusedVariables false

theorem rootFrom_spec (n : Nat) : ∀ (todo root : Nat), root * root ≤ n → n < (root + 2 ^ todo) * (root + 2 ^ todo) →
    Datum.rootFrom n todo root * Datum.rootFrom n todo root ≤ n ∧ n < (Datum.rootFrom n todo root + 1) * (Datum.rootFrom n todo root + 1)
  | 0, root, h1, h2 => by simpa [Datum.rootFrom] using ⟨h1, h2⟩
  | todo + 1, root, h1, h2 => by
    unfold Datum.rootFrom
    simp only [Nat.shiftLeft_eq, Nat.one_mul]
    have e : 2 ^ (todo + 1) = 2 ^ todo + 2 ^ todo := by rw [Nat.pow_succ]; omega
    by_cases hc : (root + 2 ^ todo) * (root + 2 ^ todo) ≤ n
    · rw [if_pos hc]
      exact rootFrom_spec n todo _ hc (by rw [Nat.add_assoc, ← e]; exact h2)
    · rw [if_neg hc]
      exact rootFrom_spec n todo _ h1 (by omega)

theorem root_whole (n : Nat) : Datum.rootFrom n (n.log2 / 2 + 1) 0 * Datum.rootFrom n (n.log2 / 2 + 1) 0 ≤ n ∧
    n < (Datum.rootFrom n (n.log2 / 2 + 1) 0 + 1) * (Datum.rootFrom n (n.log2 / 2 + 1) 0 + 1) := by
  apply rootFrom_spec
  · simp
  · rw [Nat.zero_add, ← Nat.pow_add]
    exact Nat.lt_of_lt_of_le Nat.lt_log2_self (Nat.pow_le_pow_right (by omega) (by omega))

/-- The float64 root of a float64 above 0: by the whole root of a whole number. -/
theorem sqrt_spec (x : Nat) (hx : x % double.signWeight < double.infRung) (hx0 : 0 < x % double.signWeight) (hp : (x / double.signWeight % 2 == 1) = false) :
    ∃ r Q n a b, double.sqrt x = some (double.word false (min r double.infRung)) ∧ NearN double.binade ((2 * Q + (Q * Q != n).toNat) * 2 ^ a) (2 ^ b) r ∧
      2 * double.binade ≤ Q ∧ Q * Q ≤ n ∧ n < (Q + 1) * (Q + 1) ∧ n * (2 ^ (a + 1) * 2 ^ (a + 1)) = val double.binade (x % double.signWeight) * V * (2 ^ b * 2 ^ b) := by
  have hB : 0 < double.binade := Nat.two_pow_pos _
  unfold Format.sqrt
  rw [read_fin double x hx, hp]
  obtain ⟨k1, k2, k3⟩ := split_rung double.binade (x % double.signWeight) hB
  generalize x % double.signWeight = rx at *
  have hvx : val double.binade rx = sig double.binade rx * 2 ^ ex double.binade rx := rfl
  generalize sig double.binade rx = m at *
  generalize ex double.binade rx = e at *
  have hm0 : m ≠ 0 := by
    intro h; subst h
    rcases k3 with k3 | k3
    · subst k3; omega
    · omega
  simp only [Datum.root]
  rw [if_neg hm0, if_neg (by simp)]
  simp only [Option.map_some, Format.write]
  have hdig : double.fractionBits + 2 = 54 := rfl
  rw [hdig]
  have hml1 : m < 2 ^ (m.log2 + 1) := Nat.lt_log2_self
  have hml0 : 2 ^ m.log2 ≤ m := Nat.log2_self_le hm0
  have hml : m.log2 ≤ 52 := by
    have : 2 ^ m.log2 < 2 ^ 53 := by rw [bi64] at k2; omega
    have := (Nat.pow_lt_pow_iff_right (a := 2) (by omega)).1 this
    omega
  generalize m.log2 = lm at *
  generalize hm1 : 2 * 54 - lm = more0 at *
  generalize hm2 : more0 + ((double.leastPlace + (e : Int) - (more0 : Int)) % 2).toNat = more at *
  rw [Nat.shiftLeft_eq]
  obtain ⟨q1, q2⟩ := root_whole (m * 2 ^ more)
  generalize Datum.rootFrom (m * 2 ^ more) ((m * 2 ^ more).log2 / 2 + 1) 0 = Q at *
  have heven : (double.leastPlace + (e : Int) - (more : Int)) % 2 = 0 := by omega
  have hmore : 108 ≤ lm + more := by omega
  have hQB : 2 * double.binade ≤ Q := by
    apply Nat.le_of_not_lt
    intro hc
    have h1 : (Q + 1) * (Q + 1) ≤ (2 * double.binade) * (2 * double.binade) := Nat.mul_le_mul (by omega) (by omega)
    have h2 : 2 ^ lm * 2 ^ more ≤ m * 2 ^ more := Nat.mul_le_mul_right _ hml0
    rw [← Nat.pow_add] at h2
    have h3 : 2 ^ 108 ≤ 2 ^ (lm + more) := Nat.pow_le_pow_right (by omega) hmore
    rw [bi64] at h1
    omega
  have hmag : 2 * Q + (Q * Q != m * 2 ^ more).toNat ≠ 0 := by rw [bi64] at hQB; omega
  obtain ⟨r, hr, hn⟩ := nearest_spec double false _ ((double.leastPlace + (e : Int) - (more : Int)) / 2 - 1) hmag
  refine ⟨r, Q, m * 2 ^ more, _, _, by rw [hr], hn, hQB, q1, q2, ?_⟩
  rw [hvx]
  have hab : more + (((double.leastPlace + (e : Int) - (more : Int)) / 2 - 1 - double.leastPlace).toNat + 1) + (((double.leastPlace + (e : Int) - (more : Int)) / 2 - 1 - double.leastPlace).toNat + 1) =
      e + c1074 + (double.leastPlace - ((double.leastPlace + (e : Int) - (more : Int)) / 2 - 1)).toNat + (double.leastPlace - ((double.leastPlace + (e : Int) - (more : Int)) / 2 - 1)).toNat := by
    rw [lp64] at heven ⊢; unfold c1074; omega
  generalize ((double.leastPlace + (e : Int) - (more : Int)) / 2 - 1 - double.leastPlace).toNat + 1 = a at *
  generalize (double.leastPlace - ((double.leastPlace + (e : Int) - (more : Int)) / 2 - 1)).toNat = b at *
  unfold V
  generalize c1074 = c at *
  have e1 : m * 2 ^ more * (2 ^ a * 2 ^ a) = m * 2 ^ (more + a + a) := by
    rw [Nat.pow_add, Nat.pow_add]; simp only [Nat.mul_assoc]
  have e2 : m * 2 ^ e * 2 ^ c * (2 ^ b * 2 ^ b) = m * 2 ^ (e + c + b + b) := by
    rw [Nat.pow_add, Nat.pow_add, Nat.pow_add]; simp only [Nat.mul_assoc]
  rw [e1, e2, hab]

theorem sq_le {a b : Nat} (h : a * a ≤ b * b) : a ≤ b := by
  apply Nat.le_of_not_lt
  intro hc
  have := Nat.mul_lt_mul_of_lt_of_le hc (Nat.le_of_lt hc) (by omega)
  omega
theorem sq_lt {a b : Nat} (h : a * a < b * b) : a < b := by
  apply Nat.lt_of_not_le
  intro hc
  have := Nat.mul_le_mul hc hc
  omega

theorem root_near {Q n a b S X N0 G m1 kk m3 k3 : Nat} (q1 : Q * Q ≤ n) (q2 : n < (Q + 1) * (Q + 1))
    (hq : n * (2 ^ (a + 1) * 2 ^ (a + 1)) = X * (2 ^ b * 2 ^ b)) (b1 : Q * 2 ^ (a + 1) ≤ N0) (b2 : N0 ≤ Q * 2 ^ (a + 1) + 2 ^ a) (hGD : 4 * 2 ^ a ≤ G * 2 ^ b)
    (c1 : 2 * (S * 2 ^ b) ≤ 2 * N0 + G * 2 ^ b) (c2 : 2 * N0 ≤ 2 * (S * 2 ^ b) + G * 2 ^ b) (hgs : G * 2 ^ 28 ≤ 2 ^ kk)
    (s1 : 8388608 ≤ m1) (s2 : m1 < 16777216) (s3 : S = m1 * 2 ^ kk) (o1 : 8388608 ≤ m3) (o2 : m3 < 16777216) (hX : X = m3 * 2 ^ (k3 + c1074)) (hD : 0 < 2 ^ b) : S * S = X := by
  have eA : 2 ^ (a + 1) = 2 * 2 ^ a := by rw [Nat.pow_succ, Nat.mul_comm]
  have sqmul : ∀ c d : Nat, (c * d) * (c * d) = (c * c) * (d * d) := fun c d => Nat.mul_mul_mul_comm _ _ _ _
  have hDD : 0 < 2 ^ b * 2 ^ b := Nat.mul_pos hD hD
  have hQ1 : (Q + 1) * 2 ^ (a + 1) = Q * 2 ^ (a + 1) + 2 ^ (a + 1) := by rw [Nat.add_mul, Nat.one_mul]
  have hup : (Q + 1) * 2 ^ (a + 1) ≤ (S + G) * 2 ^ b := by rw [hQ1, Nat.add_mul]; omega
  have hlo : (S - G) * 2 ^ b ≤ Q * 2 ^ (a + 1) := by rw [Nat.sub_mul]; omega
  have u1 : X < (S + G) * (S + G) := by
    apply Nat.lt_of_mul_lt_mul_right (a := 2 ^ b * 2 ^ b)
    rw [← hq, ← sqmul]
    refine Nat.lt_of_lt_of_le ?_ (Nat.mul_le_mul hup hup)
    rw [sqmul]
    exact Nat.mul_lt_mul_of_pos_right q2 (Nat.mul_pos (Nat.two_pow_pos _) (Nat.two_pow_pos _))
  have u2 : (S - G) * (S - G) ≤ X := by
    apply Nat.le_of_mul_le_mul_right _ hDD
    rw [← hq, ← sqmul]
    refine Nat.le_trans (Nat.mul_le_mul hlo hlo) ?_
    rw [sqmul]
    exact Nat.mul_le_mul_right _ q1
  have hK : 0 < 2 ^ kk := Nat.two_pow_pos _
  have hKK : 2 ^ (kk + kk) = 2 ^ kk * 2 ^ kk := Nat.pow_add ..
  have hSK : S ≤ 16777216 * 2 ^ kk := by rw [s3]; exact Nat.mul_le_mul_right _ (by omega)
  have hsm : (2 * S + G) * G < 2 ^ kk * 2 ^ kk := by
    apply Nat.lt_of_mul_lt_mul_right (a := 2 ^ 28)
    rw [Nat.mul_assoc]
    have h1 : (2 * S + G) * (G * 2 ^ 28) ≤ (33554433 * 2 ^ kk) * 2 ^ kk := Nat.mul_le_mul (by omega) hgs
    have h2 : (33554433 * 2 ^ kk) * 2 ^ kk = 33554433 * (2 ^ kk * 2 ^ kk) := Nat.mul_assoc ..
    have h3 : 0 < 2 ^ kk * 2 ^ kk := Nat.mul_pos hK hK
    omega
  have hGS : G ≤ S := by
    rw [s3]
    have : 8388608 * 2 ^ kk ≤ m1 * 2 ^ kk := Nat.mul_le_mul_right _ s1
    omega
  have ex1 : (S + G) * (S + G) = S * S + (2 * S + G) * G := by
    rw [Nat.add_mul, Nat.mul_add, Nat.mul_add, Nat.add_mul, Nat.mul_assoc, Nat.mul_comm G S]; omega
  have ex2 : S * S ≤ (S - G) * (S - G) + (2 * S + G) * G := by
    obtain ⟨T, rfl⟩ : ∃ T, S = T + G := ⟨S - G, by omega⟩
    rw [Nat.add_sub_cancel, Nat.add_mul, Nat.mul_add, Nat.mul_add, Nat.add_mul, Nat.mul_assoc, Nat.add_mul, Nat.mul_comm G T]; omega
  have hSS : S * S = (m1 * m1) * 2 ^ (kk + kk) := by rw [s3, sqmul, hKK]
  have hmm : 8388608 * 8388608 ≤ m1 * m1 := Nat.mul_le_mul s1 s1
  have hbig : 70368744177664 * 2 ^ (kk + kk) ≤ S * S := by rw [hSS]; exact Nat.mul_le_mul_right _ (by omega)
  rw [← hKK] at hsm
  have hkk : kk + kk ≤ k3 + c1074 := by
    apply Nat.le_of_not_lt
    intro hc
    have h1 : 2 ^ (k3 + c1074) ≤ 2 ^ (kk + kk) := Nat.pow_le_pow_right (by omega) (by omega)
    have h2 : X ≤ 16777216 * 2 ^ (kk + kk) := by rw [hX]; exact Nat.mul_le_mul (by omega) h1
    have := Nat.two_pow_pos (kk + kk)
    omega
  have hdX : 2 ^ (kk + kk) ∣ X := by rw [hX]; exact Nat.dvd_trans (Nat.pow_dvd_pow 2 hkk) (Nat.dvd_mul_left _ _)
  have hdS : 2 ^ (kk + kk) ∣ S * S := by rw [hSS]; exact Nat.dvd_mul_left _ _
  exact eq_of_near hdS hdX (by omega) (by omega)

theorem root_cmp {rx r Q n a b s : Nat} (hx : rx < single.infRung) (hx0 : 0 < rx) (hs : s < single.infRung)
    (hn : NearN double.binade ((2 * Q + (Q * Q != n).toNat) * 2 ^ a) (2 ^ b) r) (hQB : 2 * double.binade ≤ Q) (q1 : Q * Q ≤ n) (q2 : n < (Q + 1) * (Q + 1))
    (hq : n * (2 ^ (a + 1) * 2 ^ (a + 1)) = (val single.binade rx * U) * V * (2 ^ b * 2 ^ b)) :
    (val single.binade s * U ≤ val double.binade r ↔ val single.binade s * val single.binade s ≤ val single.binade rx * W) ∧
    (val double.binade r ≤ val single.binade s * U ↔ val single.binade rx * W ≤ val single.binade s * val single.binade s) := by
  have hB : 0 < double.binade := Nat.two_pow_pos _
  have hSi : 0 < single.binade := Nat.two_pow_pos _
  have hUU : 0 < U * U := Nat.mul_pos U_pos U_pos
  have eSS : (val single.binade s * U) * (val single.binade s * U) = (val single.binade s * val single.binade s) * (U * U) := Nat.mul_mul_mul_comm _ _ _ _
  have eXV : (val single.binade rx * U) * V = (val single.binade rx * W) * (U * U) := by
    rw [V_eq, Nat.mul_comm U W, Nat.mul_mul_mul_comm]
  have tr1 : (val single.binade s * U) * (val single.binade s * U) ≤ (val single.binade rx * U) * V ↔ val single.binade s * val single.binade s ≤ val single.binade rx * W := by
    rw [eSS, eXV]; exact Nat.mul_le_mul_right_iff hUU
  have tr2 : (val single.binade rx * U) * V ≤ (val single.binade s * U) * (val single.binade s * U) ↔ val single.binade rx * W ≤ val single.binade s * val single.binade s := by
    rw [eSS, eXV]; exact Nat.mul_le_mul_right_iff hUU
  rw [← tr1, ← tr2]
  clear tr1 tr2 eSS eXV
  obtain ⟨t, htI, ht⟩ := up_rung s hs
  obtain ⟨m3, k3, o1, o2, e3, p1, p2⟩ := norm24 rx hx0 hx
  have hXk : (val single.binade rx * U) * V = m3 * 2 ^ (k3 + c1074) := by rw [e3, V, Nat.pow_add, Nat.mul_assoc]
  have hnorm : s ≠ 0 → ∃ m1 k1, 8388608 ≤ m1 ∧ m1 < 16777216 ∧ val single.binade s * U = m1 * 2 ^ k1 ∧ 900 ≤ k1 := fun h => by
    obtain ⟨m, k, a1, a2, a3, a4, a5⟩ := norm24 s (by omega) hs
    exact ⟨m, k, a1, a2, a3, a4⟩
  have hs0 : s = 0 → val single.binade s * U = 0 := fun h => by rw [h, val_zero]; simp
  generalize (val single.binade rx * U) * V = X at *
  generalize val single.binade s * U = S at *
  have hD : 0 < 2 ^ b := Nat.two_pow_pos b
  have hA : 0 < 2 ^ a := Nat.two_pow_pos a
  have eA : 2 ^ (a + 1) = 2 * 2 ^ a := by rw [Nat.pow_succ, Nat.mul_comm]
  have hσ : (Q * Q != n).toNat = if Q * Q = n then 0 else 1 := by by_cases hh : Q * Q = n <;> simp [hh]
  have hn' := hn
  obtain ⟨r0, h1, h2, h3⟩ := hn'
  have hvs := val_succ double.binade r0 hB
  have hv0 : val double.binade r0 = sig double.binade r0 * 2 ^ ex double.binade r0 := rfl
  obtain ⟨k1, k2, k3'⟩ := split_rung double.binade r0 hB
  have hrr : r = r0 ∨ r = r0 + 1 := by rcases h3 with ⟨h, _⟩ | ⟨h, _⟩ <;> omega
  -- the gap is four times the unit at least
  have hg : a + 2 ≤ ex double.binade r0 + b := by
    apply Nat.lt_of_not_le
    intro hc
    have hp : 2 ^ (ex double.binade r0 + b) ≤ 2 ^ (a + 1) := Nat.pow_le_pow_right (by omega) (by omega)
    have e1 : val double.binade (r0 + 1) * 2 ^ b = (sig double.binade r0 + 1) * 2 ^ (ex double.binade r0 + b) := by
      rw [hvs, hv0, ← Nat.succ_mul, Nat.mul_assoc, ← Nat.pow_add]
    rw [e1] at h2
    have h4 : (sig double.binade r0 + 1) * 2 ^ (ex double.binade r0 + b) ≤ (2 * double.binade) * 2 ^ (a + 1) := Nat.mul_le_mul (by omega) hp
    have h5 : (2 * (2 * double.binade)) * 2 ^ a ≤ (2 * Q + (Q * Q != n).toNat) * 2 ^ a := Nat.mul_le_mul_right _ (by omega)
    have h6 : (2 * double.binade) * 2 ^ (a + 1) = (2 * (2 * double.binade)) * 2 ^ a := by
      rw [eA, ← Nat.mul_assoc, Nat.mul_comm (2 * double.binade) 2]
    omega
  rw [hσ] at h1 h2 h3 hn
  have hwhole : ∀ q, r0 ≤ q → ∃ c, val double.binade q * 2 ^ b = c * 2 ^ (a + 1) := by
    intro q hq
    have he : ex double.binade r0 ≤ ex double.binade q := by
      unfold ex; exact Nat.sub_le_sub_right (Nat.div_le_div_right hq) 1
    refine ⟨sig double.binade q * 2 ^ (ex double.binade q + b - (a + 1)), ?_⟩
    unfold val
    rw [Nat.mul_assoc, ← Nat.pow_add, Nat.mul_assoc, ← Nat.pow_add, Nat.sub_add_cancel (by omega)]
  have sqmul : ∀ c d : Nat, (c * d) * (c * d) = (c * c) * (d * d) := fun c d => Nat.mul_mul_mul_comm _ _ _ _
  have hP1 : 0 < 2 ^ (a + 1) * 2 ^ (a + 1) := Nat.mul_pos (Nat.two_pow_pos _) (Nat.two_pow_pos _)
  have hDD : 0 < 2 ^ b * 2 ^ b := Nat.mul_pos hD hD
  have lo : S * S ≤ X → S ≤ val double.binade r := by
    intro h
    rw [← ht]
    apply val_mono double.binade hB
    apply Nat.le_of_not_lt
    intro hc
    obtain ⟨c, hcc⟩ := hwhole t (by omega)
    rw [ht] at hcc
    have h4 : (S * 2 ^ b) * (S * 2 ^ b) ≤ n * (2 ^ (a + 1) * 2 ^ (a + 1)) := by
      rw [hq, sqmul]; exact Nat.mul_le_mul_right _ h
    rw [hcc, sqmul] at h4
    have h5 := Nat.le_of_mul_le_mul_right h4 hP1
    have h6 : c ≤ Q := by
      have : c * c < (Q + 1) * (Q + 1) := by omega
      have := sq_lt this; omega
    have h7 : t ≤ r := by
      apply near_lo hB hD hn
      rw [ht, hcc, eA, ← Nat.mul_assoc]
      exact Nat.mul_le_mul_right _ (by omega)
    omega
  have hi : X ≤ S * S → val double.binade r ≤ S := by
    intro h
    rw [← ht]
    apply val_mono double.binade hB
    apply Nat.le_of_not_lt
    intro hc
    obtain ⟨c, hcc⟩ := hwhole r0 (Nat.le_refl _)
    have hm := val_mono double.binade hB (show t ≤ r0 by omega)
    rw [ht] at hm
    rw [hcc, eA, ← Nat.mul_assoc] at h1
    have h4 := Nat.le_of_mul_le_mul_right h1 hA
    have h5 : c ≤ Q := by split at h4 <;> omega
    have h6 : n * (2 ^ (a + 1) * 2 ^ (a + 1)) ≤ (S * 2 ^ b) * (S * 2 ^ b) := by
      rw [hq, sqmul]; exact Nat.mul_le_mul_right _ h
    have hSb : S * 2 ^ b ≤ c * 2 ^ (a + 1) := by rw [← hcc]; exact Nat.mul_le_mul_right _ hm
    have h7 : n * (2 ^ (a + 1) * 2 ^ (a + 1)) ≤ (c * c) * (2 ^ (a + 1) * 2 ^ (a + 1)) := by
      rw [← sqmul]; exact Nat.le_trans h6 (Nat.mul_le_mul hSb hSb)
    have h8 := Nat.le_of_mul_le_mul_right h7 hP1
    have h9 : c * c ≤ Q * Q := Nat.mul_le_mul h5 h5
    have h10 : c = Q := by have := sq_le (show Q * Q ≤ c * c by omega); omega
    subst h10
    have h11 : c * c = n := by omega
    rw [if_pos h11] at hn
    have h12 : r = r0 := near_exact hB hD hn (by rw [hcc, eA, ← Nat.mul_assoc, Nat.mul_comm c 2, Nat.add_zero])
    have h13 : c * 2 ^ (a + 1) ≤ S * 2 ^ b := by
      apply sq_le; rw [sqmul, h11]; exact h6
    have h14 : val double.binade r0 ≤ S := by
      apply Nat.le_of_mul_le_mul_right _ hD; rw [hcc]; exact h13
    rw [← ht] at h14
    have := (val_le_iff double.binade hB).1 h14
    omega
  have key : S = val double.binade r → S * S = X := by
    intro he
    by_cases h0 : s = 0
    · exfalso
      have hS0 := hs0 h0
      have hr0' : r = 0 := val_inj double.binade hB (by rw [val_zero, ← he]; exact hS0)
      have h4 : ¬ (val double.binade 1 * 2 ^ b ≤ (2 * Q + if Q * Q = n then 0 else 1) * 2 ^ a) := by
        intro hc
        have := near_lo hB hD hn hc
        omega
      have v1 : val double.binade 1 = 1 := by
        have := val_shift double.binade 0 1 hB (Or.inl rfl) (by rw [bi64]; omega)
        simpa using this
      rw [v1, Nat.one_mul] at h4
      have h5 : Q * 2 ^ (a + 1) < 2 ^ b := by
        have : 2 * Q * 2 ^ a ≤ (2 * Q + if Q * Q = n then 0 else 1) * 2 ^ a := Nat.mul_le_mul_right _ (by omega)
        rw [eA, ← Nat.mul_assoc, Nat.mul_comm Q 2]; omega
      have h6 : n ≤ (2 * Q) * (2 * Q) := Nat.le_trans (Nat.le_of_lt q2) (Nat.mul_le_mul (by rw [bi64] at hQB; omega) (by rw [bi64] at hQB; omega))
      have h7 : n * (2 ^ (a + 1) * 2 ^ (a + 1)) ≤ 4 * (2 ^ b * 2 ^ b) := by
        have h8 : (Q * 2 ^ (a + 1)) * (Q * 2 ^ (a + 1)) ≤ 2 ^ b * 2 ^ b := Nat.mul_le_mul (Nat.le_of_lt h5) (Nat.le_of_lt h5)
        rw [sqmul] at h8
        have h9 : n * (2 ^ (a + 1) * 2 ^ (a + 1)) ≤ (2 * Q) * (2 * Q) * (2 ^ (a + 1) * 2 ^ (a + 1)) := Nat.mul_le_mul_right _ h6
        have e4 : (2 * Q) * (2 * Q) * (2 ^ (a + 1) * 2 ^ (a + 1)) = 4 * (Q * Q * (2 ^ (a + 1) * 2 ^ (a + 1))) := by
          rw [Nat.mul_mul_mul_comm 2 Q, Nat.mul_assoc]
        omega
      rw [hq] at h7
      have h10 := Nat.le_of_mul_le_mul_right h7 hDD
      rw [hXk] at h10
      have h11 : 8388608 * 1 ≤ m3 * 2 ^ (k3 + c1074) := Nat.mul_le_mul o1 (Nat.two_pow_pos _)
      omega
    · obtain ⟨m1, kk, s1, s2, s3, s4⟩ := hnorm h0
      have hgs := gap_small (show r0 ≤ r by omega) (by rw [← he]; exact s3) s2 (by omega)
      have hGD : 4 * 2 ^ a ≤ 2 ^ ex double.binade r0 * 2 ^ b := by
        rw [← Nat.pow_add]
        have : 2 ^ (a + 2) ≤ 2 ^ (ex double.binade r0 + b) := Nat.pow_le_pow_right (by omega) hg
        rw [Nat.pow_add] at this; omega
      have c12 : 2 * (S * 2 ^ b) ≤ 2 * ((2 * Q + if Q * Q = n then 0 else 1) * 2 ^ a) + 2 ^ ex double.binade r0 * 2 ^ b ∧
          2 * ((2 * Q + if Q * Q = n then 0 else 1) * 2 ^ a) ≤ 2 * (S * 2 ^ b) + 2 ^ ex double.binade r0 * 2 ^ b := by
        rw [hvs] at h2 h3
        have e4 : (val double.binade r0 + (val double.binade r0 + 2 ^ ex double.binade r0)) * 2 ^ b = 2 * (val double.binade r0 * 2 ^ b) + 2 ^ ex double.binade r0 * 2 ^ b := by
          rw [Nat.add_mul, Nat.add_mul]; omega
        rw [e4] at h3
        have e5 : (val double.binade r0 + 2 ^ ex double.binade r0) * 2 ^ b = val double.binade r0 * 2 ^ b + 2 ^ ex double.binade r0 * 2 ^ b := Nat.add_mul ..
        rw [e5] at h2
        rcases h3 with ⟨h3, h5⟩ | ⟨h3, h5⟩
        · rw [he, h3]; exact ⟨by omega, by omega⟩
        · rw [he, h3, hvs, Nat.add_mul]; exact ⟨by omega, by omega⟩
      obtain ⟨c1, c2⟩ := c12
      clear h1 h2 h3 hn
      exact root_near q1 q2 hq (by rw [eA, Nat.mul_left_comm, ← Nat.mul_assoc]; exact Nat.le_trans (Nat.le_of_eq (by rw [Nat.mul_comm])) (Nat.mul_le_mul_right _ (Nat.le_add_right _ _))) (by
        rw [Nat.add_mul] ; rw [eA, Nat.mul_left_comm, ← Nat.mul_assoc]; apply Nat.add_le_add_left; split <;> omega) hGD c1 c2 hgs s1 s2 s3 o1 o2 hXk hD
  refine ⟨⟨fun h => ?_, lo⟩, ⟨fun h => ?_, hi⟩⟩
  · apply Nat.le_of_not_lt
    intro hc
    have := key (by have := hi (by omega); omega)
    omega
  · apply Nat.le_of_not_lt
    intro hc
    have := key (by have := lo (by omega); omega)
    omega
end Hedge
