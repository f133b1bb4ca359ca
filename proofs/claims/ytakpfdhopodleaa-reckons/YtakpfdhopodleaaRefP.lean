import Derived.Test.YtakpfdhopodleaaRefM
namespace Hedge
open Ieee
set_option linter.unusedSimpArgs false
set_option linter.unusedVariables false

theorem sgn_add (b : Bool) (x y : Nat) : sgn b (x + y) = sgn b x + sgn b y := by cases b <;> simp [sgn] <;> omega
theorem sgn_sub (b : Bool) {x y : Nat} (h : y ≤ x) : sgn b (x - y) = sgn b x + sgn (!b) y := by cases b <;> simp [sgn] <;> omega

/-- How two numbers stand to each other when their places have been made one. -/
structure Al (Ma Mb : Nat) (Ea Eb : Int) (k D : Nat) (XA XB : Nat) (mo : Bool) (Y : Int) : Prop where
  hk : k ≤ 38
  hY : Y = Ea - k
  hD : (D : Int) = Y - Eb
  hb : -149 ≤ Eb
  far : k = 38 ∨ D = 0
  nb0 : 0 < Mb
  nb1 : Mb < 16777216
  na0 : 0 < Ma
  na1 : Ma < 16777216
  na2 : 8388608 ≤ Ma ∨ Ea = -149
  eA : XA = Ma * 2 ^ k
  eB : XB = Mb / 2 ^ D
  eM : mo = decide (Mb % 2 ^ D ≠ 0)
theorem Al.big {Ma Mb : Nat} {Ea Eb : Int} {k D XA XB : Nat} {mo : Bool} {Y : Int} (h : Al Ma Mb Ea Eb k D XA XB mo Y) : XA ≤ 4611685743549480960 ∧ XB < 16777216 ∧ (mo = true → 2305843009213693952 ≤ XA) := by
  have h38 : (2 : Nat) ^ 38 = 274877906944 := by decide
  refine ⟨?_, ?_, ?_⟩
  · rw [h.eA]
    have h1 : 2 ^ k ≤ 2 ^ 38 := Nat.pow_le_pow_right (by omega) h.hk
    have h2 := Nat.mul_le_mul (show Ma ≤ 16777215 by have := h.na1; omega) h1
    rw [h38] at h2; omega
  · rw [h.eB]
    exact Nat.lt_of_le_of_lt (Nat.div_le_self _ _) h.nb1
  · intro hm
    have h1 := h.eM
    rw [hm] at h1
    have hr : Mb % 2 ^ D ≠ 0 := by simpa using h1
    have hD0 : D ≠ 0 := by
      intro h0; rw [h0] at hr; apply hr; rw [Nat.pow_zero]; exact Nat.mod_one _
    have hk : k = 38 := by have := h.far; omega
    have hMa : 8388608 ≤ Ma := by have := h.na2; have := h.hY; have := h.hD; have := h.hb; omega
    rw [h.eA, hk, h38]; omega

theorem Al.vals {Ma Mb : Nat} {Ea Eb : Int} {k D XA XB : Nat} {mo : Bool} {Y : Int} (h : Al Ma Mb Ea Eb k D XA XB mo Y) :
    Ma * 2 ^ (Ea + 149).toNat = XA * 2 ^ D * 2 ^ (Eb + 149).toNat ∧ Mb = XB * 2 ^ D + Mb % 2 ^ D ∧ Y + 149 = ((Eb + 149).toNat : Int) + D := by
  have h1 := h.hY
  have h2 := h.hD
  have h3 := h.hb
  refine ⟨?_, ?_, by omega⟩
  · rw [h.eA, Nat.mul_assoc, Nat.mul_assoc, ← Nat.pow_add, ← Nat.pow_add]
    congr 2; omega
  · rw [h.eB]
    have := Nat.div_add_mod Mb (2 ^ D)
    rw [Nat.mul_comm] at this
    exact this.symm

theorem Al.same {Ma Mb : Nat} {Ea Eb : Int} {k D XA XB : Nat} {mo : Bool} {Y : Int} (h : Al Ma Mb Ea Eb k D XA XB mo Y) {n : Bool} {vi vj : Int} (up : Bool)
    (hi : vi = sgn n (Ma * 2 ^ (Ea + 149).toNat)) (hj : vj = sgn n (Mb * 2 ^ (Eb + 149).toNat)) :
    roundK n (XA + XB) Y mo up = if up then upQ (vi + vj) 1 else dnQ (vi + vj) 1 := by
  obtain ⟨v1, v2, v3⟩ := h.vals
  have hbig := h.big
  apply add_round up v3 (Nat.mod_lt Mb (Nat.two_pow_pos D)) h.eM (fun hm => by have := hbig.2.2 hm; omega)
  rw [hi, hj, v1, ← sgn_add]
  congr 1
  have e : (XA + XB) * 2 ^ D + Mb % 2 ^ D = XA * 2 ^ D + Mb := by rw [Nat.add_mul]; omega
  rw [e, Nat.add_mul]

theorem Al.diff {Ma Mb : Nat} {Ea Eb : Int} {k D XA XB : Nat} {Y : Int} (h : Al Ma Mb Ea Eb k D XA XB false Y) {n1 n2 : Bool} {vi vj : Int} (up : Bool) (hn : n2 = !n1)
    (hi : vi = sgn n1 (Ma * 2 ^ (Ea + 149).toNat)) (hj : vj = sgn n2 (Mb * 2 ^ (Eb + 149).toNat)) (hle : XB ≤ XA) :
    roundK n1 (XA - XB) Y false up = if up then upQ (vi + vj) 1 else dnQ (vi + vj) 1 := by
  obtain ⟨v1, v2, v3⟩ := h.vals
  have hr : Mb % 2 ^ D = 0 := by have := h.eM; simpa using this.symm
  apply add_round up v3 (rest := 0) (Nat.two_pow_pos D) (by simp) (by simp)
  rw [hi, hj, v1, hn]
  have e1 : Mb * 2 ^ (Eb + 149).toNat = XB * 2 ^ D * 2 ^ (Eb + 149).toNat := by rw [← (show Mb = XB * 2 ^ D by omega)]
  rw [e1, ← sgn_sub n1 (Nat.mul_le_mul_right _ (Nat.mul_le_mul_right _ hle))]
  congr 1
  rw [Nat.add_zero, Nat.sub_mul, Nat.sub_mul]
theorem Al.diff' {Ma Mb : Nat} {Ea Eb : Int} {k D XA XB : Nat} {Y : Int} (h : Al Ma Mb Ea Eb k D XA XB false Y) {n1 n2 : Bool} {vi vj : Int} (up : Bool) (hn : n1 = !n2)
    (hi : vi = sgn n1 (Ma * 2 ^ (Ea + 149).toNat)) (hj : vj = sgn n2 (Mb * 2 ^ (Eb + 149).toNat)) (hle : XA ≤ XB) :
    roundK n2 (XB - XA) Y false up = if up then upQ (vi + vj) 1 else dnQ (vi + vj) 1 := by
  obtain ⟨v1, v2, v3⟩ := h.vals
  have hr : Mb % 2 ^ D = 0 := by have := h.eM; simpa using this.symm
  apply add_round up v3 (rest := 0) (Nat.two_pow_pos D) (by simp) (by simp)
  rw [hi, hj, v1, hn, Int.add_comm (sgn (!n2) _)]
  have e1 : Mb * 2 ^ (Eb + 149).toNat = XB * 2 ^ D * 2 ^ (Eb + 149).toNat := by rw [← (show Mb = XB * 2 ^ D by omega)]
  rw [e1, ← sgn_sub n2 (Nat.mul_le_mul_right _ (Nat.mul_le_mul_right _ hle))]
  congr 1
  rw [Nat.add_zero, Nat.sub_mul, Nat.sub_mul]
theorem Al.more {Ma Mb : Nat} {Ea Eb : Int} {k D XA XB : Nat} {Y : Int} (h : Al Ma Mb Ea Eb k D XA XB true Y) {n1 n2 : Bool} {vi vj : Int} (up : Bool) (hn : n2 = !n1)
    (hi : vi = sgn n1 (Ma * 2 ^ (Ea + 149).toNat)) (hj : vj = sgn n2 (Mb * 2 ^ (Eb + 149).toNat)) :
    roundK n1 (XA - XB - 1) Y true up = if up then upQ (vi + vj) 1 else dnQ (vi + vj) 1 := by
  obtain ⟨v1, v2, v3⟩ := h.vals
  have hr : Mb % 2 ^ D ≠ 0 := by have := h.eM; simpa using this.symm
  have hbig := h.big
  have hXA := hbig.2.2 rfl
  have hlt := Nat.mod_lt Mb (Nat.two_pow_pos D)
  apply add_round up v3 (rest := 2 ^ D - Mb % 2 ^ D) (by omega) (by simp; omega) (fun _ => by omega)
  rw [hi, hj, v1, hn]
  have h1 : (XB + 1) * 2 ^ D ≤ XA * 2 ^ D := Nat.mul_le_mul_right _ (by omega)
  rw [Nat.add_mul, Nat.one_mul] at h1
  rw [← sgn_sub n1 (Nat.mul_le_mul_right _ (show Mb ≤ XA * 2 ^ D by omega))]
  congr 1
  rw [← Nat.sub_mul]
  congr 1
  rw [Nat.sub_sub, Nat.sub_mul, Nat.add_mul, Nat.one_mul]
  omega

theorem dnQ_self {j : Int} (h1 : -I < j) (h2 : j < I) : dnQ (v32 j) 1 = j := by
  apply dnQ_eq (by omega) h2
  intro i i1 i2
  rw [Int.natCast_one, Int.mul_one]; exact v32_le
theorem addD_fin' {i j : Int} (i1 : -I < i) (i2 : i < I) (j1 : -I < j) (j2 : j < I) (up : Bool) :
    (if up then addU i j else addD i j) = if up then upQ (v32 i + v32 j) 1 else dnQ (v32 i + v32 j) 1 := by
  have e1 : addD i j = dnQ (v32 i + v32 j) 1 := by unfold addD; rw [if_neg (by omega), if_neg (by omega)]
  have e2 : addU i j = upQ (v32 i + v32 j) 1 := by
    unfold addU addD upQ; rw [if_neg (by omega), if_neg (by omega), v32_neg, v32_neg]
    congr 2; omega
  rw [e1, e2]
theorem add_zero_l {j : Int} (j1 : -I < j) (j2 : j < I) (up : Bool) : (if up then addU 0 j else addD 0 j) = j := by
  have hI := I_pos
  rw [addD_fin' (by omega) hI j1 j2, v32_zero, Int.zero_add, dnQ_self j1 j2]
  unfold upQ
  rw [← v32_neg, dnQ_self (by omega) (by omega)]; cases up <;> simp
theorem add_zero_r {i : Int} (i1 : -I < i) (i2 : i < I) (up : Bool) : (if up then addU i 0 else addD i 0) = i := by
  have hI := I_pos
  rw [addD_fin' i1 i2 (by omega) hI, v32_zero, Int.add_zero, dnQ_self i1 i2]
  unfold upQ
  rw [← v32_neg, dnQ_self (by omega) (by omega)]; cases up <;> simp
theorem add_inf_l {n : Bool} {j : Int} (j1 : -I ≤ j) (j2 : j ≤ I) (h : j ≠ sgn (!n) I32) (up : Bool) : (if up then addU (sgn n I32) j else addD (sgn n I32) j) = sgn n I32 := by
  have hI := I_pos
  have e : ∀ m : Bool, sgn m I32 = if m then -I else I := by intro m; rw [I_nat]; cases m <;> simp [sgn]
  rw [e] at h ⊢
  cases n
  · simp only [Bool.not_false, Bool.false_eq_true, if_false, if_true] at h ⊢
    have e1 : addD I j = I := by unfold addD; rw [if_neg (by omega), if_pos (by omega)]
    have e2 : addU I j = I := by unfold addU addD; rw [if_pos (by omega)]; omega
    cases up <;> simp [e1, e2]
  · simp only [Bool.not_true, Bool.false_eq_true, if_false, if_true] at h ⊢
    have e1 : addD (-I) j = -I := by unfold addD; rw [if_pos (by omega)]
    have e2 : addU (-I) j = -I := by unfold addU addD; rw [if_neg (by omega), if_pos (by omega)]
    cases up <;> simp [e1, e2]
theorem add_inf_r {n : Bool} {i : Int} (i1 : -I ≤ i) (i2 : i ≤ I) (h : i ≠ sgn (!n) I32) (up : Bool) : (if up then addU i (sgn n I32) else addD i (sgn n I32)) = sgn n I32 := by
  have hI := I_pos
  have e : ∀ m : Bool, sgn m I32 = if m then -I else I := by intro m; rw [I_nat]; cases m <;> simp [sgn]
  rw [e] at h ⊢
  cases n
  · simp only [Bool.not_false, Bool.false_eq_true, if_false, if_true] at h ⊢
    have e1 : addD i I = I := by unfold addD; rw [if_neg (by omega), if_pos (by omega)]
    have e2 : addU i I = I := by unfold addU addD; rw [if_pos (by omega)]; omega
    cases up <;> simp [e1, e2]
  · simp only [Bool.not_true, Bool.false_eq_true, if_false, if_true] at h ⊢
    have e1 : addD i (-I) = -I := by unfold addD; rw [if_pos (by omega)]
    have e2 : addU i (-I) = -I := by unfold addU addD; rw [if_neg (by omega), if_pos (by omega)]
    cases up <;> simp [e1, e2]
/-- One more bit is taken away. -/
theorem shift_more (M s : Nat) (mo : Bool) (h : mo = decide (M % 2 ^ s ≠ 0)) : (mo || decide ((M / 2 ^ s) % 2 ≠ 0)) = decide (M % 2 ^ (s + 1) ≠ 0) := by
  rw [h]
  have e := Nat.mod_pow_succ (b := 2) (x := M) (k := s)
  rw [e, Bool.eq_iff_iff]
  have hp := Nat.two_pow_pos s
  simp only [Bool.or_eq_true, decide_eq_true_eq, ne_eq]
  have h2 : M / 2 ^ s % 2 = 0 ∨ M / 2 ^ s % 2 = 1 := by omega
  rcases h2 with h2 | h2 <;> rw [h2] <;> simp <;> omega
theorem shift_div (M s : Nat) : M / 2 ^ s / 2 = M / 2 ^ (s + 1) := by rw [Nat.div_div_eq_div_mul, Nat.pow_succ]
theorem shift_done {M s D : Nat} (h0 : 0 < M) (h : M / 2 ^ (s + 1) = 0) (hs : s + 1 ≤ D) : M / 2 ^ D = 0 ∧ decide (M % 2 ^ (s + 1) ≠ 0) = decide (M % 2 ^ D ≠ 0) := by
  have h1 : M < 2 ^ (s + 1) := by
    rcases Nat.div_eq_zero_iff.1 h with h | h
    · have := Nat.two_pow_pos (s + 1); omega
    · exact h
  have h2 : 2 ^ (s + 1) ≤ 2 ^ D := Nat.pow_le_pow_right (by omega) hs
  refine ⟨Nat.div_eq_of_lt (by omega), ?_⟩
  rw [Nat.mod_eq_of_lt h1, Nat.mod_eq_of_lt (by omega)]
end Hedge
