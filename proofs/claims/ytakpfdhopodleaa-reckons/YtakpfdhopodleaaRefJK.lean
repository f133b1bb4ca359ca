import Derived.Test.YtakpfdhopodleaaRefG
namespace Hedge
open Ieee
set_option linter.unusedSimpArgs false
set_option linter.unusedVariables false
theorem pow_cmp {A B p q : Nat} (A1 : 8388608 ≤ A) (A2 : A < 16777216) (B1 : 8388608 ≤ B) (B2 : B < 16777216) :
    A * 2 ^ p < B * 2 ^ q ↔ (p < q ∨ (p = q ∧ A < B)) := by
  have hp := Nat.two_pow_pos p
  have hq := Nat.two_pow_pos q
  rcases Nat.lt_trichotomy p q with h | h | h
  · have : 2 ^ q = 2 ^ (q - p - 1) * 2 * 2 ^ p := by rw [← Nat.pow_succ, ← Nat.pow_add]; congr 1; omega
    have h1 : A * 2 ^ p < 16777216 * 2 ^ p := Nat.mul_lt_mul_of_pos_right A2 hp
    have h2 : 16777216 * 2 ^ p ≤ B * 2 ^ q := by
      rw [this, ← Nat.mul_assoc]
      apply Nat.mul_le_mul_right
      have h3 := Nat.two_pow_pos (q - p - 1)
      have h4 : B * 1 ≤ B * 2 ^ (q - p - 1) := Nat.mul_le_mul_left _ h3
      rw [← Nat.mul_assoc]; omega
    constructor
    · intro _; exact Or.inl h
    · intro _; omega
  · subst h
    rw [Nat.mul_lt_mul_right hp]
    omega
  · have : 2 ^ p = 2 ^ (p - q - 1) * 2 * 2 ^ q := by rw [← Nat.pow_succ, ← Nat.pow_add]; congr 1; omega
    have h1 : B * 2 ^ q < 16777216 * 2 ^ q := Nat.mul_lt_mul_of_pos_right B2 hq
    have h2 : 16777216 * 2 ^ q ≤ A * 2 ^ p := by
      rw [this, ← Nat.mul_assoc]
      apply Nat.mul_le_mul_right
      have h3 := Nat.two_pow_pos (p - q - 1)
      have h4 : A * 1 ≤ A * 2 ^ (p - q - 1) := Nat.mul_le_mul_left _ h3
      rw [← Nat.mul_assoc]; omega
    constructor
    · intro _; omega
    · intro _; omega
theorem full_cmp {M1 M2 A B c d : Nat} {E1 E2 EA EB : Int} (a1 : M1 < 16777216) (a2 : 8388608 ≤ M1 ∨ E1 = -149) (a3 : -149 ≤ E1)
    (b1 : M2 < 16777216) (b2 : 8388608 ≤ M2 ∨ E2 = -149) (b3 : -149 ≤ E2)
    (A1 : 8388608 ≤ A) (A2 : A < 16777216) (B1 : 8388608 ≤ B) (B2 : B < 16777216) (hA : A = M1 * 2 ^ c) (hB : B = M2 * 2 ^ d) (hEA : EA = E1 - c) (hEB : EB = E2 - d) (hc : c ≤ 23) (hd : d ≤ 23) :
    (EA < EB ∨ (EA = EB ∧ A < B)) ↔ rungOf M1 E1 < rungOf M2 E2 := by
  rw [← val_lt_iff (r := rungOf M1 E1) _ hB32, val_rungOf (by omega) a2, val_rungOf (by omega) b2]
  have hP := Nat.two_pow_pos 23
  have e1 : M1 * 2 ^ (E1 + 149).toNat * 2 ^ 23 = A * 2 ^ (EA + 172).toNat := by
    rw [hA, Nat.mul_assoc, Nat.mul_assoc, ← Nat.pow_add, ← Nat.pow_add]; congr 2; omega
  have e2 : M2 * 2 ^ (E2 + 149).toNat * 2 ^ 23 = B * 2 ^ (EB + 172).toNat := by
    rw [hB, Nat.mul_assoc, Nat.mul_assoc, ← Nat.pow_add, ← Nat.pow_add]; congr 2; omega
  have h3 := Nat.mul_lt_mul_right (b := M1 * 2 ^ (E1 + 149).toNat) (c := M2 * 2 ^ (E2 + 149).toNat) hP
  rw [← h3, e1, e2, pow_cmp A1 A2 B1 B2]
  omega
end Hedge
namespace Go.Proofs.Ytakpfdhopodleaa
open Go.ChangeShapes Go.WideShapes Go.ChangeAt Go.RowKit Hedge
set_option linter.unusedSimpArgs false
set_option linter.unusedVariables false
set_option linter.unnecessarySimpa false

/-- Four cells of a block that can be written. -/
structure N4 (W : World) (b o0 o1 o2 o3 : Nat) (x0 x1 x2 x3 : Value) : Prop where
  k0 : W.cell? ⟨b, o0, none⟩ = some x0
  k1 : W.cell? ⟨b, o1, none⟩ = some x1
  k2 : W.cell? ⟨b, o2, none⟩ = some x2
  k3 : W.cell? ⟨b, o3, none⟩ = some x3
  f0 : W.frozen? ⟨b, o0, none⟩ = false
  f1 : W.frozen? ⟨b, o1, none⟩ = false
  f2 : W.frozen? ⟨b, o2, none⟩ = false
  f3 : W.frozen? ⟨b, o3, none⟩ = false
  sz : b < W.heap.size
theorem N4.init (W : World) (x0 x1 x2 x3 : Value) (T : TypeId) : N4 (W.alloc (.cells #[x0, x1, x2, x3] T)) W.heap.size 0 1 2 3 x0 x1 x2 x3 :=
  ⟨by simp [go_sem], by simp [go_sem], by simp [go_sem], by simp [go_sem], by simp [go_sem], by simp [go_sem], by simp [go_sem], by simp [go_sem], by simp⟩
theorem N4.init8 (W : World) (x0 x1 x2 x3 y0 y1 y2 y3 : Value) (T : TypeId) : N4 (W.alloc (.cells #[x0, x1, x2, x3, y0, y1, y2, y3] T)) W.heap.size 0 1 2 3 x0 x1 x2 x3 :=
  ⟨by simp [go_sem], by simp [go_sem], by simp [go_sem], by simp [go_sem], by simp [go_sem], by simp [go_sem], by simp [go_sem], by simp [go_sem], by simp⟩
theorem N4.init8' (W : World) (x0 x1 x2 x3 y0 y1 y2 y3 : Value) (T : TypeId) : N4 (W.alloc (.cells #[x0, x1, x2, x3, y0, y1, y2, y3] T)) W.heap.size 4 5 6 7 y0 y1 y2 y3 :=
  ⟨by simp [go_sem], by simp [go_sem], by simp [go_sem], by simp [go_sem], by simp [go_sem], by simp [go_sem], by simp [go_sem], by simp [go_sem], by simp⟩
theorem N4.step {W W' : World} {b o0 o1 o2 o3 : Nat} {x0 x1 x2 x3 : Value} (h : N4 W b o0 o1 o2 o3 x0 x1 x2 x3) (hb : Below W.heap.size W W') : N4 W' b o0 o1 o2 o3 x0 x1 x2 x3 := by
  have hz := hb.size
  obtain ⟨k0, k1, k2, k3, f0, f1, f2, f3, sz⟩ := h
  refine ⟨?_, ?_, ?_, ?_, ?_, ?_, ?_, ?_, by omega⟩
  · rw [hb.cell (by exact sz)]; exact k0
  · rw [hb.cell (by exact sz)]; exact k1
  · rw [hb.cell (by exact sz)]; exact k2
  · rw [hb.cell (by exact sz)]; exact k3
  · rw [hb.frozen (by exact sz)]; exact f0
  · rw [hb.frozen (by exact sz)]; exact f1
  · rw [hb.frozen (by exact sz)]; exact f2
  · rw [hb.frozen (by exact sz)]; exact f3
theorem N4.other {W : World} {b o0 o1 o2 o3 : Nat} {x0 x1 x2 x3 : Value} (h : N4 W b o0 o1 o2 o3 x0 x1 x2 x3) (b' o' : Nat) (v : Value) (hne : b' ≠ b ∨ (o' ≠ o0 ∧ o' ≠ o1 ∧ o' ≠ o2 ∧ o' ≠ o3)) :
    N4 (W.setCell ⟨b', o', none⟩ v) b o0 o1 o2 o3 x0 x1 x2 x3 := by
  obtain ⟨k0, k1, k2, k3, f0, f1, f2, f3, sz⟩ := h
  refine ⟨?_, ?_, ?_, ?_, by simpa using f0, by simpa using f1, by simpa using f2, by simpa using f3, by rw [size_set]; exact sz⟩
  · rw [set_other (by simp; omega)]; exact k0
  · rw [set_other (by simp; omega)]; exact k1
  · rw [set_other (by simp; omega)]; exact k2
  · rw [set_other (by simp; omega)]; exact k3
theorem N4.others {W : World} {b o0 o1 o2 o3 : Nat} {x0 x1 x2 x3 : Value} (h : N4 W b o0 o1 o2 o3 x0 x1 x2 x3) (b' p0 p1 p2 p3 : Nat) (y0 y1 y2 y3 : Value) (hne : b' ≠ b ∨ (o0 < p0 ∧ o1 < p0 ∧ o2 < p0 ∧ o3 < p0 ∧ p0 < p1 ∧ p1 < p2 ∧ p2 < p3) ∨ (p0 < p1 ∧ p1 < p2 ∧ p2 < p3 ∧ p3 < o0 ∧ p3 < o1 ∧ p3 < o2 ∧ p3 < o3)) :
    N4 ((((W.setCell ⟨b', p0, none⟩ y0).setCell ⟨b', p1, none⟩ y1).setCell ⟨b', p2, none⟩ y2).setCell ⟨b', p3, none⟩ y3) b o0 o1 o2 o3 x0 x1 x2 x3 :=
  (((h.other b' p0 y0 (by omega)).other b' p1 y1 (by omega)).other b' p2 y2 (by omega)).other b' p3 y3 (by omega)
theorem N4.put {W : World} {b o0 o1 o2 o3 : Nat} {x0 x1 x2 x3 : Value} (h : N4 W b o0 o1 o2 o3 x0 x1 x2 x3) (hd : o0 < o1 ∧ o1 < o2 ∧ o2 < o3) (y0 y1 y2 y3 : Value) :
    N4 ((((W.setCell ⟨b, o0, none⟩ y0).setCell ⟨b, o1, none⟩ y1).setCell ⟨b, o2, none⟩ y2).setCell ⟨b, o3, none⟩ y3) b o0 o1 o2 o3 y0 y1 y2 y3 := by
  obtain ⟨k0, k1, k2, k3, f0, f1, f2, f3, sz⟩ := h
  refine ⟨?_, ?_, ?_, ?_, by simpa using f0, by simpa using f1, by simpa using f2, by simpa using f3, by simp only [size_set]; exact sz⟩
  · rw [set_other (by simp <;> omega), set_other (by simp <;> omega), set_other (by simp <;> omega)]; exact set_same k0
  · rw [set_other (by simp <;> omega), set_other (by simp <;> omega)]; exact set_same (by rw [set_other (by simp <;> omega)]; exact k1)
  · rw [set_other (by simp <;> omega)]; exact set_same (by rw [set_other (by simp <;> omega), set_other (by simp <;> omega)]; exact k2)
  · exact set_same (by rw [set_other (by simp <;> omega), set_other (by simp <;> omega), set_other (by simp <;> omega)]; exact k3)
theorem below_put {w W : World} {n b : Nat} (h : Below n w W) (hb : n ≤ b) (p0 p1 p2 p3 : Nat) (y0 y1 y2 y3 : Value) :
    Below n w ((((W.setCell ⟨b, p0, none⟩ y0).setCell ⟨b, p1, none⟩ y1).setCell ⟨b, p2, none⟩ y2).setCell ⟨b, p3, none⟩ y3) :=
  (((h.setCell (p := ⟨b, p0, none⟩) hb _).setCell (p := ⟨b, p1, none⟩) hb _).setCell (p := ⟨b, p2, none⟩) hb _).setCell (p := ⟨b, p3, none⟩) hb _

def sg (k : Int) : Int := if k < 0 then -1 else if k = 0 then 0 else 1
/-- A number that is not 0, as cells. -/
structure Nz (neg : Bool) (M : Nat) (E : Int) (inf : Bool) (k : Int) : Prop where
  is : numV k = .agg #[.bool neg, .int .i64 M, .int .i64 E, .bool inf]
  lo : -I ≤ k
  hi : k ≤ I
  sgk : k < 0 ↔ neg = true
  nz : k ≠ 0
  ifI : inf = true → k = sgn neg I32
  ifF : inf = false → k = sgn neg (rungOf M E) ∧ 0 < M ∧ M < 16777216 ∧ (8388608 ≤ M ∨ E = -149) ∧ -149 ≤ E ∧ E ≤ 104
theorem nz_of {k : Int} (h1 : -I ≤ k) (h2 : k ≤ I) (h : k ≠ 0) : ∃ neg M E inf, Nz neg M E inf k := by
  rcases num_cases h1 h2 with rfl | ⟨neg, rfl⟩ | ⟨neg, M, E, rfl, m0, m1, m2, e1, e2⟩
  · exact absurd rfl h
  · refine ⟨neg, 0, 0, true, numV_inf neg, h1, h2, ?_, h, fun _ => rfl, by simp⟩
    have hI0 : 0 < I32 := by decide
    have := sgn_lt_zero neg hI0
    cases neg <;> simpa using this
  · refine ⟨neg, M, E, false, numV_fin neg m0 m1 m2 e1 e2, h1, h2, ?_, h, by simp, fun _ => ⟨rfl, m0, m1, m2, e1, e2⟩⟩
    have hr : 0 < rungOf M E := by unfold rungOf; omega
    have := sgn_lt_zero neg hr
    cases neg <;> simpa using this

theorem sign_nz {neg inf : Bool} {M : Nat} {E k : Int} (h : Nz neg M E inf k) (w : World) :
    Calls Try.prog 57 #[.agg #[.bool neg, .int .i64 M, .int .i64 E, .bool inf]] w fun e w' => e = .returned (.int .i64 (if neg then -1 else 1)) ∧ Below w.heap.size w w' := by
  have c := sign_calls h.lo h.hi w
  rw [h.is] at c
  refine c.mono ?_
  rintro e w' ⟨rfl, hb⟩
  refine ⟨?_, hb⟩
  have h1 := h.sgk
  have h2 := h.nz
  cases neg
  · have : ¬ k < 0 := by simpa using h1
    simp [this, h2]
  · have : k < 0 := by simpa using h1
    simp [this]
theorem neg_nz {neg inf : Bool} {M : Nat} {E k : Int} (h : Nz neg M E inf k) (w : World) :
    Calls Try.prog 68 #[.agg #[.bool neg, .int .i64 M, .int .i64 E, .bool inf]] w fun e w' => e = .returned (.agg #[.bool (!neg), .int .i64 M, .int .i64 E, .bool inf]) ∧ Below w.heap.size w w' := by
  have c := neg_numV h.lo h.hi w
  rw [h.is] at c
  refine c.mono ?_
  rintro e w' ⟨rfl, hb⟩
  refine ⟨?_, hb⟩
  have en : ∀ (b : Bool) (n : Nat), -(sgn b n) = sgn (!b) n := by intro b n; cases b <;> simp [sgn]
  cases inf
  · obtain ⟨e, m0, m1, m2, e1, e2⟩ := h.ifF rfl
    rw [e, en, numV_fin _ m0 m1 m2 e1 e2]
  · have e := h.ifI rfl
    have i := h.is
    rw [e, numV_inf] at i
    simp at i
    rw [e, en, numV_inf]
    simp [← i.1, ← i.2]
end Go.Proofs.Ytakpfdhopodleaa
namespace Go.Proofs.Ytakpfdhopodleaa
open Go.ChangeShapes Go.WideShapes Go.ChangeAt Go.RowKit Hedge
set_option linter.unusedSimpArgs false
set_option linter.unusedVariables false
set_option linter.unnecessarySimpa false

theorem below_diff {i j : Int} (i1 : -I ≤ i) (i2 : i ≤ I) (j1 : -I ≤ j) (j2 : j ≤ I) (hs : sg i ≠ sg j) (w : World) :
    Calls Try.prog 66 #[numV i, numV j] w fun e w' => e = .returned (.bool (decide (i < j))) ∧ Below w.heap.size w w' := by
  have hr : decide (i < j) = decide (sg i < sg j) := by
    unfold sg at *
    by_cases h1 : i < 0 <;> by_cases h2 : j < 0 <;> by_cases h3 : i = 0 <;> by_cases h4 : j = 0 <;> simp [h1, h2, h3, h4] at hs ⊢ <;> omega
  rw [hr]
  have C1 := fun w => sign_calls (k := i) i1 i2 w
  have C2 := fun w => sign_calls (k := j) j1 j2 w
  change ∀ w, Calls Try.prog 57 #[numV i] w fun e w' => e = .returned (.int .i64 (sg i)) ∧ Below w.heap.size w w' at C1
  change ∀ w, Calls Try.prog 57 #[numV j] w fun e w' => e = .returned (.int .i64 (sg j)) ∧ Below w.heap.size w w' at C2
  unfold numV at C1 C2 ⊢
  generalize decide (i < 0) = a0 at *
  generalize nM i = a1 at *
  generalize nE i = a2 at *
  generalize nI i = a3 at *
  generalize decide (j < 0) = b0 at *
  generalize nM j = b1 at *
  generalize nE j = b2 at *
  generalize nI j = b3 at *
  generalize sg i = x at *
  generalize sg j = y at *
  clear i1 i2 j1 j2 hr
  have D1 : Hid _ := C1
  have D2 : Hid _ := C2
  clear C1 C2
  have N := (N4.init (w.alloc (.cells #[.bool a0, .int .i64 a1, .int .i64 a2, .bool a3] 53)) (.bool b0) (.int .i64 b1) (.int .i64 b2) (.bool b3) 53)
  simp only [World.size_alloc] at N
  have B := below2 w (.cells #[.bool a0, .int .i64 a1, .int .i64 a2, .bool a3] 53) (.cells #[.bool b0, .int .i64 b1, .int .i64 b2, .bool b3] 53)
  have hx : (x == y) = false := by rw [beq_eq_false_iff_ne]; exact hs
  go_enter Try.func66, Try.ntmps66
  go_wp2_with fail
  refine (D1.out _).mono ?_
  rintro e w1 ⟨rfl, hw1⟩
  have N1 := N.step hw1
  have B1 := B.trans (hw1.mono B.size)
  clear N B hw1
  obtain ⟨k0, k1, k2, k3, f0, f1, f2, f3, sz⟩ := N1
  go_wp2_with fail
  refine (D2.out _).mono ?_
  rintro e w2 ⟨rfl, hw2⟩
  have B2 := B1.trans (hw2.mono B1.size)
  clear B1 hw2
  go_wp2_with fail
  go_ret
  exact ⟨rfl, B2⟩

theorem below_00 (w : World) : Calls Try.prog 66 #[numV 0, numV 0] w fun e w' => e = .returned (.bool false) ∧ Below w.heap.size w w' := by
  have C1 := fun w => sign_calls (k := 0) (by decide) (by decide) w
  rw [numV_zero] at C1 ⊢
  have D1 : Hid _ := C1
  clear C1
  have N := (N4.init (w.alloc (.cells #[.bool false, .int .i64 0, .int .i64 0, .bool false] 53)) (.bool false) (.int .i64 0) (.int .i64 0) (.bool false) 53)
  simp only [World.size_alloc] at N
  have B := below2 w (.cells #[.bool false, .int .i64 0, .int .i64 0, .bool false] 53) (.cells #[.bool false, .int .i64 0, .int .i64 0, .bool false] 53)
  go_enter Try.func66, Try.ntmps66
  go_wp2_with fail
  refine (D1.out _).mono ?_
  rintro e w1 ⟨rfl, hw1⟩
  have N1 := N.step hw1
  have B1 := B.trans (hw1.mono B.size)
  clear N B hw1
  obtain ⟨k0, k1, k2, k3, f0, f1, f2, f3, sz⟩ := N1
  go_wp2_with fail
  refine (D1.out _).mono ?_
  rintro e w2 ⟨rfl, hw2⟩
  have B2 := B1.trans (hw2.mono B1.size)
  clear B1 hw2
  go_wp2_with fail
  go_ret
  exact ⟨rfl, B2⟩

theorem below_inf1 (M1 M2 : Nat) (E1 E2 i j : Int) (f2 : Bool) (hi : Nz false M1 E1 true i) (hj : Nz false M2 E2 f2 j) (w : World) :
    Calls Try.prog 66 #[.agg #[.bool false, .int .i64 M1, .int .i64 E1, .bool true], .agg #[.bool false, .int .i64 M2, .int .i64 E2, .bool f2]] w fun e w' => e = .returned (.bool false) ∧ Below w.heap.size w w' := by
  have D1 : Hid _ := hi
  have D2 : Hid _ := hj
  clear hi hj
  have O := (N4.init w (.bool false) (.int .i64 M1) (.int .i64 E1) (.bool true) 53).step (below_alloc1 _ (.cells #[.bool false, .int .i64 M2, .int .i64 E2, .bool f2] 53))
  have N := (N4.init (w.alloc (.cells #[.bool false, .int .i64 M1, .int .i64 E1, .bool true] 53)) (.bool false) (.int .i64 M2) (.int .i64 E2) (.bool f2) 53)
  simp only [World.size_alloc] at N O
  have B := below2 w (.cells #[.bool false, .int .i64 M1, .int .i64 E1, .bool true] 53) (.cells #[.bool false, .int .i64 M2, .int .i64 E2, .bool f2] 53)
  go_enter Try.func66, Try.ntmps66
  go_wp2_with fail
  refine (sign_nz D1.out _).mono ?_
  rintro e w1 ⟨rfl, hw1⟩
  have N1 := N.step hw1
  have O1 := O.step hw1
  have B1 := B.trans (hw1.mono B.size)
  clear N B hw1 O
  have k0 := N1.k0
  have k1 := N1.k1
  have k2 := N1.k2
  have k3 := N1.k3
  go_wp2_with fail
  refine (sign_nz D2.out _).mono ?_
  rintro e w2 ⟨rfl, hw2⟩
  have B2 := B1.trans (hw2.mono B1.size)
  have O2 := O1.step hw2
  clear B1 hw2 O1 N1
  have l3 := O2.k3
  go_wp2_with fail
  go_ret
  exact ⟨rfl, B2⟩

theorem below_inf2 (M1 M2 : Nat) (E1 E2 i j : Int) (hi : Nz false M1 E1 false i) (hj : Nz false M2 E2 true j) (w : World) :
    Calls Try.prog 66 #[.agg #[.bool false, .int .i64 M1, .int .i64 E1, .bool false], .agg #[.bool false, .int .i64 M2, .int .i64 E2, .bool true]] w fun e w' => e = .returned (.bool true) ∧ Below w.heap.size w w' := by
  have D1 : Hid _ := hi
  have D2 : Hid _ := hj
  clear hi hj
  have O := (N4.init w (.bool false) (.int .i64 M1) (.int .i64 E1) (.bool false) 53).step (below_alloc1 _ (.cells #[.bool false, .int .i64 M2, .int .i64 E2, .bool true] 53))
  have N := (N4.init (w.alloc (.cells #[.bool false, .int .i64 M1, .int .i64 E1, .bool false] 53)) (.bool false) (.int .i64 M2) (.int .i64 E2) (.bool true) 53)
  simp only [World.size_alloc] at N O
  have B := below2 w (.cells #[.bool false, .int .i64 M1, .int .i64 E1, .bool false] 53) (.cells #[.bool false, .int .i64 M2, .int .i64 E2, .bool true] 53)
  go_enter Try.func66, Try.ntmps66
  go_wp2_with fail
  refine (sign_nz D1.out _).mono ?_
  rintro e w1 ⟨rfl, hw1⟩
  have N1 := N.step hw1
  have O1 := O.step hw1
  have B1 := B.trans (hw1.mono B.size)
  clear N B hw1 O
  have k0 := N1.k0
  have k1 := N1.k1
  have k2 := N1.k2
  have k3 := N1.k3
  go_wp2_with fail
  refine (sign_nz D2.out _).mono ?_
  rintro e w2 ⟨rfl, hw2⟩
  have B2 := B1.trans (hw2.mono B1.size)
  have O2 := O1.step hw2
  have N2 := N1.step hw2
  clear B1 hw2 O1 N1 k0 k1 k2 k3
  have l3 := O2.k3
  have k3 := N2.k3
  go_wp2_with fail
  go_ret
  exact ⟨rfl, B2⟩

theorem below_fin (M1 M2 : Nat) (E1 E2 i j : Int) (hi : Nz false M1 E1 false i) (hj : Nz false M2 E2 false j) (w : World) :
    Calls Try.prog 66 #[.agg #[.bool false, .int .i64 M1, .int .i64 E1, .bool false], .agg #[.bool false, .int .i64 M2, .int .i64 E2, .bool false]] w fun e w' => e = .returned (.bool (decide (rungOf M1 E1 < rungOf M2 E2))) ∧ Below w.heap.size w w' := by
  have D1 : Hid _ := hi
  have D2 : Hid _ := hj
  clear hi hj
  obtain ⟨rr, hrr⟩ : ∃ rr, rr = decide (rungOf M1 E1 < rungOf M2 E2) := ⟨_, rfl⟩
  rw [← hrr]
  have HRR : Hid (rr = decide (rungOf M1 E1 < rungOf M2 E2)) := hrr
  clear hrr
  have O := (N4.init w (.bool false) (.int .i64 M1) (.int .i64 E1) (.bool false) 53).step (below_alloc1 _ (.cells #[.bool false, .int .i64 M2, .int .i64 E2, .bool false] 53))
  have N := (N4.init (w.alloc (.cells #[.bool false, .int .i64 M1, .int .i64 E1, .bool false] 53)) (.bool false) (.int .i64 M2) (.int .i64 E2) (.bool false) 53)
  simp only [World.size_alloc] at N O
  have B := below2 w (.cells #[.bool false, .int .i64 M1, .int .i64 E1, .bool false] 53) (.cells #[.bool false, .int .i64 M2, .int .i64 E2, .bool false] 53)
  go_enter Try.func66, Try.ntmps66
  go_wp2_with fail
  refine (sign_nz D1.out _).mono ?_
  rintro e w1 ⟨rfl, hw1⟩
  have N1 := N.step hw1
  have O1 := O.step hw1
  have B1 := B.trans (hw1.mono B.size)
  clear N B hw1 O
  have k0 := N1.k0
  have k1 := N1.k1
  have k2 := N1.k2
  have k3 := N1.k3
  go_wp2_with fail
  refine (sign_nz D2.out _).mono ?_
  rintro e w2 ⟨rfl, hw2⟩
  have B2 := B1.trans (hw2.mono B1.size)
  have O2 := O1.step hw2
  have N2 := N1.step hw2
  clear B1 hw2 O1 N1 k0 k1 k2 k3
  obtain ⟨l0, l1, l2, l3, g0, g1, g2, g3, z⟩ := O2
  have k3 := N2.k3
  go_wp2_with fail
  obtain ⟨-, a0, a1, a2, a3, a4⟩ := D1.out.ifF rfl
  refine (full_calls false M1 E1 _ a0 a1 (by omega) (by omega)).mono ?_
  clear a0 a1 a2 a3 a4
  rintro e w3 ⟨A, EA, rfl, A1, A2, ⟨c, hA, hEA, hc⟩, hw3⟩
  have HA : Hid (8388608 ≤ A ∧ A < 16777216 ∧ A = M1 * 2 ^ c ∧ EA = E1 - c ∧ c ≤ 23) := ⟨A1, A2, hA, hEA, hc⟩
  clear A1 A2 hA hEA hc
  have O3 := N4.step (W := w2) ⟨l0, l1, l2, l3, g0, g1, g2, g3, z⟩ hw3
  have N3 := N2.step hw3
  have B3 := B2.trans (hw3.mono B2.size)
  clear B2 hw3 N2 k3 l0 l1 l2 l3 g0 g1 g2 g3 z
  have N4' := N3.others w.heap.size 0 1 2 3 (.bool false) (.int .i64 A) (.int .i64 EA) (.bool false) (by omega)
  have O4 := O3.put (by omega) (.bool false) (.int .i64 A) (.int .i64 EA) (.bool false)
  have B4 := below_put (b := w.heap.size) B3 (Nat.le_refl _) 0 1 2 3 (.bool false) (.int .i64 A) (.int .i64 EA) (.bool false)
  obtain ⟨l0, l1, l2, l3, g0, g1, g2, g3, z⟩ := O3
  obtain ⟨k0, k1, k2, k3, f0, f1, f2, f3, z'⟩ := N3
  go_wp2_with fail
  obtain ⟨-, a0, a1, a2, a3, a4⟩ := D2.out.ifF rfl
  refine (full_calls false M2 E2 _ a0 a1 (by omega) (by omega)).mono ?_
  clear a0 a1 a2 a3 a4
  rintro e w4 ⟨C, EB, rfl, A1, A2, ⟨d, hA, hEA, hc⟩, hw4⟩
  have HB : Hid (8388608 ≤ C ∧ C < 16777216 ∧ C = M2 * 2 ^ d ∧ EB = E2 - d ∧ d ≤ 23) := ⟨A1, A2, hA, hEA, hc⟩
  clear A1 A2 hA hEA hc l0 l1 l2 l3 g0 g1 g2 g3 z k0 k1 k2 k3 f0 f1 f2 f3 z' B3
  have O5 := O4.step hw4
  have N5 := N4'.step hw4
  have B5 := B4.trans (hw4.mono B4.size)
  clear O4 N4' B4 hw4
  obtain ⟨l0, l1, l2, l3, g0, g1, g2, g3, z⟩ := O5
  obtain ⟨k0, k1, k2, k3, f0, f1, f2, f3, z'⟩ := N5
  have B6 := below_put (b := w.heap.size + 1) B5 (by omega) 0 1 2 3 (.bool false) (.int .i64 C) (.int .i64 EB) (.bool false)
  have HC : Hid ((EA < EB ∨ (EA = EB ∧ A < C)) ↔ rungOf M1 E1 < rungOf M2 E2) := by
    obtain ⟨-, a0, a1, a2, a3, a4⟩ := D1.out.ifF rfl
    obtain ⟨-, b0, b1, b2, b3, b4⟩ := D2.out.ifF rfl
    have p := HA.out
    have q := HB.out
    exact full_cmp a1 a2 a3 b1 b2 b3 p.1 p.2.1 q.1 q.2.1 p.2.2.1 q.2.2.1 p.2.2.2.1 q.2.2.2.1 p.2.2.2.2 q.2.2.2.2
  clear B5
  by_cases h1 : EA < EB
  · go_wp2_with fail
    go_ret
    refine ⟨?_, B6⟩
    have := HC.out
    rw [HRR.out]; simp [← this, h1]
  · by_cases h2 : EA = EB
    · subst h2
      obtain ⟨cc, hcc⟩ : ∃ cc, cc = decide ((A : Int) < (C : Int)) := ⟨_, rfl⟩
      go_wp2_with fail
      go_ret
      refine ⟨?_, B6⟩
      have := HC.out
      rw [HRR.out]; simp [← this]
    · go_wp2_with fail
      go_ret
      refine ⟨?_, B6⟩
      have := HC.out
      rw [HRR.out]; simp [← this, h1, h2]
end Go.Proofs.Ytakpfdhopodleaa
