import Derived.Test.YtakpfdhopodleaaRefW
namespace Go.Proofs.Ytakpfdhopodleaa
open Go.ChangeShapes Go.WideShapes Go.ChangeAt Go.RowKit Hedge
set_option linter.unusedSimpArgs false
set_option linter.unusedVariables false
set_option linter.unnecessarySimpa false

/-- The frame of Div: two pairs, the answer, two lists, which lie behind a call. -/
structure D5 (ab : Nat) (w W : World) (x0 x1 x2 x3 y0 y1 y2 y3 p0 p1 p2 p3 q0 q1 q2 q3 : Value) : Prop where
  X : V8 W w.heap.size x0 x1 x2 x3 y0 y1 y2 y3
  Y : V8 W (w.heap.size + 1) p0 p1 p2 p3 q0 q1 q2 q3
  R : V8 W (w.heap.size + 1 + 1) (.bool false) (.int .i64 0) (.int .i64 0) (.bool false) (.bool false) (.int .i64 0) (.int .i64 0) (.bool false)
  A : V8 W ab x0 x1 x2 x3 y0 y1 y2 y3
  C : V8 W (ab + 1) p0 p1 p2 p3 q0 q1 q2 q3
  B : Below w.heap.size w W
  lt : w.heap.size + 1 + 1 < ab
theorem D5.step {ab : Nat} {w W W' : World} {x0 x1 x2 x3 y0 y1 y2 y3 p0 p1 p2 p3 q0 q1 q2 q3 : Value} (h : D5 ab w W x0 x1 x2 x3 y0 y1 y2 y3 p0 p1 p2 p3 q0 q1 q2 q3) (hb : Below W.heap.size W W') : D5 ab w W' x0 x1 x2 x3 y0 y1 y2 y3 p0 p1 p2 p3 q0 q1 q2 q3 :=
  ⟨h.X.step hb, h.Y.step hb, h.R.step hb, h.A.step hb, h.C.step hb, h.B.trans (hb.mono h.B.size), h.lt⟩
theorem D5.put {ab : Nat} {w W : World} {x0 x1 x2 x3 y0 y1 y2 y3 p0 p1 p2 p3 q0 q1 q2 q3 : Value} (h : D5 ab w W x0 x1 x2 x3 y0 y1 y2 y3 p0 p1 p2 p3 q0 q1 q2 q3) {b' : Nat} (hb : ab + 1 < b') (z0 z1 z2 z3 u0 u1 u2 u3 : Value) :
    D5 ab w (put8 W b' z0 z1 z2 z3 u0 u1 u2 u3) x0 x1 x2 x3 y0 y1 y2 y3 p0 p1 p2 p3 q0 q1 q2 q3 :=
  have hl := h.lt
  ⟨h.X.others (by omega) _ _ _ _ _ _ _ _, h.Y.others (by omega) _ _ _ _ _ _ _ _, h.R.others (by omega) _ _ _ _ _ _ _ _, h.A.others (by omega) _ _ _ _ _ _ _ _, h.C.others (by omega) _ _ _ _ _ _ _ _, below_put8 h.B (by omega) _ _ _ _ _ _ _ _, hl⟩
theorem D5.put4 {ab : Nat} {w W : World} {x0 x1 x2 x3 y0 y1 y2 y3 p0 p1 p2 p3 q0 q1 q2 q3 : Value} (h : D5 ab w W x0 x1 x2 x3 y0 y1 y2 y3 p0 p1 p2 p3 q0 q1 q2 q3) {b' : Nat} (hb : ab + 1 < b') (p0' p1' p2' p3' : Nat) (z0 z1 z2 z3 : Value) :
    D5 ab w ((((W.setCell ⟨b', p0', none⟩ z0).setCell ⟨b', p1', none⟩ z1).setCell ⟨b', p2', none⟩ z2).setCell ⟨b', p3', none⟩ z3) x0 x1 x2 x3 y0 y1 y2 y3 p0 p1 p2 p3 q0 q1 q2 q3 :=
  have hl := h.lt
  have o8 : ∀ {b : Nat} {a0 a1 a2 a3 c0 c1 c2 c3 : Value}, b' ≠ b → V8 W b a0 a1 a2 a3 c0 c1 c2 c3 → V8 ((((W.setCell ⟨b', p0', none⟩ z0).setCell ⟨b', p1', none⟩ z1).setCell ⟨b', p2', none⟩ z2).setCell ⟨b', p3', none⟩ z3) b a0 a1 a2 a3 c0 c1 c2 c3 :=
    fun hne g => (((g.other1 hne p0' z0).other1 hne p1' z1).other1 hne p2' z2).other1 hne p3' z3
  ⟨o8 (by omega) h.X, o8 (by omega) h.Y, o8 (by omega) h.R, o8 (by omega) h.A, o8 (by omega) h.C, below_put h.B (by omega) _ _ _ _ _ _ _ _, hl⟩

set_option maxHeartbeats 8000000 in
theorem Div_calls {a b c d : Int} {m o L H : Nat → Int} (H0 : ∀ w, Calls Try.prog 55 #[pairV c d] w fun e w' => e = .returned (.bool false) ∧ Below w.heap.size w w')
    (M : ∀ k < 4, ∀ w, Calls Try.prog 56 #[numV (if k / 2 = 0 then a else b), numV (if k % 2 = 0 then c else d), .bool false] w fun e w' => e = .returned (numV (m k)) ∧ Below w.heap.size w w')
    (O : ∀ k < 4, ∀ w, Calls Try.prog 56 #[numV (if k / 2 = 0 then a else b), numV (if k % 2 = 0 then c else d), .bool true] w fun e w' => e = .returned (numV (o k)) ∧ Below w.heap.size w w')
    (hL : ∀ k < 4, ∀ w, Calls Try.prog 53 #[numV (L k), numV (m k)] w fun e w' => e = .returned (numV (L (k + 1))) ∧ Below w.heap.size w w')
    (hH : ∀ k < 4, ∀ w, Calls Try.prog 54 #[numV (H k), numV (o k)] w fun e w' => e = .returned (numV (H (k + 1))) ∧ Below w.heap.size w w')
    (hL0 : m 0 = L 0) (hH0 : o 0 = H 0) (w : World) :
    Calls Try.prog 38 #[pairV a b, pairV c d] w fun e w' => e = .returned (.tuple #[pairV (L 4) (H 4), .int .i64 0]) ∧ Below w.heap.size w w' := by
  obtain ⟨x0, x1, x2, x3, y0, y1, y2, y3, hx, hy, hp, -⟩ := pair_open a b
  obtain ⟨p0, p1, p2, p3, q0, q1, q2, q3, hpp, hqq, hq, -⟩ := pair_open c d
  obtain ⟨u0, u1, u2, u3, v0, v1, v2, v3, hu, hv, -⟩ := pair_open (L 0) (H 0)
  have M0 := M 0 (by omega)
  have O0 := O 0 (by omega)
  simp only [hL0, hH0, Nat.zero_div, Nat.zero_mod, if_true] at M0 O0
  rw [hx, hpp, hu] at M0
  rw [hx, hpp, hv] at O0
  rw [hq] at H0
  rw [hp, hq]
  have D0 : Hid _ := H0
  have D1 : Hid _ := M0
  have D2 : Hid _ := O0
  have DM : Hid _ := M
  have DO : Hid _ := O
  have DL : Hid _ := hL
  have DH : Hid _ := hH
  have HX : Hid _ := hx
  have HY : Hid _ := hy
  have HP : Hid _ := hpp
  have HQ : Hid _ := hqq
  have HU : Hid _ := hu
  have HV : Hid _ := hv
  clear M O hL hH hL0 hH0 M0 O0 hx hy hp hpp hqq hq hu hv H0
  have F00 : V8 (((w.alloc (.cells #[.bool x0, .int .i64 x1, .int .i64 x2, .bool x3, .bool y0, .int .i64 y1, .int .i64 y2, .bool y3] 55)).alloc (.cells #[.bool p0, .int .i64 p1, .int .i64 p2, .bool p3, .bool q0, .int .i64 q1, .int .i64 q2, .bool q3] 55)).alloc (.cells #[.bool false, .int .i64 0, .int .i64 0, .bool false, .bool false, .int .i64 0, .int .i64 0, .bool false] 55)) w.heap.size (.bool x0) (.int .i64 x1) (.int .i64 x2) (.bool x3) (.bool y0) (.int .i64 y1) (.int .i64 y2) (.bool y3) ∧ V8 (((w.alloc (.cells #[.bool x0, .int .i64 x1, .int .i64 x2, .bool x3, .bool y0, .int .i64 y1, .int .i64 y2, .bool y3] 55)).alloc (.cells #[.bool p0, .int .i64 p1, .int .i64 p2, .bool p3, .bool q0, .int .i64 q1, .int .i64 q2, .bool q3] 55)).alloc (.cells #[.bool false, .int .i64 0, .int .i64 0, .bool false, .bool false, .int .i64 0, .int .i64 0, .bool false] 55)) (w.heap.size + 1) (.bool p0) (.int .i64 p1) (.int .i64 p2) (.bool p3) (.bool q0) (.int .i64 q1) (.int .i64 q2) (.bool q3) ∧ V8 (((w.alloc (.cells #[.bool x0, .int .i64 x1, .int .i64 x2, .bool x3, .bool y0, .int .i64 y1, .int .i64 y2, .bool y3] 55)).alloc (.cells #[.bool p0, .int .i64 p1, .int .i64 p2, .bool p3, .bool q0, .int .i64 q1, .int .i64 q2, .bool q3] 55)).alloc (.cells #[.bool false, .int .i64 0, .int .i64 0, .bool false, .bool false, .int .i64 0, .int .i64 0, .bool false] 55)) (w.heap.size + 1 + 1) (.bool false) (.int .i64 0) (.int .i64 0) (.bool false) (.bool false) (.int .i64 0) (.int .i64 0) (.bool false) ∧ Below w.heap.size w (((w.alloc (.cells #[.bool x0, .int .i64 x1, .int .i64 x2, .bool x3, .bool y0, .int .i64 y1, .int .i64 y2, .bool y3] 55)).alloc (.cells #[.bool p0, .int .i64 p1, .int .i64 p2, .bool p3, .bool q0, .int .i64 q1, .int .i64 q2, .bool q3] 55)).alloc (.cells #[.bool false, .int .i64 0, .int .i64 0, .bool false, .bool false, .int .i64 0, .int .i64 0, .bool false] 55)) := by
    have hb1 := below_alloc1 (w.alloc (.cells #[.bool x0, .int .i64 x1, .int .i64 x2, .bool x3, .bool y0, .int .i64 y1, .int .i64 y2, .bool y3] 55)) (.cells #[.bool p0, .int .i64 p1, .int .i64 p2, .bool p3, .bool q0, .int .i64 q1, .int .i64 q2, .bool q3] 55)
    have hb2 := below_alloc1 ((w.alloc (.cells #[.bool x0, .int .i64 x1, .int .i64 x2, .bool x3, .bool y0, .int .i64 y1, .int .i64 y2, .bool y3] 55)).alloc (.cells #[.bool p0, .int .i64 p1, .int .i64 p2, .bool p3, .bool q0, .int .i64 q1, .int .i64 q2, .bool q3] 55)) (.cells #[.bool false, .int .i64 0, .int .i64 0, .bool false, .bool false, .int .i64 0, .int .i64 0, .bool false] 55)
    have X0 := ((V8.init w (.bool x0) (.int .i64 x1) (.int .i64 x2) (.bool x3) (.bool y0) (.int .i64 y1) (.int .i64 y2) (.bool y3) 55).step hb1).step hb2
    have Y0 := (V8.init (w.alloc (.cells #[.bool x0, .int .i64 x1, .int .i64 x2, .bool x3, .bool y0, .int .i64 y1, .int .i64 y2, .bool y3] 55)) (.bool p0) (.int .i64 p1) (.int .i64 p2) (.bool p3) (.bool q0) (.int .i64 q1) (.int .i64 q2) (.bool q3) 55).step hb2
    have R0 := V8.init ((w.alloc (.cells #[.bool x0, .int .i64 x1, .int .i64 x2, .bool x3, .bool y0, .int .i64 y1, .int .i64 y2, .bool y3] 55)).alloc (.cells #[.bool p0, .int .i64 p1, .int .i64 p2, .bool p3, .bool q0, .int .i64 q1, .int .i64 q2, .bool q3] 55)) (.bool false) (.int .i64 0) (.int .i64 0) (.bool false) (.bool false) (.int .i64 0) (.int .i64 0) (.bool false) 55
    simp only [World.size_alloc] at X0 Y0 R0
    exact ⟨X0, Y0, R0, below3 w (.cells #[.bool x0, .int .i64 x1, .int .i64 x2, .bool x3, .bool y0, .int .i64 y1, .int .i64 y2, .bool y3] 55) (.cells #[.bool p0, .int .i64 p1, .int .i64 p2, .bool p3, .bool q0, .int .i64 q1, .int .i64 q2, .bool q3] 55) (.cells #[.bool false, .int .i64 0, .int .i64 0, .bool false, .bool false, .int .i64 0, .int .i64 0, .bool false] 55)⟩
  obtain ⟨X0, Y0, R0, B0⟩ := F00
  go_enter Try.func38, Try.ntmps38
  go_wp2_with fail
  generalize ((w.alloc (.cells #[.bool x0, .int .i64 x1, .int .i64 x2, .bool x3, .bool y0, .int .i64 y1, .int .i64 y2, .bool y3] 55)).alloc (.cells #[.bool p0, .int .i64 p1, .int .i64 p2, .bool p3, .bool q0, .int .i64 q1, .int .i64 q2, .bool q3] 55)).alloc (.cells #[.bool false, .int .i64 0, .int .i64 0, .bool false, .bool false, .int .i64 0, .int .i64 0, .bool false] 55) = Wz at *
  refine (D0.out _).mono ?_
  rintro e w1 ⟨rfl, hw1⟩
  have F0 : D5 w1.heap.size w ((w1.alloc (.cells #[.bool x0, .int .i64 x1, .int .i64 x2, .bool x3, .bool y0, .int .i64 y1, .int .i64 y2, .bool y3] 72)).alloc (.cells #[.bool p0, .int .i64 p1, .int .i64 p2, .bool p3, .bool q0, .int .i64 q1, .int .i64 q2, .bool q3] 72)) (.bool x0) (.int .i64 x1) (.int .i64 x2) (.bool x3) (.bool y0) (.int .i64 y1) (.int .i64 y2) (.bool y3) (.bool p0) (.int .i64 p1) (.int .i64 p2) (.bool p3) (.bool q0) (.int .i64 q1) (.int .i64 q2) (.bool q3) := by
    have X1 := X0.step hw1
    have Y1 := Y0.step hw1
    have R1 := R0.step hw1
    have B1 := B0.trans (hw1.mono B0.size)
    have hlt := R1.sz
    have hb3 := below_alloc1 w1 (.cells #[.bool x0, .int .i64 x1, .int .i64 x2, .bool x3, .bool y0, .int .i64 y1, .int .i64 y2, .bool y3] 72)
    have hb4 := below_alloc1 (w1.alloc (.cells #[.bool x0, .int .i64 x1, .int .i64 x2, .bool x3, .bool y0, .int .i64 y1, .int .i64 y2, .bool y3] 72)) (.cells #[.bool p0, .int .i64 p1, .int .i64 p2, .bool p3, .bool q0, .int .i64 q1, .int .i64 q2, .bool q3] 72)
    have A0 := (V8.init w1 (.bool x0) (.int .i64 x1) (.int .i64 x2) (.bool x3) (.bool y0) (.int .i64 y1) (.int .i64 y2) (.bool y3) 72).step hb4
    have C0 := V8.init (w1.alloc (.cells #[.bool x0, .int .i64 x1, .int .i64 x2, .bool x3, .bool y0, .int .i64 y1, .int .i64 y2, .bool y3] 72)) (.bool p0) (.int .i64 p1) (.int .i64 p2) (.bool p3) (.bool q0) (.int .i64 q1) (.int .i64 q2) (.bool q3) 72
    have B2 := B1.trans (hb3.mono B1.size)
    have B3 := B2.trans (hb4.mono B2.size)
    simp only [World.size_alloc] at C0
    exact ⟨(X1.step hb3).step hb4, (Y1.step hb3).step hb4, (R1.step hb3).step hb4, A0, C0, B3, hlt⟩
  have Xa := X0.step hw1
  have Ya := Y0.step hw1
  obtain ⟨xa0, xa1, xa2, xa3, xb0, xb1, xb2, xb3⟩ := Xa.cells
  obtain ⟨ya0, ya1, ya2, ya3, yb0, yb1, yb2, yb3⟩ := Ya.cells
  have xs := Xa.sz
  have ys := Ya.sz
  clear Xa Ya X0 Y0 R0 B0 hw1 D0
  go_wp2_with fail
  clear xa0 xa1 xa2 xa3 xb0 xb1 xb2 xb3 ya0 ya1 ya2 ya3 yb0 yb1 yb2 yb3 xs ys
  generalize ((w1.alloc (.cells #[.bool x0, .int .i64 x1, .int .i64 x2, .bool x3, .bool y0, .int .i64 y1, .int .i64 y2, .bool y3] 72)).alloc (.cells #[.bool p0, .int .i64 p1, .int .i64 p2, .bool p3, .bool q0, .int .i64 q1, .int .i64 q2, .bool q3] 72)) = W0 at *
  rename_i K hK
  have key : ∀ (pb : Nat) (W : World), D5 w1.heap.size w W (.bool x0) (.int .i64 x1) (.int .i64 x2) (.bool x3) (.bool y0) (.int .i64 y1) (.int .i64 y2) (.bool y3) (.bool p0) (.int .i64 p1) (.int .i64 p2) (.bool p3) (.bool q0) (.int .i64 q1) (.int .i64 q2) (.bool q3) → V8 W pb (.bool u0) (.int .i64 u1) (.int .i64 u2) (.bool u3) (.bool v0) (.int .i64 v1) (.int .i64 v2) (.bool v3) → w1.heap.size + 1 < pb → K { tmps := #[.agg #[.bool x0, .int .i64 x1, .int .i64 x2, .bool x3, .bool y0, .int .i64 y1, .int .i64 y2, .bool y3], .agg #[.bool p0, .int .i64 p1, .int .i64 p2, .bool p3, .bool q0, .int .i64 q1, .int .i64 q2, .bool q3], .pointer (some ⟨w.heap.size, 0, none⟩), .pointer (some ⟨w.heap.size + 1, 0, none⟩), .pointer (some ⟨w.heap.size + 1 + 1, 0, none⟩), .int .i64 0, .bool false, .pointer (some ⟨w1.heap.size, 0, none⟩), .pointer (some ⟨w1.heap.size + 1, 0, none⟩), .pointer (some ⟨pb, 0, none⟩), undef, .agg #[.bool p0, .int .i64 p1, .int .i64 p2, .bool p3, .bool q0, .int .i64 q1, .int .i64 q2, .bool q3], .bool false, .bool false, undef, .pointer (some ⟨w.heap.size, 0, none⟩), .agg #[.bool x0, .int .i64 x1, .int .i64 x2, .bool x3], .pointer (some ⟨w.heap.size, 4, none⟩), .agg #[.bool y0, .int .i64 y1, .int .i64 y2, .bool y3], .agg #[.bool x0, .int .i64 x1, .int .i64 x2, .bool x3, .bool y0, .int .i64 y1, .int .i64 y2, .bool y3], .pointer (some ⟨w.heap.size + 1, 0, none⟩), .agg #[.bool p0, .int .i64 p1, .int .i64 p2, .bool p3], .pointer (some ⟨w.heap.size + 1, 4, none⟩), .agg #[.bool q0, .int .i64 q1, .int .i64 q2, .bool q3], .agg #[.bool p0, .int .i64 p1, .int .i64 p2, .bool p3, .bool q0, .int .i64 q1, .int .i64 q2, .bool q3], .pointer (some ⟨w.heap.size, 0, none⟩), .agg #[.bool x0, .int .i64 x1, .int .i64 x2, .bool x3], .pointer (some ⟨w.heap.size + 1, 0, none⟩), .agg #[.bool p0, .int .i64 p1, .int .i64 p2, .bool p3], .agg #[.bool u0, .int .i64 u1, .int .i64 u2, .bool u3], .pointer (some ⟨w.heap.size, 0, none⟩), .agg #[.bool x0, .int .i64 x1, .int .i64 x2, .bool x3], .pointer (some ⟨w.heap.size + 1, 0, none⟩), .agg #[.bool p0, .int .i64 p1, .int .i64 p2, .bool p3], .agg #[.bool v0, .int .i64 v1, .int .i64 v2, .bool v3], .agg #[.bool u0, .int .i64 u1, .int .i64 u2, .bool u3, .bool v0, .int .i64 v1, .int .i64 v2, .bool v3], undef, undef, undef, undef, undef, undef, undef, undef, undef, undef, undef, undef, undef, undef, undef, undef, undef, undef, undef, undef, undef, undef, undef, undef, undef, undef, undef, undef, undef, undef, undef], defers := [] } W := by
    intro pb W F0' P0 hpb
    refine hK _ _ ?_
    clear hK F0 D1 D2
    go_wp2_with fail
    go_loopw [10] (fun t w' => ∃ (k : Nat) (KI : Int) (e0 : Bool) (e1 e2 : Int) (e3 f0 : Bool) (f1 f2 : Int) (f3 : Bool), t = .int .i64 KI ∧ KI = k ∧ k ≤ 4 ∧ numV (L k) = .agg #[.bool e0, .int .i64 e1, .int .i64 e2, .bool e3] ∧ numV (H k) = .agg #[.bool f0, .int .i64 f1, .int .i64 f2, .bool f3] ∧ D5 w1.heap.size w w' (.bool x0) (.int .i64 x1) (.int .i64 x2) (.bool x3) (.bool y0) (.int .i64 y1) (.int .i64 y2) (.bool y3) (.bool p0) (.int .i64 p1) (.int .i64 p2) (.bool p3) (.bool q0) (.int .i64 q1) (.int .i64 q2) (.bool q3) ∧ V8 w' pb (.bool e0) (.int .i64 e1) (.int .i64 e2) (.bool e3) (.bool f0) (.int .i64 f1) (.int .i64 f2) (.bool f3)) (fun t _ => 5 - (intOf t).toNat)
    case atStart => exact ⟨0, 0, u0, u1, u2, u3, v0, v1, v2, v3, rfl, rfl, by omega, HU.out, HV.out, F0', P0⟩
    case round =>
      clear HU HV F0' P0
      obtain ⟨k, KI, e0, e1, e2, e3, f0, f1, f2, f3, rfl, hKI, hk, hu, hv, FF, PP⟩ := hrel
      rcases (by omega : k = 4 ∨ k = 0 ∨ k = 1 ∨ k = 2 ∨ k = 3) with rfl | rfl | rfl | rfl | rfl
      · obtain rfl : KI = 4 := by omega
        have HU : Hid _ := hu
        have HV : Hid _ := hv
        clear DM DO DL DH HX HY HP HQ hu hv hKI hk
        obtain ⟨e0', e1', e2', e3', f0', f1', f2', f3'⟩ := PP.cells
        obtain ⟨r0, r1, r2, r3, g0, g1, g2, g3, sz⟩ := FF.R.p
        obtain ⟨s0, s1, s2, s3, t0, t1, t2, t3, sz'⟩ := FF.R.q
        go_wp2_with fail
        refine bodyPost_ret (v := .tuple #[.agg #[.bool e0, .int .i64 e1, .int .i64 e2, .bool e3, .bool f0, .int .i64 f1, .int .i64 f2, .bool f3], .int .i64 0]) (by simp [results, Try.results38, go_sem, r0, r1, r2, r3, s0, s1, s2, s3]) rfl ⟨by rw [pair_shut HU.out HV.out], ?_⟩
        exact below_put8 (b := w.heap.size + 1 + 1) FF.B (by omega) _ _ _ _ _ _ _ _
      · obtain rfl : KI = 0 := by omega
        obtain ⟨g0, g1, g2, g3, hg⟩ := num_open (m 0)
        obtain ⟨r0, r1, r2, r3, hr⟩ := num_open (o 0)
        obtain ⟨h0, h1, h2, h3, hh⟩ := num_open (L 1)
        obtain ⟨s0, s1, s2, s3, hs⟩ := num_open (H 1)
        have Ma := DM.out 0 (by omega)
        have Oa := DO.out 0 (by omega)
        have La := DL.out 0 (by omega)
        have Ha := DH.out 0 (by omega)
        simp only [Nat.reduceDiv, Nat.reduceMod, if_true, Nat.reduceEqDiff, if_false, Nat.one_ne_zero, Nat.zero_div, Nat.zero_mod] at Ma Oa
        rw [HX.out, HP.out, hg] at Ma
        rw [HX.out, HP.out, hr] at Oa
        rw [hu, hg, show 0 + 1 = 1 from rfl, hh] at La
        rw [hv, hr, show 0 + 1 = 1 from rfl, hs] at Ha
        have E1 : Hid _ := Ma
        have E2 : Hid _ := La
        have E3 : Hid _ := Oa
        have E4 : Hid _ := Ha
        have HH : Hid _ := hh
        have HS : Hid _ := hs
        clear Ma Oa La Ha hu hv hg hr hh hs DM DO DL DH HX HY HP HQ hKI hk
        go_wp2_with fail
        have hq0 : IntKind.i64.wrap 0 = 0 := by decide
        have hq1 : IntKind.i64.wrap 1 = 1 := by decide
        have hq2 : IntKind.i64.wrap (Int.tdiv 0 2) = 0 := by decide
        have hdr : Below wr.heap.size wr wr.drew := (Below.refl _ _).drew
        have F1 := FF.step hdr
        have P1 := PP.step hdr
        clear FF PP hdr
        refine region_L (fun w' => w'.cell? ⟨w1.heap.size, 0, none⟩ = some (.bool x0) ∧ w'.cell? ⟨w1.heap.size, 1, none⟩ = some (.int .i64 x1) ∧ w'.cell? ⟨w1.heap.size, 2, none⟩ = some (.int .i64 x2) ∧ w'.cell? ⟨w1.heap.size, 3, none⟩ = some (.bool x3) ∧ w'.cell? ⟨w1.heap.size + 1, 0, none⟩ = some (.bool p0) ∧ w'.cell? ⟨w1.heap.size + 1, 1, none⟩ = some (.int .i64 p1) ∧ w'.cell? ⟨w1.heap.size + 1, 2, none⟩ = some (.int .i64 p2) ∧ w'.cell? ⟨w1.heap.size + 1, 3, none⟩ = some (.bool p3) ∧ w'.cell? ⟨pb, 0, none⟩ = some (.bool e0) ∧ w'.cell? ⟨pb, 1, none⟩ = some (.int .i64 e1) ∧ w'.cell? ⟨pb, 2, none⟩ = some (.int .i64 e2) ∧ w'.cell? ⟨pb, 3, none⟩ = some (.bool e3)) 13 (by kernel_rfl) ⟨F1.A.p.k0, F1.A.p.k1, F1.A.p.k2, F1.A.p.k3, F1.C.p.k0, F1.C.p.k1, F1.C.p.k2, F1.C.p.k3, P1.p.k0, P1.p.k1, P1.p.k2, P1.p.k3⟩ (fun hHeld => ?_)
        refine wpAnyL_take (i := 0) (oi := ?oi_1) (v := ?v_1) ?hi_1 (by kernel_rfl) (by kernel_rfl) (by kernel_rfl) (by kernel_rfl) ?hQ_1 ?hw_1 ?hy_1 hHeld ?rest_1
        case hi_1 => simp only [List.getElem?_toArray, List.getElem?_cons_zero, List.getElem?_cons_succ]; rfl
        case hQ_1 => exact fun _ _ _ h => h
        case hw_1 => rfl
        case hy_1 => intro w0 hSw; (try dsimp only at hSw); go_simp; try with_reducible rfl
        try simp only [Act.put, List.setIfInBounds_toArray, List.set_cons_zero, List.set_cons_succ]
        refine wpAnyL_take (i := 1) (oi := ?oi_2) (v := ?v_2) ?hi_2 (by kernel_rfl) (by kernel_rfl) (by kernel_rfl) (by kernel_rfl) ?hQ_2 ?hw_2 ?hy_2 hHeld ?rest_2
        case hi_2 => simp only [List.getElem?_toArray, List.getElem?_cons_zero, List.getElem?_cons_succ]; rfl
        case hQ_2 => exact fun _ _ _ h => h
        case hw_2 => rfl
        case hy_2 => intro w0 hSw; (try dsimp only at hSw); go_simp; try with_reducible rfl
        try simp only [Act.put, List.setIfInBounds_toArray, List.set_cons_zero, List.set_cons_succ]
        refine wpAnyL_take (i := 2) (oi := ?oi_3) (v := ?v_3) ?hi_3 (by kernel_rfl) (by kernel_rfl) (by kernel_rfl) (by kernel_rfl) ?hQ_3 ?hw_3 ?hy_3 hHeld ?rest_3
        case hi_3 => simp only [List.getElem?_toArray, List.getElem?_cons_zero, List.getElem?_cons_succ]; rfl
        case hQ_3 => exact fun _ _ _ h => h
        case hw_3 => rfl
        case hy_3 => intro w0 hSw; (try dsimp only at hSw); go_simp; try with_reducible rfl
        try simp only [Act.put, List.setIfInBounds_toArray, List.set_cons_zero, List.set_cons_succ]
        refine wpAnyL_take (i := 3) (oi := ?oi_4) (v := ?v_4) ?hi_4 (by kernel_rfl) (by kernel_rfl) (by kernel_rfl) (by kernel_rfl) ?hQ_4 ?hw_4 ?hy_4 hHeld ?rest_4
        case hi_4 => simp only [List.getElem?_toArray, List.getElem?_cons_zero, List.getElem?_cons_succ]; rfl
        case hQ_4 => exact fun _ _ _ h => h
        case hw_4 => rfl
        case hy_4 => intro w0 hSw; (try dsimp only at hSw); go_simp; try with_reducible rfl
        try simp only [Act.put, List.setIfInBounds_toArray, List.set_cons_zero, List.set_cons_succ]
        refine wpAnyL_take (i := 4) (oi := ?oi_5) (v := ?v_5) ?hi_5 (by kernel_rfl) (by kernel_rfl) (by kernel_rfl) (by kernel_rfl) ?hQ_5 ?hw_5 ?hy_5 hHeld ?rest_5
        case hi_5 => simp only [List.getElem?_toArray, List.getElem?_cons_zero, List.getElem?_cons_succ]; rfl
        case hQ_5 => exact fun _ _ _ h => h
        case hw_5 => rfl
        case hy_5 => intro w0 hSw; (try dsimp only at hSw); go_simp; try with_reducible rfl
        try simp only [Act.put, List.setIfInBounds_toArray, List.set_cons_zero, List.set_cons_succ]
        refine wpAnyL_take (i := 5) (oi := ?oi_6) (v := ?v_6) ?hi_6 (by kernel_rfl) (by kernel_rfl) (by kernel_rfl) (by kernel_rfl) ?hQ_6 ?hw_6 ?hy_6 hHeld ?rest_6
        case hi_6 => simp only [List.getElem?_toArray, List.getElem?_cons_zero, List.getElem?_cons_succ]; rfl
        case hQ_6 => exact fun _ _ _ h => h
        case hw_6 => rfl
        case hy_6 => intro w0 hSw; (try dsimp only at hSw); go_simp; try with_reducible rfl
        try simp only [Act.put, List.setIfInBounds_toArray, List.set_cons_zero, List.set_cons_succ]
        refine wpAnyL_take (i := 6) (oi := ?oi_7) (v := ?v_7) ?hi_7 (by kernel_rfl) (by kernel_rfl) (by kernel_rfl) (by kernel_rfl) ?hQ_7 ?hw_7 ?hy_7 hHeld ?rest_7
        case hi_7 => simp only [List.getElem?_toArray, List.getElem?_cons_zero, List.getElem?_cons_succ]; rfl
        case hQ_7 => exact fun _ _ _ h => h
        case hw_7 => rfl
        case hy_7 => intro w0 hSw; (try dsimp only at hSw); go_simp; try with_reducible rfl
        try simp only [Act.put, List.setIfInBounds_toArray, List.set_cons_zero, List.set_cons_succ]
        refine wpAnyL_take (i := 7) (oi := ?oi_8) (v := ?v_8) ?hi_8 (by kernel_rfl) (by kernel_rfl) (by kernel_rfl) (by kernel_rfl) ?hQ_8 ?hw_8 ?hy_8 hHeld ?rest_8
        case hi_8 => simp only [List.getElem?_toArray, List.getElem?_cons_zero, List.getElem?_cons_succ]; rfl
        case hQ_8 => exact fun _ _ _ h => h
        case hw_8 => rfl
        case hy_8 => intro w0 hSw; (try dsimp only at hSw); go_simp; try with_reducible rfl
        try simp only [Act.put, List.setIfInBounds_toArray, List.set_cons_zero, List.set_cons_succ]
        refine wpAnyL_take (i := 8) (oi := ?oi_9) (v := ?v_9) ?hi_9 (by kernel_rfl) (by kernel_rfl) (by kernel_rfl) (by kernel_rfl) ?hQ_9 ?hw_9 ?hy_9 hHeld ?rest_9
        case hi_9 => simp only [List.getElem?_toArray, List.getElem?_cons_zero, List.getElem?_cons_succ]; rfl
        case hQ_9 => exact fun _ _ _ h => h
        case hw_9 => rfl
        case hy_9 => intro w0 hSw; (try dsimp only at hSw); go_simp; try with_reducible rfl
        try simp only [Act.put, List.setIfInBounds_toArray, List.set_cons_zero, List.set_cons_succ]
        refine wpAnyL_take (i := 9) (oi := ?oi_10) (v := ?v_10) ?hi_10 (by kernel_rfl) (by kernel_rfl) (by kernel_rfl) (by kernel_rfl) ?hQ_10 ?hw_10 ?hy_10 hHeld ?rest_10
        case hi_10 => simp only [List.getElem?_toArray, List.getElem?_cons_zero, List.getElem?_cons_succ]; rfl
        case hQ_10 => exact fun _ _ _ h => h
        case hw_10 => rfl
        case hy_10 => intro w0 hSw; (try dsimp only at hSw); go_simp; try with_reducible rfl
        try simp only [Act.put, List.setIfInBounds_toArray, List.set_cons_zero, List.set_cons_succ]
        refine wpAnyL_one (i := 10) (o := ?o_11) ?ho_11 (by kernel_rfl) ?hw_11 (fun Kc hKc => ?_)
        case ho_11 => simp only [List.getElem?_toArray, List.getElem?_cons_zero, List.getElem?_cons_succ]; rfl
        case hw_11 => rfl
        go_simp
        refine (E1.out _).mono ?_
        rintro e w6 ⟨rfl, hw6⟩
        have F2 := F1.step hw6
        have P2 := P1.step hw6
        clear hw6 F1 P1
        refine hKc.out _ _ (fun _ => ⟨F2.A.p.k0, F2.A.p.k1, F2.A.p.k2, F2.A.p.k3, F2.C.p.k0, F2.C.p.k1, F2.C.p.k2, F2.C.p.k3, P2.p.k0, P2.p.k1, P2.p.k2, P2.p.k3⟩) (fun hHeld' => ?_)
        have hHeld := hHeld' (by decide)
        clear hHeld' hKc Kc
        try simp only [Act.put, List.setIfInBounds_toArray, List.set_cons_zero, List.set_cons_succ]
        refine wpAnyL_one (i := 11) (o := ?o_12) ?ho_12 (by kernel_rfl) ?hw_12 (fun Kc hKc => ?_)
        case ho_12 => simp only [List.getElem?_toArray, List.getElem?_cons_zero, List.getElem?_cons_succ]; rfl
        case hw_12 => rfl
        go_simp
        refine (E2.out _).mono ?_
        rintro e w7 ⟨rfl, hw7⟩
        have F3 := F2.step hw7
        have P3 := P2.step hw7
        clear hw7 F2 P2
        refine hKc.out _ _ (fun _ => ⟨F3.A.p.k0, F3.A.p.k1, F3.A.p.k2, F3.A.p.k3, F3.C.p.k0, F3.C.p.k1, F3.C.p.k2, F3.C.p.k3, P3.p.k0, P3.p.k1, P3.p.k2, P3.p.k3⟩) (fun hHeld' => ?_)
        have hHeld := hHeld' (by decide)
        clear hHeld' hKc Kc
        try simp only [Act.put, List.setIfInBounds_toArray, List.set_cons_zero, List.set_cons_succ]
        refine wpAnyL_take (i := 12) (oi := ?oi_13) (v := ?v_13) ?hi_13 (by kernel_rfl) (by kernel_rfl) (by kernel_rfl) (by kernel_rfl) ?hQ_13 ?hw_13 ?hy_13 hHeld ?rest_13
        case hi_13 => simp only [List.getElem?_toArray, List.getElem?_cons_zero, List.getElem?_cons_succ]; rfl
        case hQ_13 => exact fun _ _ _ h => h
        case hw_13 => rfl
        case hy_13 => intro w0 hSw; (try dsimp only at hSw); go_simp; try with_reducible rfl
        try simp only [Act.put, List.setIfInBounds_toArray, List.set_cons_zero, List.set_cons_succ]
        have n0 := P3.p.f0
        have n1 := P3.p.f1
        have n2 := P3.p.f2
        have n3 := P3.p.f3
        have o0 := P3.p.k0
        have o1 := P3.p.k1
        have o2 := P3.p.k2
        have o3 := P3.p.k3
        refine wpAnyL_one (i := 13) (o := ?o_14) ?ho_14 (by kernel_rfl) ?hw_14 (fun Kc hKc => ?_)
        case ho_14 => simp only [List.getElem?_toArray, List.getElem?_cons_zero, List.getElem?_cons_succ]; rfl
        case hw_14 => rfl
        go_simp
        refine hKc.out _ _ (fun h => absurd rfl h) (fun _ => ?_)
        clear hKc Kc n0 n1 n2 n3 o0 o1 o2 o3
        try simp only [Act.put, List.setIfInBounds_toArray, List.set_cons_zero, List.set_cons_succ]
        refine wpAnyL_done (by kernel_rfl) ?_ _
        have FF := F3.put4 (b' := pb) hpb 0 1 2 3 (.bool h0) (.int .i64 h1) (.int .i64 h2) (.bool h3)
        have PP := P3.putLo (.bool h0) (.int .i64 h1) (.int .i64 h2) (.bool h3)
        clear F3 P3 hHeld
        go_wp2_with fail
        generalize (((w7.setCell ⟨pb, 0, none⟩ (.bool h0)).setCell ⟨pb, 1, none⟩ (.int .i64 h1)).setCell ⟨pb, 2, none⟩ (.int .i64 h2)).setCell ⟨pb, 3, none⟩ (.bool h3) = W8 at *
        clear E1 E2
        have hdr : Below W8.heap.size W8 W8.drew := (Below.refl _ _).drew
        have F1 := FF.step hdr
        have P1 := PP.step hdr
        clear FF PP hdr
        refine region_L (fun w' => w'.cell? ⟨w1.heap.size, 0, none⟩ = some (.bool x0) ∧ w'.cell? ⟨w1.heap.size, 1, none⟩ = some (.int .i64 x1) ∧ w'.cell? ⟨w1.heap.size, 2, none⟩ = some (.int .i64 x2) ∧ w'.cell? ⟨w1.heap.size, 3, none⟩ = some (.bool x3) ∧ w'.cell? ⟨w1.heap.size + 1, 0, none⟩ = some (.bool p0) ∧ w'.cell? ⟨w1.heap.size + 1, 1, none⟩ = some (.int .i64 p1) ∧ w'.cell? ⟨w1.heap.size + 1, 2, none⟩ = some (.int .i64 p2) ∧ w'.cell? ⟨w1.heap.size + 1, 3, none⟩ = some (.bool p3) ∧ w'.cell? ⟨pb, 4, none⟩ = some (.bool f0) ∧ w'.cell? ⟨pb, 5, none⟩ = some (.int .i64 f1) ∧ w'.cell? ⟨pb, 6, none⟩ = some (.int .i64 f2) ∧ w'.cell? ⟨pb, 7, none⟩ = some (.bool f3)) 13 (by kernel_rfl) ⟨F1.A.p.k0, F1.A.p.k1, F1.A.p.k2, F1.A.p.k3, F1.C.p.k0, F1.C.p.k1, F1.C.p.k2, F1.C.p.k3, P1.q.k0, P1.q.k1, P1.q.k2, P1.q.k3⟩ (fun hHeld => ?_)
        refine wpAnyL_take (i := 0) (oi := ?oi_15) (v := ?v_15) ?hi_15 (by kernel_rfl) (by kernel_rfl) (by kernel_rfl) (by kernel_rfl) ?hQ_15 ?hw_15 ?hy_15 hHeld ?rest_15
        case hi_15 => simp only [List.getElem?_toArray, List.getElem?_cons_zero, List.getElem?_cons_succ]; rfl
        case hQ_15 => exact fun _ _ _ h => h
        case hw_15 => rfl
        case hy_15 => intro w0 hSw; (try dsimp only at hSw); go_simp; try with_reducible rfl
        try simp only [Act.put, List.setIfInBounds_toArray, List.set_cons_zero, List.set_cons_succ]
        refine wpAnyL_take (i := 1) (oi := ?oi_16) (v := ?v_16) ?hi_16 (by kernel_rfl) (by kernel_rfl) (by kernel_rfl) (by kernel_rfl) ?hQ_16 ?hw_16 ?hy_16 hHeld ?rest_16
        case hi_16 => simp only [List.getElem?_toArray, List.getElem?_cons_zero, List.getElem?_cons_succ]; rfl
        case hQ_16 => exact fun _ _ _ h => h
        case hw_16 => rfl
        case hy_16 => intro w0 hSw; (try dsimp only at hSw); go_simp; try with_reducible rfl
        try simp only [Act.put, List.setIfInBounds_toArray, List.set_cons_zero, List.set_cons_succ]
        refine wpAnyL_take (i := 2) (oi := ?oi_17) (v := ?v_17) ?hi_17 (by kernel_rfl) (by kernel_rfl) (by kernel_rfl) (by kernel_rfl) ?hQ_17 ?hw_17 ?hy_17 hHeld ?rest_17
        case hi_17 => simp only [List.getElem?_toArray, List.getElem?_cons_zero, List.getElem?_cons_succ]; rfl
        case hQ_17 => exact fun _ _ _ h => h
        case hw_17 => rfl
        case hy_17 => intro w0 hSw; (try dsimp only at hSw); go_simp; try with_reducible rfl
        try simp only [Act.put, List.setIfInBounds_toArray, List.set_cons_zero, List.set_cons_succ]
        refine wpAnyL_take (i := 3) (oi := ?oi_18) (v := ?v_18) ?hi_18 (by kernel_rfl) (by kernel_rfl) (by kernel_rfl) (by kernel_rfl) ?hQ_18 ?hw_18 ?hy_18 hHeld ?rest_18
        case hi_18 => simp only [List.getElem?_toArray, List.getElem?_cons_zero, List.getElem?_cons_succ]; rfl
        case hQ_18 => exact fun _ _ _ h => h
        case hw_18 => rfl
        case hy_18 => intro w0 hSw; (try dsimp only at hSw); go_simp; try with_reducible rfl
        try simp only [Act.put, List.setIfInBounds_toArray, List.set_cons_zero, List.set_cons_succ]
        refine wpAnyL_take (i := 4) (oi := ?oi_19) (v := ?v_19) ?hi_19 (by kernel_rfl) (by kernel_rfl) (by kernel_rfl) (by kernel_rfl) ?hQ_19 ?hw_19 ?hy_19 hHeld ?rest_19
        case hi_19 => simp only [List.getElem?_toArray, List.getElem?_cons_zero, List.getElem?_cons_succ]; rfl
        case hQ_19 => exact fun _ _ _ h => h
        case hw_19 => rfl
        case hy_19 => intro w0 hSw; (try dsimp only at hSw); go_simp; try with_reducible rfl
        try simp only [Act.put, List.setIfInBounds_toArray, List.set_cons_zero, List.set_cons_succ]
        refine wpAnyL_take (i := 5) (oi := ?oi_20) (v := ?v_20) ?hi_20 (by kernel_rfl) (by kernel_rfl) (by kernel_rfl) (by kernel_rfl) ?hQ_20 ?hw_20 ?hy_20 hHeld ?rest_20
        case hi_20 => simp only [List.getElem?_toArray, List.getElem?_cons_zero, List.getElem?_cons_succ]; rfl
        case hQ_20 => exact fun _ _ _ h => h
        case hw_20 => rfl
        case hy_20 => intro w0 hSw; (try dsimp only at hSw); go_simp; try with_reducible rfl
        try simp only [Act.put, List.setIfInBounds_toArray, List.set_cons_zero, List.set_cons_succ]
        refine wpAnyL_take (i := 6) (oi := ?oi_21) (v := ?v_21) ?hi_21 (by kernel_rfl) (by kernel_rfl) (by kernel_rfl) (by kernel_rfl) ?hQ_21 ?hw_21 ?hy_21 hHeld ?rest_21
        case hi_21 => simp only [List.getElem?_toArray, List.getElem?_cons_zero, List.getElem?_cons_succ]; rfl
        case hQ_21 => exact fun _ _ _ h => h
        case hw_21 => rfl
        case hy_21 => intro w0 hSw; (try dsimp only at hSw); go_simp; try with_reducible rfl
        try simp only [Act.put, List.setIfInBounds_toArray, List.set_cons_zero, List.set_cons_succ]
        refine wpAnyL_take (i := 7) (oi := ?oi_22) (v := ?v_22) ?hi_22 (by kernel_rfl) (by kernel_rfl) (by kernel_rfl) (by kernel_rfl) ?hQ_22 ?hw_22 ?hy_22 hHeld ?rest_22
        case hi_22 => simp only [List.getElem?_toArray, List.getElem?_cons_zero, List.getElem?_cons_succ]; rfl
        case hQ_22 => exact fun _ _ _ h => h
        case hw_22 => rfl
        case hy_22 => intro w0 hSw; (try dsimp only at hSw); go_simp; try with_reducible rfl
        try simp only [Act.put, List.setIfInBounds_toArray, List.set_cons_zero, List.set_cons_succ]
        refine wpAnyL_take (i := 8) (oi := ?oi_23) (v := ?v_23) ?hi_23 (by kernel_rfl) (by kernel_rfl) (by kernel_rfl) (by kernel_rfl) ?hQ_23 ?hw_23 ?hy_23 hHeld ?rest_23
        case hi_23 => simp only [List.getElem?_toArray, List.getElem?_cons_zero, List.getElem?_cons_succ]; rfl
        case hQ_23 => exact fun _ _ _ h => h
        case hw_23 => rfl
        case hy_23 => intro w0 hSw; (try dsimp only at hSw); go_simp; try with_reducible rfl
        try simp only [Act.put, List.setIfInBounds_toArray, List.set_cons_zero, List.set_cons_succ]
        refine wpAnyL_take (i := 9) (oi := ?oi_24) (v := ?v_24) ?hi_24 (by kernel_rfl) (by kernel_rfl) (by kernel_rfl) (by kernel_rfl) ?hQ_24 ?hw_24 ?hy_24 hHeld ?rest_24
        case hi_24 => simp only [List.getElem?_toArray, List.getElem?_cons_zero, List.getElem?_cons_succ]; rfl
        case hQ_24 => exact fun _ _ _ h => h
        case hw_24 => rfl
        case hy_24 => intro w0 hSw; (try dsimp only at hSw); go_simp; try with_reducible rfl
        try simp only [Act.put, List.setIfInBounds_toArray, List.set_cons_zero, List.set_cons_succ]
        refine wpAnyL_one (i := 10) (o := ?o_25) ?ho_25 (by kernel_rfl) ?hw_25 (fun Kc hKc => ?_)
        case ho_25 => simp only [List.getElem?_toArray, List.getElem?_cons_zero, List.getElem?_cons_succ]; rfl
        case hw_25 => rfl
        go_simp
        refine (E3.out _).mono ?_
        rintro e w6 ⟨rfl, hw6⟩
        have F2 := F1.step hw6
        have P2 := P1.step hw6
        clear hw6 F1 P1
        refine hKc.out _ _ (fun _ => ⟨F2.A.p.k0, F2.A.p.k1, F2.A.p.k2, F2.A.p.k3, F2.C.p.k0, F2.C.p.k1, F2.C.p.k2, F2.C.p.k3, P2.q.k0, P2.q.k1, P2.q.k2, P2.q.k3⟩) (fun hHeld' => ?_)
        have hHeld := hHeld' (by decide)
        clear hHeld' hKc Kc
        try simp only [Act.put, List.setIfInBounds_toArray, List.set_cons_zero, List.set_cons_succ]
        refine wpAnyL_one (i := 11) (o := ?o_26) ?ho_26 (by kernel_rfl) ?hw_26 (fun Kc hKc => ?_)
        case ho_26 => simp only [List.getElem?_toArray, List.getElem?_cons_zero, List.getElem?_cons_succ]; rfl
        case hw_26 => rfl
        go_simp
        refine (E4.out _).mono ?_
        rintro e w7 ⟨rfl, hw7⟩
        have F3 := F2.step hw7
        have P3 := P2.step hw7
        clear hw7 F2 P2
        refine hKc.out _ _ (fun _ => ⟨F3.A.p.k0, F3.A.p.k1, F3.A.p.k2, F3.A.p.k3, F3.C.p.k0, F3.C.p.k1, F3.C.p.k2, F3.C.p.k3, P3.q.k0, P3.q.k1, P3.q.k2, P3.q.k3⟩) (fun hHeld' => ?_)
        have hHeld := hHeld' (by decide)
        clear hHeld' hKc Kc
        try simp only [Act.put, List.setIfInBounds_toArray, List.set_cons_zero, List.set_cons_succ]
        refine wpAnyL_take (i := 12) (oi := ?oi_27) (v := ?v_27) ?hi_27 (by kernel_rfl) (by kernel_rfl) (by kernel_rfl) (by kernel_rfl) ?hQ_27 ?hw_27 ?hy_27 hHeld ?rest_27
        case hi_27 => simp only [List.getElem?_toArray, List.getElem?_cons_zero, List.getElem?_cons_succ]; rfl
        case hQ_27 => exact fun _ _ _ h => h
        case hw_27 => rfl
        case hy_27 => intro w0 hSw; (try dsimp only at hSw); go_simp; try with_reducible rfl
        try simp only [Act.put, List.setIfInBounds_toArray, List.set_cons_zero, List.set_cons_succ]
        have n0 := P3.q.f0
        have n1 := P3.q.f1
        have n2 := P3.q.f2
        have n3 := P3.q.f3
        have o0 := P3.q.k0
        have o1 := P3.q.k1
        have o2 := P3.q.k2
        have o3 := P3.q.k3
        refine wpAnyL_one (i := 13) (o := ?o_28) ?ho_28 (by kernel_rfl) ?hw_28 (fun Kc hKc => ?_)
        case ho_28 => simp only [List.getElem?_toArray, List.getElem?_cons_zero, List.getElem?_cons_succ]; rfl
        case hw_28 => rfl
        go_simp
        refine hKc.out _ _ (fun h => absurd rfl h) (fun _ => ?_)
        clear hKc Kc n0 n1 n2 n3 o0 o1 o2 o3
        try simp only [Act.put, List.setIfInBounds_toArray, List.set_cons_zero, List.set_cons_succ]
        refine wpAnyL_done (by kernel_rfl) ?_ _
        have FF := F3.put4 (b' := pb) hpb 4 5 6 7 (.bool s0) (.int .i64 s1) (.int .i64 s2) (.bool s3)
        have PP := P3.putHi (.bool s0) (.int .i64 s1) (.int .i64 s2) (.bool s3)
        clear F3 P3 hHeld
        go_wp2_with fail
        generalize (((w7.setCell ⟨pb, 4, none⟩ (.bool s0)).setCell ⟨pb, 5, none⟩ (.int .i64 s1)).setCell ⟨pb, 6, none⟩ (.int .i64 s2)).setCell ⟨pb, 7, none⟩ (.bool s3) = W9 at *
        refine ⟨⟨1, 1, h0, h1, h2, h3, s0, s1, s2, s3, rfl, rfl, by omega, HH.out, HS.out, FF, PP⟩, ?_⟩
        simp [intOf]
      · obtain rfl : KI = 1 := by omega
        obtain ⟨g0, g1, g2, g3, hg⟩ := num_open (m 1)
        obtain ⟨r0, r1, r2, r3, hr⟩ := num_open (o 1)
        obtain ⟨h0, h1, h2, h3, hh⟩ := num_open (L 2)
        obtain ⟨s0, s1, s2, s3, hs⟩ := num_open (H 2)
        have Ma := DM.out 1 (by omega)
        have Oa := DO.out 1 (by omega)
        have La := DL.out 1 (by omega)
        have Ha := DH.out 1 (by omega)
        simp only [Nat.reduceDiv, Nat.reduceMod, if_true, Nat.reduceEqDiff, if_false, Nat.one_ne_zero, Nat.zero_div, Nat.zero_mod] at Ma Oa
        rw [HX.out, HQ.out, hg] at Ma
        rw [HX.out, HQ.out, hr] at Oa
        rw [hu, hg, show 1 + 1 = 2 from rfl, hh] at La
        rw [hv, hr, show 1 + 1 = 2 from rfl, hs] at Ha
        have E1 : Hid _ := Ma
        have E2 : Hid _ := La
        have E3 : Hid _ := Oa
        have E4 : Hid _ := Ha
        have HH : Hid _ := hh
        have HS : Hid _ := hs
        clear Ma Oa La Ha hu hv hg hr hh hs DM DO DL DH HX HY HP HQ hKI hk
        go_wp2_with fail
        have hq0 : IntKind.i64.wrap 0 = 0 := by decide
        have hq1 : IntKind.i64.wrap 1 = 1 := by decide
        have hq2 : IntKind.i64.wrap (Int.tdiv 1 2) = 0 := by decide
        have hdr : Below wr.heap.size wr wr.drew := (Below.refl _ _).drew
        have F1 := FF.step hdr
        have P1 := PP.step hdr
        clear FF PP hdr
        refine region_L (fun w' => w'.cell? ⟨w1.heap.size, 0, none⟩ = some (.bool x0) ∧ w'.cell? ⟨w1.heap.size, 1, none⟩ = some (.int .i64 x1) ∧ w'.cell? ⟨w1.heap.size, 2, none⟩ = some (.int .i64 x2) ∧ w'.cell? ⟨w1.heap.size, 3, none⟩ = some (.bool x3) ∧ w'.cell? ⟨w1.heap.size + 1, 4, none⟩ = some (.bool q0) ∧ w'.cell? ⟨w1.heap.size + 1, 5, none⟩ = some (.int .i64 q1) ∧ w'.cell? ⟨w1.heap.size + 1, 6, none⟩ = some (.int .i64 q2) ∧ w'.cell? ⟨w1.heap.size + 1, 7, none⟩ = some (.bool q3) ∧ w'.cell? ⟨pb, 0, none⟩ = some (.bool e0) ∧ w'.cell? ⟨pb, 1, none⟩ = some (.int .i64 e1) ∧ w'.cell? ⟨pb, 2, none⟩ = some (.int .i64 e2) ∧ w'.cell? ⟨pb, 3, none⟩ = some (.bool e3)) 13 (by kernel_rfl) ⟨F1.A.p.k0, F1.A.p.k1, F1.A.p.k2, F1.A.p.k3, F1.C.q.k0, F1.C.q.k1, F1.C.q.k2, F1.C.q.k3, P1.p.k0, P1.p.k1, P1.p.k2, P1.p.k3⟩ (fun hHeld => ?_)
        refine wpAnyL_take (i := 0) (oi := ?oi_29) (v := ?v_29) ?hi_29 (by kernel_rfl) (by kernel_rfl) (by kernel_rfl) (by kernel_rfl) ?hQ_29 ?hw_29 ?hy_29 hHeld ?rest_29
        case hi_29 => simp only [List.getElem?_toArray, List.getElem?_cons_zero, List.getElem?_cons_succ]; rfl
        case hQ_29 => exact fun _ _ _ h => h
        case hw_29 => rfl
        case hy_29 => intro w0 hSw; (try dsimp only at hSw); go_simp; try with_reducible rfl
        try simp only [Act.put, List.setIfInBounds_toArray, List.set_cons_zero, List.set_cons_succ]
        refine wpAnyL_take (i := 1) (oi := ?oi_30) (v := ?v_30) ?hi_30 (by kernel_rfl) (by kernel_rfl) (by kernel_rfl) (by kernel_rfl) ?hQ_30 ?hw_30 ?hy_30 hHeld ?rest_30
        case hi_30 => simp only [List.getElem?_toArray, List.getElem?_cons_zero, List.getElem?_cons_succ]; rfl
        case hQ_30 => exact fun _ _ _ h => h
        case hw_30 => rfl
        case hy_30 => intro w0 hSw; (try dsimp only at hSw); go_simp; try with_reducible rfl
        try simp only [Act.put, List.setIfInBounds_toArray, List.set_cons_zero, List.set_cons_succ]
        refine wpAnyL_take (i := 2) (oi := ?oi_31) (v := ?v_31) ?hi_31 (by kernel_rfl) (by kernel_rfl) (by kernel_rfl) (by kernel_rfl) ?hQ_31 ?hw_31 ?hy_31 hHeld ?rest_31
        case hi_31 => simp only [List.getElem?_toArray, List.getElem?_cons_zero, List.getElem?_cons_succ]; rfl
        case hQ_31 => exact fun _ _ _ h => h
        case hw_31 => rfl
        case hy_31 => intro w0 hSw; (try dsimp only at hSw); go_simp; try with_reducible rfl
        try simp only [Act.put, List.setIfInBounds_toArray, List.set_cons_zero, List.set_cons_succ]
        refine wpAnyL_take (i := 3) (oi := ?oi_32) (v := ?v_32) ?hi_32 (by kernel_rfl) (by kernel_rfl) (by kernel_rfl) (by kernel_rfl) ?hQ_32 ?hw_32 ?hy_32 hHeld ?rest_32
        case hi_32 => simp only [List.getElem?_toArray, List.getElem?_cons_zero, List.getElem?_cons_succ]; rfl
        case hQ_32 => exact fun _ _ _ h => h
        case hw_32 => rfl
        case hy_32 => intro w0 hSw; (try dsimp only at hSw); go_simp; try with_reducible rfl
        try simp only [Act.put, List.setIfInBounds_toArray, List.set_cons_zero, List.set_cons_succ]
        refine wpAnyL_take (i := 4) (oi := ?oi_33) (v := ?v_33) ?hi_33 (by kernel_rfl) (by kernel_rfl) (by kernel_rfl) (by kernel_rfl) ?hQ_33 ?hw_33 ?hy_33 hHeld ?rest_33
        case hi_33 => simp only [List.getElem?_toArray, List.getElem?_cons_zero, List.getElem?_cons_succ]; rfl
        case hQ_33 => exact fun _ _ _ h => h
        case hw_33 => rfl
        case hy_33 => intro w0 hSw; (try dsimp only at hSw); go_simp; try with_reducible rfl
        try simp only [Act.put, List.setIfInBounds_toArray, List.set_cons_zero, List.set_cons_succ]
        refine wpAnyL_take (i := 5) (oi := ?oi_34) (v := ?v_34) ?hi_34 (by kernel_rfl) (by kernel_rfl) (by kernel_rfl) (by kernel_rfl) ?hQ_34 ?hw_34 ?hy_34 hHeld ?rest_34
        case hi_34 => simp only [List.getElem?_toArray, List.getElem?_cons_zero, List.getElem?_cons_succ]; rfl
        case hQ_34 => exact fun _ _ _ h => h
        case hw_34 => rfl
        case hy_34 => intro w0 hSw; (try dsimp only at hSw); go_simp; try with_reducible rfl
        try simp only [Act.put, List.setIfInBounds_toArray, List.set_cons_zero, List.set_cons_succ]
        refine wpAnyL_take (i := 6) (oi := ?oi_35) (v := ?v_35) ?hi_35 (by kernel_rfl) (by kernel_rfl) (by kernel_rfl) (by kernel_rfl) ?hQ_35 ?hw_35 ?hy_35 hHeld ?rest_35
        case hi_35 => simp only [List.getElem?_toArray, List.getElem?_cons_zero, List.getElem?_cons_succ]; rfl
        case hQ_35 => exact fun _ _ _ h => h
        case hw_35 => rfl
        case hy_35 => intro w0 hSw; (try dsimp only at hSw); go_simp; try with_reducible rfl
        try simp only [Act.put, List.setIfInBounds_toArray, List.set_cons_zero, List.set_cons_succ]
        refine wpAnyL_take (i := 7) (oi := ?oi_36) (v := ?v_36) ?hi_36 (by kernel_rfl) (by kernel_rfl) (by kernel_rfl) (by kernel_rfl) ?hQ_36 ?hw_36 ?hy_36 hHeld ?rest_36
        case hi_36 => simp only [List.getElem?_toArray, List.getElem?_cons_zero, List.getElem?_cons_succ]; rfl
        case hQ_36 => exact fun _ _ _ h => h
        case hw_36 => rfl
        case hy_36 => intro w0 hSw; (try dsimp only at hSw); go_simp; try with_reducible rfl
        try simp only [Act.put, List.setIfInBounds_toArray, List.set_cons_zero, List.set_cons_succ]
        refine wpAnyL_take (i := 8) (oi := ?oi_37) (v := ?v_37) ?hi_37 (by kernel_rfl) (by kernel_rfl) (by kernel_rfl) (by kernel_rfl) ?hQ_37 ?hw_37 ?hy_37 hHeld ?rest_37
        case hi_37 => simp only [List.getElem?_toArray, List.getElem?_cons_zero, List.getElem?_cons_succ]; rfl
        case hQ_37 => exact fun _ _ _ h => h
        case hw_37 => rfl
        case hy_37 => intro w0 hSw; (try dsimp only at hSw); go_simp; try with_reducible rfl
        try simp only [Act.put, List.setIfInBounds_toArray, List.set_cons_zero, List.set_cons_succ]
        refine wpAnyL_take (i := 9) (oi := ?oi_38) (v := ?v_38) ?hi_38 (by kernel_rfl) (by kernel_rfl) (by kernel_rfl) (by kernel_rfl) ?hQ_38 ?hw_38 ?hy_38 hHeld ?rest_38
        case hi_38 => simp only [List.getElem?_toArray, List.getElem?_cons_zero, List.getElem?_cons_succ]; rfl
        case hQ_38 => exact fun _ _ _ h => h
        case hw_38 => rfl
        case hy_38 => intro w0 hSw; (try dsimp only at hSw); go_simp; try with_reducible rfl
        try simp only [Act.put, List.setIfInBounds_toArray, List.set_cons_zero, List.set_cons_succ]
        refine wpAnyL_one (i := 10) (o := ?o_39) ?ho_39 (by kernel_rfl) ?hw_39 (fun Kc hKc => ?_)
        case ho_39 => simp only [List.getElem?_toArray, List.getElem?_cons_zero, List.getElem?_cons_succ]; rfl
        case hw_39 => rfl
        go_simp
        refine (E1.out _).mono ?_
        rintro e w6 ⟨rfl, hw6⟩
        have F2 := F1.step hw6
        have P2 := P1.step hw6
        clear hw6 F1 P1
        refine hKc.out _ _ (fun _ => ⟨F2.A.p.k0, F2.A.p.k1, F2.A.p.k2, F2.A.p.k3, F2.C.q.k0, F2.C.q.k1, F2.C.q.k2, F2.C.q.k3, P2.p.k0, P2.p.k1, P2.p.k2, P2.p.k3⟩) (fun hHeld' => ?_)
        have hHeld := hHeld' (by decide)
        clear hHeld' hKc Kc
        try simp only [Act.put, List.setIfInBounds_toArray, List.set_cons_zero, List.set_cons_succ]
        refine wpAnyL_one (i := 11) (o := ?o_40) ?ho_40 (by kernel_rfl) ?hw_40 (fun Kc hKc => ?_)
        case ho_40 => simp only [List.getElem?_toArray, List.getElem?_cons_zero, List.getElem?_cons_succ]; rfl
        case hw_40 => rfl
        go_simp
        refine (E2.out _).mono ?_
        rintro e w7 ⟨rfl, hw7⟩
        have F3 := F2.step hw7
        have P3 := P2.step hw7
        clear hw7 F2 P2
        refine hKc.out _ _ (fun _ => ⟨F3.A.p.k0, F3.A.p.k1, F3.A.p.k2, F3.A.p.k3, F3.C.q.k0, F3.C.q.k1, F3.C.q.k2, F3.C.q.k3, P3.p.k0, P3.p.k1, P3.p.k2, P3.p.k3⟩) (fun hHeld' => ?_)
        have hHeld := hHeld' (by decide)
        clear hHeld' hKc Kc
        try simp only [Act.put, List.setIfInBounds_toArray, List.set_cons_zero, List.set_cons_succ]
        refine wpAnyL_take (i := 12) (oi := ?oi_41) (v := ?v_41) ?hi_41 (by kernel_rfl) (by kernel_rfl) (by kernel_rfl) (by kernel_rfl) ?hQ_41 ?hw_41 ?hy_41 hHeld ?rest_41
        case hi_41 => simp only [List.getElem?_toArray, List.getElem?_cons_zero, List.getElem?_cons_succ]; rfl
        case hQ_41 => exact fun _ _ _ h => h
        case hw_41 => rfl
        case hy_41 => intro w0 hSw; (try dsimp only at hSw); go_simp; try with_reducible rfl
        try simp only [Act.put, List.setIfInBounds_toArray, List.set_cons_zero, List.set_cons_succ]
        have n0 := P3.p.f0
        have n1 := P3.p.f1
        have n2 := P3.p.f2
        have n3 := P3.p.f3
        have o0 := P3.p.k0
        have o1 := P3.p.k1
        have o2 := P3.p.k2
        have o3 := P3.p.k3
        refine wpAnyL_one (i := 13) (o := ?o_42) ?ho_42 (by kernel_rfl) ?hw_42 (fun Kc hKc => ?_)
        case ho_42 => simp only [List.getElem?_toArray, List.getElem?_cons_zero, List.getElem?_cons_succ]; rfl
        case hw_42 => rfl
        go_simp
        refine hKc.out _ _ (fun h => absurd rfl h) (fun _ => ?_)
        clear hKc Kc n0 n1 n2 n3 o0 o1 o2 o3
        try simp only [Act.put, List.setIfInBounds_toArray, List.set_cons_zero, List.set_cons_succ]
        refine wpAnyL_done (by kernel_rfl) ?_ _
        have FF := F3.put4 (b' := pb) hpb 0 1 2 3 (.bool h0) (.int .i64 h1) (.int .i64 h2) (.bool h3)
        have PP := P3.putLo (.bool h0) (.int .i64 h1) (.int .i64 h2) (.bool h3)
        clear F3 P3 hHeld
        go_wp2_with fail
        generalize (((w7.setCell ⟨pb, 0, none⟩ (.bool h0)).setCell ⟨pb, 1, none⟩ (.int .i64 h1)).setCell ⟨pb, 2, none⟩ (.int .i64 h2)).setCell ⟨pb, 3, none⟩ (.bool h3) = W8 at *
        clear E1 E2
        have hdr : Below W8.heap.size W8 W8.drew := (Below.refl _ _).drew
        have F1 := FF.step hdr
        have P1 := PP.step hdr
        clear FF PP hdr
        refine region_L (fun w' => w'.cell? ⟨w1.heap.size, 0, none⟩ = some (.bool x0) ∧ w'.cell? ⟨w1.heap.size, 1, none⟩ = some (.int .i64 x1) ∧ w'.cell? ⟨w1.heap.size, 2, none⟩ = some (.int .i64 x2) ∧ w'.cell? ⟨w1.heap.size, 3, none⟩ = some (.bool x3) ∧ w'.cell? ⟨w1.heap.size + 1, 4, none⟩ = some (.bool q0) ∧ w'.cell? ⟨w1.heap.size + 1, 5, none⟩ = some (.int .i64 q1) ∧ w'.cell? ⟨w1.heap.size + 1, 6, none⟩ = some (.int .i64 q2) ∧ w'.cell? ⟨w1.heap.size + 1, 7, none⟩ = some (.bool q3) ∧ w'.cell? ⟨pb, 4, none⟩ = some (.bool f0) ∧ w'.cell? ⟨pb, 5, none⟩ = some (.int .i64 f1) ∧ w'.cell? ⟨pb, 6, none⟩ = some (.int .i64 f2) ∧ w'.cell? ⟨pb, 7, none⟩ = some (.bool f3)) 13 (by kernel_rfl) ⟨F1.A.p.k0, F1.A.p.k1, F1.A.p.k2, F1.A.p.k3, F1.C.q.k0, F1.C.q.k1, F1.C.q.k2, F1.C.q.k3, P1.q.k0, P1.q.k1, P1.q.k2, P1.q.k3⟩ (fun hHeld => ?_)
        refine wpAnyL_take (i := 0) (oi := ?oi_43) (v := ?v_43) ?hi_43 (by kernel_rfl) (by kernel_rfl) (by kernel_rfl) (by kernel_rfl) ?hQ_43 ?hw_43 ?hy_43 hHeld ?rest_43
        case hi_43 => simp only [List.getElem?_toArray, List.getElem?_cons_zero, List.getElem?_cons_succ]; rfl
        case hQ_43 => exact fun _ _ _ h => h
        case hw_43 => rfl
        case hy_43 => intro w0 hSw; (try dsimp only at hSw); go_simp; try with_reducible rfl
        try simp only [Act.put, List.setIfInBounds_toArray, List.set_cons_zero, List.set_cons_succ]
        refine wpAnyL_take (i := 1) (oi := ?oi_44) (v := ?v_44) ?hi_44 (by kernel_rfl) (by kernel_rfl) (by kernel_rfl) (by kernel_rfl) ?hQ_44 ?hw_44 ?hy_44 hHeld ?rest_44
        case hi_44 => simp only [List.getElem?_toArray, List.getElem?_cons_zero, List.getElem?_cons_succ]; rfl
        case hQ_44 => exact fun _ _ _ h => h
        case hw_44 => rfl
        case hy_44 => intro w0 hSw; (try dsimp only at hSw); go_simp; try with_reducible rfl
        try simp only [Act.put, List.setIfInBounds_toArray, List.set_cons_zero, List.set_cons_succ]
        refine wpAnyL_take (i := 2) (oi := ?oi_45) (v := ?v_45) ?hi_45 (by kernel_rfl) (by kernel_rfl) (by kernel_rfl) (by kernel_rfl) ?hQ_45 ?hw_45 ?hy_45 hHeld ?rest_45
        case hi_45 => simp only [List.getElem?_toArray, List.getElem?_cons_zero, List.getElem?_cons_succ]; rfl
        case hQ_45 => exact fun _ _ _ h => h
        case hw_45 => rfl
        case hy_45 => intro w0 hSw; (try dsimp only at hSw); go_simp; try with_reducible rfl
        try simp only [Act.put, List.setIfInBounds_toArray, List.set_cons_zero, List.set_cons_succ]
        refine wpAnyL_take (i := 3) (oi := ?oi_46) (v := ?v_46) ?hi_46 (by kernel_rfl) (by kernel_rfl) (by kernel_rfl) (by kernel_rfl) ?hQ_46 ?hw_46 ?hy_46 hHeld ?rest_46
        case hi_46 => simp only [List.getElem?_toArray, List.getElem?_cons_zero, List.getElem?_cons_succ]; rfl
        case hQ_46 => exact fun _ _ _ h => h
        case hw_46 => rfl
        case hy_46 => intro w0 hSw; (try dsimp only at hSw); go_simp; try with_reducible rfl
        try simp only [Act.put, List.setIfInBounds_toArray, List.set_cons_zero, List.set_cons_succ]
        refine wpAnyL_take (i := 4) (oi := ?oi_47) (v := ?v_47) ?hi_47 (by kernel_rfl) (by kernel_rfl) (by kernel_rfl) (by kernel_rfl) ?hQ_47 ?hw_47 ?hy_47 hHeld ?rest_47
        case hi_47 => simp only [List.getElem?_toArray, List.getElem?_cons_zero, List.getElem?_cons_succ]; rfl
        case hQ_47 => exact fun _ _ _ h => h
        case hw_47 => rfl
        case hy_47 => intro w0 hSw; (try dsimp only at hSw); go_simp; try with_reducible rfl
        try simp only [Act.put, List.setIfInBounds_toArray, List.set_cons_zero, List.set_cons_succ]
        refine wpAnyL_take (i := 5) (oi := ?oi_48) (v := ?v_48) ?hi_48 (by kernel_rfl) (by kernel_rfl) (by kernel_rfl) (by kernel_rfl) ?hQ_48 ?hw_48 ?hy_48 hHeld ?rest_48
        case hi_48 => simp only [List.getElem?_toArray, List.getElem?_cons_zero, List.getElem?_cons_succ]; rfl
        case hQ_48 => exact fun _ _ _ h => h
        case hw_48 => rfl
        case hy_48 => intro w0 hSw; (try dsimp only at hSw); go_simp; try with_reducible rfl
        try simp only [Act.put, List.setIfInBounds_toArray, List.set_cons_zero, List.set_cons_succ]
        refine wpAnyL_take (i := 6) (oi := ?oi_49) (v := ?v_49) ?hi_49 (by kernel_rfl) (by kernel_rfl) (by kernel_rfl) (by kernel_rfl) ?hQ_49 ?hw_49 ?hy_49 hHeld ?rest_49
        case hi_49 => simp only [List.getElem?_toArray, List.getElem?_cons_zero, List.getElem?_cons_succ]; rfl
        case hQ_49 => exact fun _ _ _ h => h
        case hw_49 => rfl
        case hy_49 => intro w0 hSw; (try dsimp only at hSw); go_simp; try with_reducible rfl
        try simp only [Act.put, List.setIfInBounds_toArray, List.set_cons_zero, List.set_cons_succ]
        refine wpAnyL_take (i := 7) (oi := ?oi_50) (v := ?v_50) ?hi_50 (by kernel_rfl) (by kernel_rfl) (by kernel_rfl) (by kernel_rfl) ?hQ_50 ?hw_50 ?hy_50 hHeld ?rest_50
        case hi_50 => simp only [List.getElem?_toArray, List.getElem?_cons_zero, List.getElem?_cons_succ]; rfl
        case hQ_50 => exact fun _ _ _ h => h
        case hw_50 => rfl
        case hy_50 => intro w0 hSw; (try dsimp only at hSw); go_simp; try with_reducible rfl
        try simp only [Act.put, List.setIfInBounds_toArray, List.set_cons_zero, List.set_cons_succ]
        refine wpAnyL_take (i := 8) (oi := ?oi_51) (v := ?v_51) ?hi_51 (by kernel_rfl) (by kernel_rfl) (by kernel_rfl) (by kernel_rfl) ?hQ_51 ?hw_51 ?hy_51 hHeld ?rest_51
        case hi_51 => simp only [List.getElem?_toArray, List.getElem?_cons_zero, List.getElem?_cons_succ]; rfl
        case hQ_51 => exact fun _ _ _ h => h
        case hw_51 => rfl
        case hy_51 => intro w0 hSw; (try dsimp only at hSw); go_simp; try with_reducible rfl
        try simp only [Act.put, List.setIfInBounds_toArray, List.set_cons_zero, List.set_cons_succ]
        refine wpAnyL_take (i := 9) (oi := ?oi_52) (v := ?v_52) ?hi_52 (by kernel_rfl) (by kernel_rfl) (by kernel_rfl) (by kernel_rfl) ?hQ_52 ?hw_52 ?hy_52 hHeld ?rest_52
        case hi_52 => simp only [List.getElem?_toArray, List.getElem?_cons_zero, List.getElem?_cons_succ]; rfl
        case hQ_52 => exact fun _ _ _ h => h
        case hw_52 => rfl
        case hy_52 => intro w0 hSw; (try dsimp only at hSw); go_simp; try with_reducible rfl
        try simp only [Act.put, List.setIfInBounds_toArray, List.set_cons_zero, List.set_cons_succ]
        refine wpAnyL_one (i := 10) (o := ?o_53) ?ho_53 (by kernel_rfl) ?hw_53 (fun Kc hKc => ?_)
        case ho_53 => simp only [List.getElem?_toArray, List.getElem?_cons_zero, List.getElem?_cons_succ]; rfl
        case hw_53 => rfl
        go_simp
        refine (E3.out _).mono ?_
        rintro e w6 ⟨rfl, hw6⟩
        have F2 := F1.step hw6
        have P2 := P1.step hw6
        clear hw6 F1 P1
        refine hKc.out _ _ (fun _ => ⟨F2.A.p.k0, F2.A.p.k1, F2.A.p.k2, F2.A.p.k3, F2.C.q.k0, F2.C.q.k1, F2.C.q.k2, F2.C.q.k3, P2.q.k0, P2.q.k1, P2.q.k2, P2.q.k3⟩) (fun hHeld' => ?_)
        have hHeld := hHeld' (by decide)
        clear hHeld' hKc Kc
        try simp only [Act.put, List.setIfInBounds_toArray, List.set_cons_zero, List.set_cons_succ]
        refine wpAnyL_one (i := 11) (o := ?o_54) ?ho_54 (by kernel_rfl) ?hw_54 (fun Kc hKc => ?_)
        case ho_54 => simp only [List.getElem?_toArray, List.getElem?_cons_zero, List.getElem?_cons_succ]; rfl
        case hw_54 => rfl
        go_simp
        refine (E4.out _).mono ?_
        rintro e w7 ⟨rfl, hw7⟩
        have F3 := F2.step hw7
        have P3 := P2.step hw7
        clear hw7 F2 P2
        refine hKc.out _ _ (fun _ => ⟨F3.A.p.k0, F3.A.p.k1, F3.A.p.k2, F3.A.p.k3, F3.C.q.k0, F3.C.q.k1, F3.C.q.k2, F3.C.q.k3, P3.q.k0, P3.q.k1, P3.q.k2, P3.q.k3⟩) (fun hHeld' => ?_)
        have hHeld := hHeld' (by decide)
        clear hHeld' hKc Kc
        try simp only [Act.put, List.setIfInBounds_toArray, List.set_cons_zero, List.set_cons_succ]
        refine wpAnyL_take (i := 12) (oi := ?oi_55) (v := ?v_55) ?hi_55 (by kernel_rfl) (by kernel_rfl) (by kernel_rfl) (by kernel_rfl) ?hQ_55 ?hw_55 ?hy_55 hHeld ?rest_55
        case hi_55 => simp only [List.getElem?_toArray, List.getElem?_cons_zero, List.getElem?_cons_succ]; rfl
        case hQ_55 => exact fun _ _ _ h => h
        case hw_55 => rfl
        case hy_55 => intro w0 hSw; (try dsimp only at hSw); go_simp; try with_reducible rfl
        try simp only [Act.put, List.setIfInBounds_toArray, List.set_cons_zero, List.set_cons_succ]
        have n0 := P3.q.f0
        have n1 := P3.q.f1
        have n2 := P3.q.f2
        have n3 := P3.q.f3
        have o0 := P3.q.k0
        have o1 := P3.q.k1
        have o2 := P3.q.k2
        have o3 := P3.q.k3
        refine wpAnyL_one (i := 13) (o := ?o_56) ?ho_56 (by kernel_rfl) ?hw_56 (fun Kc hKc => ?_)
        case ho_56 => simp only [List.getElem?_toArray, List.getElem?_cons_zero, List.getElem?_cons_succ]; rfl
        case hw_56 => rfl
        go_simp
        refine hKc.out _ _ (fun h => absurd rfl h) (fun _ => ?_)
        clear hKc Kc n0 n1 n2 n3 o0 o1 o2 o3
        try simp only [Act.put, List.setIfInBounds_toArray, List.set_cons_zero, List.set_cons_succ]
        refine wpAnyL_done (by kernel_rfl) ?_ _
        have FF := F3.put4 (b' := pb) hpb 4 5 6 7 (.bool s0) (.int .i64 s1) (.int .i64 s2) (.bool s3)
        have PP := P3.putHi (.bool s0) (.int .i64 s1) (.int .i64 s2) (.bool s3)
        clear F3 P3 hHeld
        go_wp2_with fail
        generalize (((w7.setCell ⟨pb, 4, none⟩ (.bool s0)).setCell ⟨pb, 5, none⟩ (.int .i64 s1)).setCell ⟨pb, 6, none⟩ (.int .i64 s2)).setCell ⟨pb, 7, none⟩ (.bool s3) = W9 at *
        refine ⟨⟨2, 2, h0, h1, h2, h3, s0, s1, s2, s3, rfl, rfl, by omega, HH.out, HS.out, FF, PP⟩, ?_⟩
        simp [intOf]
      · obtain rfl : KI = 2 := by omega
        obtain ⟨g0, g1, g2, g3, hg⟩ := num_open (m 2)
        obtain ⟨r0, r1, r2, r3, hr⟩ := num_open (o 2)
        obtain ⟨h0, h1, h2, h3, hh⟩ := num_open (L 3)
        obtain ⟨s0, s1, s2, s3, hs⟩ := num_open (H 3)
        have Ma := DM.out 2 (by omega)
        have Oa := DO.out 2 (by omega)
        have La := DL.out 2 (by omega)
        have Ha := DH.out 2 (by omega)
        simp only [Nat.reduceDiv, Nat.reduceMod, if_true, Nat.reduceEqDiff, if_false, Nat.one_ne_zero, Nat.zero_div, Nat.zero_mod] at Ma Oa
        rw [HY.out, HP.out, hg] at Ma
        rw [HY.out, HP.out, hr] at Oa
        rw [hu, hg, show 2 + 1 = 3 from rfl, hh] at La
        rw [hv, hr, show 2 + 1 = 3 from rfl, hs] at Ha
        have E1 : Hid _ := Ma
        have E2 : Hid _ := La
        have E3 : Hid _ := Oa
        have E4 : Hid _ := Ha
        have HH : Hid _ := hh
        have HS : Hid _ := hs
        clear Ma Oa La Ha hu hv hg hr hh hs DM DO DL DH HX HY HP HQ hKI hk
        go_wp2_with fail
        have hq0 : IntKind.i64.wrap 0 = 0 := by decide
        have hq1 : IntKind.i64.wrap 1 = 1 := by decide
        have hq2 : IntKind.i64.wrap (Int.tdiv 2 2) = 1 := by decide
        have hdr : Below wr.heap.size wr wr.drew := (Below.refl _ _).drew
        have F1 := FF.step hdr
        have P1 := PP.step hdr
        clear FF PP hdr
        refine region_L (fun w' => w'.cell? ⟨w1.heap.size, 4, none⟩ = some (.bool y0) ∧ w'.cell? ⟨w1.heap.size, 5, none⟩ = some (.int .i64 y1) ∧ w'.cell? ⟨w1.heap.size, 6, none⟩ = some (.int .i64 y2) ∧ w'.cell? ⟨w1.heap.size, 7, none⟩ = some (.bool y3) ∧ w'.cell? ⟨w1.heap.size + 1, 0, none⟩ = some (.bool p0) ∧ w'.cell? ⟨w1.heap.size + 1, 1, none⟩ = some (.int .i64 p1) ∧ w'.cell? ⟨w1.heap.size + 1, 2, none⟩ = some (.int .i64 p2) ∧ w'.cell? ⟨w1.heap.size + 1, 3, none⟩ = some (.bool p3) ∧ w'.cell? ⟨pb, 0, none⟩ = some (.bool e0) ∧ w'.cell? ⟨pb, 1, none⟩ = some (.int .i64 e1) ∧ w'.cell? ⟨pb, 2, none⟩ = some (.int .i64 e2) ∧ w'.cell? ⟨pb, 3, none⟩ = some (.bool e3)) 13 (by kernel_rfl) ⟨F1.A.q.k0, F1.A.q.k1, F1.A.q.k2, F1.A.q.k3, F1.C.p.k0, F1.C.p.k1, F1.C.p.k2, F1.C.p.k3, P1.p.k0, P1.p.k1, P1.p.k2, P1.p.k3⟩ (fun hHeld => ?_)
        refine wpAnyL_take (i := 0) (oi := ?oi_57) (v := ?v_57) ?hi_57 (by kernel_rfl) (by kernel_rfl) (by kernel_rfl) (by kernel_rfl) ?hQ_57 ?hw_57 ?hy_57 hHeld ?rest_57
        case hi_57 => simp only [List.getElem?_toArray, List.getElem?_cons_zero, List.getElem?_cons_succ]; rfl
        case hQ_57 => exact fun _ _ _ h => h
        case hw_57 => rfl
        case hy_57 => intro w0 hSw; (try dsimp only at hSw); go_simp; try with_reducible rfl
        try simp only [Act.put, List.setIfInBounds_toArray, List.set_cons_zero, List.set_cons_succ]
        refine wpAnyL_take (i := 1) (oi := ?oi_58) (v := ?v_58) ?hi_58 (by kernel_rfl) (by kernel_rfl) (by kernel_rfl) (by kernel_rfl) ?hQ_58 ?hw_58 ?hy_58 hHeld ?rest_58
        case hi_58 => simp only [List.getElem?_toArray, List.getElem?_cons_zero, List.getElem?_cons_succ]; rfl
        case hQ_58 => exact fun _ _ _ h => h
        case hw_58 => rfl
        case hy_58 => intro w0 hSw; (try dsimp only at hSw); go_simp; try with_reducible rfl
        try simp only [Act.put, List.setIfInBounds_toArray, List.set_cons_zero, List.set_cons_succ]
        refine wpAnyL_take (i := 2) (oi := ?oi_59) (v := ?v_59) ?hi_59 (by kernel_rfl) (by kernel_rfl) (by kernel_rfl) (by kernel_rfl) ?hQ_59 ?hw_59 ?hy_59 hHeld ?rest_59
        case hi_59 => simp only [List.getElem?_toArray, List.getElem?_cons_zero, List.getElem?_cons_succ]; rfl
        case hQ_59 => exact fun _ _ _ h => h
        case hw_59 => rfl
        case hy_59 => intro w0 hSw; (try dsimp only at hSw); go_simp; try with_reducible rfl
        try simp only [Act.put, List.setIfInBounds_toArray, List.set_cons_zero, List.set_cons_succ]
        refine wpAnyL_take (i := 3) (oi := ?oi_60) (v := ?v_60) ?hi_60 (by kernel_rfl) (by kernel_rfl) (by kernel_rfl) (by kernel_rfl) ?hQ_60 ?hw_60 ?hy_60 hHeld ?rest_60
        case hi_60 => simp only [List.getElem?_toArray, List.getElem?_cons_zero, List.getElem?_cons_succ]; rfl
        case hQ_60 => exact fun _ _ _ h => h
        case hw_60 => rfl
        case hy_60 => intro w0 hSw; (try dsimp only at hSw); go_simp; try with_reducible rfl
        try simp only [Act.put, List.setIfInBounds_toArray, List.set_cons_zero, List.set_cons_succ]
        refine wpAnyL_take (i := 4) (oi := ?oi_61) (v := ?v_61) ?hi_61 (by kernel_rfl) (by kernel_rfl) (by kernel_rfl) (by kernel_rfl) ?hQ_61 ?hw_61 ?hy_61 hHeld ?rest_61
        case hi_61 => simp only [List.getElem?_toArray, List.getElem?_cons_zero, List.getElem?_cons_succ]; rfl
        case hQ_61 => exact fun _ _ _ h => h
        case hw_61 => rfl
        case hy_61 => intro w0 hSw; (try dsimp only at hSw); go_simp; try with_reducible rfl
        try simp only [Act.put, List.setIfInBounds_toArray, List.set_cons_zero, List.set_cons_succ]
        refine wpAnyL_take (i := 5) (oi := ?oi_62) (v := ?v_62) ?hi_62 (by kernel_rfl) (by kernel_rfl) (by kernel_rfl) (by kernel_rfl) ?hQ_62 ?hw_62 ?hy_62 hHeld ?rest_62
        case hi_62 => simp only [List.getElem?_toArray, List.getElem?_cons_zero, List.getElem?_cons_succ]; rfl
        case hQ_62 => exact fun _ _ _ h => h
        case hw_62 => rfl
        case hy_62 => intro w0 hSw; (try dsimp only at hSw); go_simp; try with_reducible rfl
        try simp only [Act.put, List.setIfInBounds_toArray, List.set_cons_zero, List.set_cons_succ]
        refine wpAnyL_take (i := 6) (oi := ?oi_63) (v := ?v_63) ?hi_63 (by kernel_rfl) (by kernel_rfl) (by kernel_rfl) (by kernel_rfl) ?hQ_63 ?hw_63 ?hy_63 hHeld ?rest_63
        case hi_63 => simp only [List.getElem?_toArray, List.getElem?_cons_zero, List.getElem?_cons_succ]; rfl
        case hQ_63 => exact fun _ _ _ h => h
        case hw_63 => rfl
        case hy_63 => intro w0 hSw; (try dsimp only at hSw); go_simp; try with_reducible rfl
        try simp only [Act.put, List.setIfInBounds_toArray, List.set_cons_zero, List.set_cons_succ]
        refine wpAnyL_take (i := 7) (oi := ?oi_64) (v := ?v_64) ?hi_64 (by kernel_rfl) (by kernel_rfl) (by kernel_rfl) (by kernel_rfl) ?hQ_64 ?hw_64 ?hy_64 hHeld ?rest_64
        case hi_64 => simp only [List.getElem?_toArray, List.getElem?_cons_zero, List.getElem?_cons_succ]; rfl
        case hQ_64 => exact fun _ _ _ h => h
        case hw_64 => rfl
        case hy_64 => intro w0 hSw; (try dsimp only at hSw); go_simp; try with_reducible rfl
        try simp only [Act.put, List.setIfInBounds_toArray, List.set_cons_zero, List.set_cons_succ]
        refine wpAnyL_take (i := 8) (oi := ?oi_65) (v := ?v_65) ?hi_65 (by kernel_rfl) (by kernel_rfl) (by kernel_rfl) (by kernel_rfl) ?hQ_65 ?hw_65 ?hy_65 hHeld ?rest_65
        case hi_65 => simp only [List.getElem?_toArray, List.getElem?_cons_zero, List.getElem?_cons_succ]; rfl
        case hQ_65 => exact fun _ _ _ h => h
        case hw_65 => rfl
        case hy_65 => intro w0 hSw; (try dsimp only at hSw); go_simp; try with_reducible rfl
        try simp only [Act.put, List.setIfInBounds_toArray, List.set_cons_zero, List.set_cons_succ]
        refine wpAnyL_take (i := 9) (oi := ?oi_66) (v := ?v_66) ?hi_66 (by kernel_rfl) (by kernel_rfl) (by kernel_rfl) (by kernel_rfl) ?hQ_66 ?hw_66 ?hy_66 hHeld ?rest_66
        case hi_66 => simp only [List.getElem?_toArray, List.getElem?_cons_zero, List.getElem?_cons_succ]; rfl
        case hQ_66 => exact fun _ _ _ h => h
        case hw_66 => rfl
        case hy_66 => intro w0 hSw; (try dsimp only at hSw); go_simp; try with_reducible rfl
        try simp only [Act.put, List.setIfInBounds_toArray, List.set_cons_zero, List.set_cons_succ]
        refine wpAnyL_one (i := 10) (o := ?o_67) ?ho_67 (by kernel_rfl) ?hw_67 (fun Kc hKc => ?_)
        case ho_67 => simp only [List.getElem?_toArray, List.getElem?_cons_zero, List.getElem?_cons_succ]; rfl
        case hw_67 => rfl
        go_simp
        refine (E1.out _).mono ?_
        rintro e w6 ⟨rfl, hw6⟩
        have F2 := F1.step hw6
        have P2 := P1.step hw6
        clear hw6 F1 P1
        refine hKc.out _ _ (fun _ => ⟨F2.A.q.k0, F2.A.q.k1, F2.A.q.k2, F2.A.q.k3, F2.C.p.k0, F2.C.p.k1, F2.C.p.k2, F2.C.p.k3, P2.p.k0, P2.p.k1, P2.p.k2, P2.p.k3⟩) (fun hHeld' => ?_)
        have hHeld := hHeld' (by decide)
        clear hHeld' hKc Kc
        try simp only [Act.put, List.setIfInBounds_toArray, List.set_cons_zero, List.set_cons_succ]
        refine wpAnyL_one (i := 11) (o := ?o_68) ?ho_68 (by kernel_rfl) ?hw_68 (fun Kc hKc => ?_)
        case ho_68 => simp only [List.getElem?_toArray, List.getElem?_cons_zero, List.getElem?_cons_succ]; rfl
        case hw_68 => rfl
        go_simp
        refine (E2.out _).mono ?_
        rintro e w7 ⟨rfl, hw7⟩
        have F3 := F2.step hw7
        have P3 := P2.step hw7
        clear hw7 F2 P2
        refine hKc.out _ _ (fun _ => ⟨F3.A.q.k0, F3.A.q.k1, F3.A.q.k2, F3.A.q.k3, F3.C.p.k0, F3.C.p.k1, F3.C.p.k2, F3.C.p.k3, P3.p.k0, P3.p.k1, P3.p.k2, P3.p.k3⟩) (fun hHeld' => ?_)
        have hHeld := hHeld' (by decide)
        clear hHeld' hKc Kc
        try simp only [Act.put, List.setIfInBounds_toArray, List.set_cons_zero, List.set_cons_succ]
        refine wpAnyL_take (i := 12) (oi := ?oi_69) (v := ?v_69) ?hi_69 (by kernel_rfl) (by kernel_rfl) (by kernel_rfl) (by kernel_rfl) ?hQ_69 ?hw_69 ?hy_69 hHeld ?rest_69
        case hi_69 => simp only [List.getElem?_toArray, List.getElem?_cons_zero, List.getElem?_cons_succ]; rfl
        case hQ_69 => exact fun _ _ _ h => h
        case hw_69 => rfl
        case hy_69 => intro w0 hSw; (try dsimp only at hSw); go_simp; try with_reducible rfl
        try simp only [Act.put, List.setIfInBounds_toArray, List.set_cons_zero, List.set_cons_succ]
        have n0 := P3.p.f0
        have n1 := P3.p.f1
        have n2 := P3.p.f2
        have n3 := P3.p.f3
        have o0 := P3.p.k0
        have o1 := P3.p.k1
        have o2 := P3.p.k2
        have o3 := P3.p.k3
        refine wpAnyL_one (i := 13) (o := ?o_70) ?ho_70 (by kernel_rfl) ?hw_70 (fun Kc hKc => ?_)
        case ho_70 => simp only [List.getElem?_toArray, List.getElem?_cons_zero, List.getElem?_cons_succ]; rfl
        case hw_70 => rfl
        go_simp
        refine hKc.out _ _ (fun h => absurd rfl h) (fun _ => ?_)
        clear hKc Kc n0 n1 n2 n3 o0 o1 o2 o3
        try simp only [Act.put, List.setIfInBounds_toArray, List.set_cons_zero, List.set_cons_succ]
        refine wpAnyL_done (by kernel_rfl) ?_ _
        have FF := F3.put4 (b' := pb) hpb 0 1 2 3 (.bool h0) (.int .i64 h1) (.int .i64 h2) (.bool h3)
        have PP := P3.putLo (.bool h0) (.int .i64 h1) (.int .i64 h2) (.bool h3)
        clear F3 P3 hHeld
        go_wp2_with fail
        generalize (((w7.setCell ⟨pb, 0, none⟩ (.bool h0)).setCell ⟨pb, 1, none⟩ (.int .i64 h1)).setCell ⟨pb, 2, none⟩ (.int .i64 h2)).setCell ⟨pb, 3, none⟩ (.bool h3) = W8 at *
        clear E1 E2
        have hdr : Below W8.heap.size W8 W8.drew := (Below.refl _ _).drew
        have F1 := FF.step hdr
        have P1 := PP.step hdr
        clear FF PP hdr
        refine region_L (fun w' => w'.cell? ⟨w1.heap.size, 4, none⟩ = some (.bool y0) ∧ w'.cell? ⟨w1.heap.size, 5, none⟩ = some (.int .i64 y1) ∧ w'.cell? ⟨w1.heap.size, 6, none⟩ = some (.int .i64 y2) ∧ w'.cell? ⟨w1.heap.size, 7, none⟩ = some (.bool y3) ∧ w'.cell? ⟨w1.heap.size + 1, 0, none⟩ = some (.bool p0) ∧ w'.cell? ⟨w1.heap.size + 1, 1, none⟩ = some (.int .i64 p1) ∧ w'.cell? ⟨w1.heap.size + 1, 2, none⟩ = some (.int .i64 p2) ∧ w'.cell? ⟨w1.heap.size + 1, 3, none⟩ = some (.bool p3) ∧ w'.cell? ⟨pb, 4, none⟩ = some (.bool f0) ∧ w'.cell? ⟨pb, 5, none⟩ = some (.int .i64 f1) ∧ w'.cell? ⟨pb, 6, none⟩ = some (.int .i64 f2) ∧ w'.cell? ⟨pb, 7, none⟩ = some (.bool f3)) 13 (by kernel_rfl) ⟨F1.A.q.k0, F1.A.q.k1, F1.A.q.k2, F1.A.q.k3, F1.C.p.k0, F1.C.p.k1, F1.C.p.k2, F1.C.p.k3, P1.q.k0, P1.q.k1, P1.q.k2, P1.q.k3⟩ (fun hHeld => ?_)
        refine wpAnyL_take (i := 0) (oi := ?oi_71) (v := ?v_71) ?hi_71 (by kernel_rfl) (by kernel_rfl) (by kernel_rfl) (by kernel_rfl) ?hQ_71 ?hw_71 ?hy_71 hHeld ?rest_71
        case hi_71 => simp only [List.getElem?_toArray, List.getElem?_cons_zero, List.getElem?_cons_succ]; rfl
        case hQ_71 => exact fun _ _ _ h => h
        case hw_71 => rfl
        case hy_71 => intro w0 hSw; (try dsimp only at hSw); go_simp; try with_reducible rfl
        try simp only [Act.put, List.setIfInBounds_toArray, List.set_cons_zero, List.set_cons_succ]
        refine wpAnyL_take (i := 1) (oi := ?oi_72) (v := ?v_72) ?hi_72 (by kernel_rfl) (by kernel_rfl) (by kernel_rfl) (by kernel_rfl) ?hQ_72 ?hw_72 ?hy_72 hHeld ?rest_72
        case hi_72 => simp only [List.getElem?_toArray, List.getElem?_cons_zero, List.getElem?_cons_succ]; rfl
        case hQ_72 => exact fun _ _ _ h => h
        case hw_72 => rfl
        case hy_72 => intro w0 hSw; (try dsimp only at hSw); go_simp; try with_reducible rfl
        try simp only [Act.put, List.setIfInBounds_toArray, List.set_cons_zero, List.set_cons_succ]
        refine wpAnyL_take (i := 2) (oi := ?oi_73) (v := ?v_73) ?hi_73 (by kernel_rfl) (by kernel_rfl) (by kernel_rfl) (by kernel_rfl) ?hQ_73 ?hw_73 ?hy_73 hHeld ?rest_73
        case hi_73 => simp only [List.getElem?_toArray, List.getElem?_cons_zero, List.getElem?_cons_succ]; rfl
        case hQ_73 => exact fun _ _ _ h => h
        case hw_73 => rfl
        case hy_73 => intro w0 hSw; (try dsimp only at hSw); go_simp; try with_reducible rfl
        try simp only [Act.put, List.setIfInBounds_toArray, List.set_cons_zero, List.set_cons_succ]
        refine wpAnyL_take (i := 3) (oi := ?oi_74) (v := ?v_74) ?hi_74 (by kernel_rfl) (by kernel_rfl) (by kernel_rfl) (by kernel_rfl) ?hQ_74 ?hw_74 ?hy_74 hHeld ?rest_74
        case hi_74 => simp only [List.getElem?_toArray, List.getElem?_cons_zero, List.getElem?_cons_succ]; rfl
        case hQ_74 => exact fun _ _ _ h => h
        case hw_74 => rfl
        case hy_74 => intro w0 hSw; (try dsimp only at hSw); go_simp; try with_reducible rfl
        try simp only [Act.put, List.setIfInBounds_toArray, List.set_cons_zero, List.set_cons_succ]
        refine wpAnyL_take (i := 4) (oi := ?oi_75) (v := ?v_75) ?hi_75 (by kernel_rfl) (by kernel_rfl) (by kernel_rfl) (by kernel_rfl) ?hQ_75 ?hw_75 ?hy_75 hHeld ?rest_75
        case hi_75 => simp only [List.getElem?_toArray, List.getElem?_cons_zero, List.getElem?_cons_succ]; rfl
        case hQ_75 => exact fun _ _ _ h => h
        case hw_75 => rfl
        case hy_75 => intro w0 hSw; (try dsimp only at hSw); go_simp; try with_reducible rfl
        try simp only [Act.put, List.setIfInBounds_toArray, List.set_cons_zero, List.set_cons_succ]
        refine wpAnyL_take (i := 5) (oi := ?oi_76) (v := ?v_76) ?hi_76 (by kernel_rfl) (by kernel_rfl) (by kernel_rfl) (by kernel_rfl) ?hQ_76 ?hw_76 ?hy_76 hHeld ?rest_76
        case hi_76 => simp only [List.getElem?_toArray, List.getElem?_cons_zero, List.getElem?_cons_succ]; rfl
        case hQ_76 => exact fun _ _ _ h => h
        case hw_76 => rfl
        case hy_76 => intro w0 hSw; (try dsimp only at hSw); go_simp; try with_reducible rfl
        try simp only [Act.put, List.setIfInBounds_toArray, List.set_cons_zero, List.set_cons_succ]
        refine wpAnyL_take (i := 6) (oi := ?oi_77) (v := ?v_77) ?hi_77 (by kernel_rfl) (by kernel_rfl) (by kernel_rfl) (by kernel_rfl) ?hQ_77 ?hw_77 ?hy_77 hHeld ?rest_77
        case hi_77 => simp only [List.getElem?_toArray, List.getElem?_cons_zero, List.getElem?_cons_succ]; rfl
        case hQ_77 => exact fun _ _ _ h => h
        case hw_77 => rfl
        case hy_77 => intro w0 hSw; (try dsimp only at hSw); go_simp; try with_reducible rfl
        try simp only [Act.put, List.setIfInBounds_toArray, List.set_cons_zero, List.set_cons_succ]
        refine wpAnyL_take (i := 7) (oi := ?oi_78) (v := ?v_78) ?hi_78 (by kernel_rfl) (by kernel_rfl) (by kernel_rfl) (by kernel_rfl) ?hQ_78 ?hw_78 ?hy_78 hHeld ?rest_78
        case hi_78 => simp only [List.getElem?_toArray, List.getElem?_cons_zero, List.getElem?_cons_succ]; rfl
        case hQ_78 => exact fun _ _ _ h => h
        case hw_78 => rfl
        case hy_78 => intro w0 hSw; (try dsimp only at hSw); go_simp; try with_reducible rfl
        try simp only [Act.put, List.setIfInBounds_toArray, List.set_cons_zero, List.set_cons_succ]
        refine wpAnyL_take (i := 8) (oi := ?oi_79) (v := ?v_79) ?hi_79 (by kernel_rfl) (by kernel_rfl) (by kernel_rfl) (by kernel_rfl) ?hQ_79 ?hw_79 ?hy_79 hHeld ?rest_79
        case hi_79 => simp only [List.getElem?_toArray, List.getElem?_cons_zero, List.getElem?_cons_succ]; rfl
        case hQ_79 => exact fun _ _ _ h => h
        case hw_79 => rfl
        case hy_79 => intro w0 hSw; (try dsimp only at hSw); go_simp; try with_reducible rfl
        try simp only [Act.put, List.setIfInBounds_toArray, List.set_cons_zero, List.set_cons_succ]
        refine wpAnyL_take (i := 9) (oi := ?oi_80) (v := ?v_80) ?hi_80 (by kernel_rfl) (by kernel_rfl) (by kernel_rfl) (by kernel_rfl) ?hQ_80 ?hw_80 ?hy_80 hHeld ?rest_80
        case hi_80 => simp only [List.getElem?_toArray, List.getElem?_cons_zero, List.getElem?_cons_succ]; rfl
        case hQ_80 => exact fun _ _ _ h => h
        case hw_80 => rfl
        case hy_80 => intro w0 hSw; (try dsimp only at hSw); go_simp; try with_reducible rfl
        try simp only [Act.put, List.setIfInBounds_toArray, List.set_cons_zero, List.set_cons_succ]
        refine wpAnyL_one (i := 10) (o := ?o_81) ?ho_81 (by kernel_rfl) ?hw_81 (fun Kc hKc => ?_)
        case ho_81 => simp only [List.getElem?_toArray, List.getElem?_cons_zero, List.getElem?_cons_succ]; rfl
        case hw_81 => rfl
        go_simp
        refine (E3.out _).mono ?_
        rintro e w6 ⟨rfl, hw6⟩
        have F2 := F1.step hw6
        have P2 := P1.step hw6
        clear hw6 F1 P1
        refine hKc.out _ _ (fun _ => ⟨F2.A.q.k0, F2.A.q.k1, F2.A.q.k2, F2.A.q.k3, F2.C.p.k0, F2.C.p.k1, F2.C.p.k2, F2.C.p.k3, P2.q.k0, P2.q.k1, P2.q.k2, P2.q.k3⟩) (fun hHeld' => ?_)
        have hHeld := hHeld' (by decide)
        clear hHeld' hKc Kc
        try simp only [Act.put, List.setIfInBounds_toArray, List.set_cons_zero, List.set_cons_succ]
        refine wpAnyL_one (i := 11) (o := ?o_82) ?ho_82 (by kernel_rfl) ?hw_82 (fun Kc hKc => ?_)
        case ho_82 => simp only [List.getElem?_toArray, List.getElem?_cons_zero, List.getElem?_cons_succ]; rfl
        case hw_82 => rfl
        go_simp
        refine (E4.out _).mono ?_
        rintro e w7 ⟨rfl, hw7⟩
        have F3 := F2.step hw7
        have P3 := P2.step hw7
        clear hw7 F2 P2
        refine hKc.out _ _ (fun _ => ⟨F3.A.q.k0, F3.A.q.k1, F3.A.q.k2, F3.A.q.k3, F3.C.p.k0, F3.C.p.k1, F3.C.p.k2, F3.C.p.k3, P3.q.k0, P3.q.k1, P3.q.k2, P3.q.k3⟩) (fun hHeld' => ?_)
        have hHeld := hHeld' (by decide)
        clear hHeld' hKc Kc
        try simp only [Act.put, List.setIfInBounds_toArray, List.set_cons_zero, List.set_cons_succ]
        refine wpAnyL_take (i := 12) (oi := ?oi_83) (v := ?v_83) ?hi_83 (by kernel_rfl) (by kernel_rfl) (by kernel_rfl) (by kernel_rfl) ?hQ_83 ?hw_83 ?hy_83 hHeld ?rest_83
        case hi_83 => simp only [List.getElem?_toArray, List.getElem?_cons_zero, List.getElem?_cons_succ]; rfl
        case hQ_83 => exact fun _ _ _ h => h
        case hw_83 => rfl
        case hy_83 => intro w0 hSw; (try dsimp only at hSw); go_simp; try with_reducible rfl
        try simp only [Act.put, List.setIfInBounds_toArray, List.set_cons_zero, List.set_cons_succ]
        have n0 := P3.q.f0
        have n1 := P3.q.f1
        have n2 := P3.q.f2
        have n3 := P3.q.f3
        have o0 := P3.q.k0
        have o1 := P3.q.k1
        have o2 := P3.q.k2
        have o3 := P3.q.k3
        refine wpAnyL_one (i := 13) (o := ?o_84) ?ho_84 (by kernel_rfl) ?hw_84 (fun Kc hKc => ?_)
        case ho_84 => simp only [List.getElem?_toArray, List.getElem?_cons_zero, List.getElem?_cons_succ]; rfl
        case hw_84 => rfl
        go_simp
        refine hKc.out _ _ (fun h => absurd rfl h) (fun _ => ?_)
        clear hKc Kc n0 n1 n2 n3 o0 o1 o2 o3
        try simp only [Act.put, List.setIfInBounds_toArray, List.set_cons_zero, List.set_cons_succ]
        refine wpAnyL_done (by kernel_rfl) ?_ _
        have FF := F3.put4 (b' := pb) hpb 4 5 6 7 (.bool s0) (.int .i64 s1) (.int .i64 s2) (.bool s3)
        have PP := P3.putHi (.bool s0) (.int .i64 s1) (.int .i64 s2) (.bool s3)
        clear F3 P3 hHeld
        go_wp2_with fail
        generalize (((w7.setCell ⟨pb, 4, none⟩ (.bool s0)).setCell ⟨pb, 5, none⟩ (.int .i64 s1)).setCell ⟨pb, 6, none⟩ (.int .i64 s2)).setCell ⟨pb, 7, none⟩ (.bool s3) = W9 at *
        refine ⟨⟨3, 3, h0, h1, h2, h3, s0, s1, s2, s3, rfl, rfl, by omega, HH.out, HS.out, FF, PP⟩, ?_⟩
        simp [intOf]
      · obtain rfl : KI = 3 := by omega
        obtain ⟨g0, g1, g2, g3, hg⟩ := num_open (m 3)
        obtain ⟨r0, r1, r2, r3, hr⟩ := num_open (o 3)
        obtain ⟨h0, h1, h2, h3, hh⟩ := num_open (L 4)
        obtain ⟨s0, s1, s2, s3, hs⟩ := num_open (H 4)
        have Ma := DM.out 3 (by omega)
        have Oa := DO.out 3 (by omega)
        have La := DL.out 3 (by omega)
        have Ha := DH.out 3 (by omega)
        simp only [Nat.reduceDiv, Nat.reduceMod, if_true, Nat.reduceEqDiff, if_false, Nat.one_ne_zero, Nat.zero_div, Nat.zero_mod] at Ma Oa
        rw [HY.out, HQ.out, hg] at Ma
        rw [HY.out, HQ.out, hr] at Oa
        rw [hu, hg, show 3 + 1 = 4 from rfl, hh] at La
        rw [hv, hr, show 3 + 1 = 4 from rfl, hs] at Ha
        have E1 : Hid _ := Ma
        have E2 : Hid _ := La
        have E3 : Hid _ := Oa
        have E4 : Hid _ := Ha
        have HH : Hid _ := hh
        have HS : Hid _ := hs
        clear Ma Oa La Ha hu hv hg hr hh hs DM DO DL DH HX HY HP HQ hKI hk
        go_wp2_with fail
        have hq0 : IntKind.i64.wrap 0 = 0 := by decide
        have hq1 : IntKind.i64.wrap 1 = 1 := by decide
        have hq2 : IntKind.i64.wrap (Int.tdiv 3 2) = 1 := by decide
        have hdr : Below wr.heap.size wr wr.drew := (Below.refl _ _).drew
        have F1 := FF.step hdr
        have P1 := PP.step hdr
        clear FF PP hdr
        refine region_L (fun w' => w'.cell? ⟨w1.heap.size, 4, none⟩ = some (.bool y0) ∧ w'.cell? ⟨w1.heap.size, 5, none⟩ = some (.int .i64 y1) ∧ w'.cell? ⟨w1.heap.size, 6, none⟩ = some (.int .i64 y2) ∧ w'.cell? ⟨w1.heap.size, 7, none⟩ = some (.bool y3) ∧ w'.cell? ⟨w1.heap.size + 1, 4, none⟩ = some (.bool q0) ∧ w'.cell? ⟨w1.heap.size + 1, 5, none⟩ = some (.int .i64 q1) ∧ w'.cell? ⟨w1.heap.size + 1, 6, none⟩ = some (.int .i64 q2) ∧ w'.cell? ⟨w1.heap.size + 1, 7, none⟩ = some (.bool q3) ∧ w'.cell? ⟨pb, 0, none⟩ = some (.bool e0) ∧ w'.cell? ⟨pb, 1, none⟩ = some (.int .i64 e1) ∧ w'.cell? ⟨pb, 2, none⟩ = some (.int .i64 e2) ∧ w'.cell? ⟨pb, 3, none⟩ = some (.bool e3)) 13 (by kernel_rfl) ⟨F1.A.q.k0, F1.A.q.k1, F1.A.q.k2, F1.A.q.k3, F1.C.q.k0, F1.C.q.k1, F1.C.q.k2, F1.C.q.k3, P1.p.k0, P1.p.k1, P1.p.k2, P1.p.k3⟩ (fun hHeld => ?_)
        refine wpAnyL_take (i := 0) (oi := ?oi_85) (v := ?v_85) ?hi_85 (by kernel_rfl) (by kernel_rfl) (by kernel_rfl) (by kernel_rfl) ?hQ_85 ?hw_85 ?hy_85 hHeld ?rest_85
        case hi_85 => simp only [List.getElem?_toArray, List.getElem?_cons_zero, List.getElem?_cons_succ]; rfl
        case hQ_85 => exact fun _ _ _ h => h
        case hw_85 => rfl
        case hy_85 => intro w0 hSw; (try dsimp only at hSw); go_simp; try with_reducible rfl
        try simp only [Act.put, List.setIfInBounds_toArray, List.set_cons_zero, List.set_cons_succ]
        refine wpAnyL_take (i := 1) (oi := ?oi_86) (v := ?v_86) ?hi_86 (by kernel_rfl) (by kernel_rfl) (by kernel_rfl) (by kernel_rfl) ?hQ_86 ?hw_86 ?hy_86 hHeld ?rest_86
        case hi_86 => simp only [List.getElem?_toArray, List.getElem?_cons_zero, List.getElem?_cons_succ]; rfl
        case hQ_86 => exact fun _ _ _ h => h
        case hw_86 => rfl
        case hy_86 => intro w0 hSw; (try dsimp only at hSw); go_simp; try with_reducible rfl
        try simp only [Act.put, List.setIfInBounds_toArray, List.set_cons_zero, List.set_cons_succ]
        refine wpAnyL_take (i := 2) (oi := ?oi_87) (v := ?v_87) ?hi_87 (by kernel_rfl) (by kernel_rfl) (by kernel_rfl) (by kernel_rfl) ?hQ_87 ?hw_87 ?hy_87 hHeld ?rest_87
        case hi_87 => simp only [List.getElem?_toArray, List.getElem?_cons_zero, List.getElem?_cons_succ]; rfl
        case hQ_87 => exact fun _ _ _ h => h
        case hw_87 => rfl
        case hy_87 => intro w0 hSw; (try dsimp only at hSw); go_simp; try with_reducible rfl
        try simp only [Act.put, List.setIfInBounds_toArray, List.set_cons_zero, List.set_cons_succ]
        refine wpAnyL_take (i := 3) (oi := ?oi_88) (v := ?v_88) ?hi_88 (by kernel_rfl) (by kernel_rfl) (by kernel_rfl) (by kernel_rfl) ?hQ_88 ?hw_88 ?hy_88 hHeld ?rest_88
        case hi_88 => simp only [List.getElem?_toArray, List.getElem?_cons_zero, List.getElem?_cons_succ]; rfl
        case hQ_88 => exact fun _ _ _ h => h
        case hw_88 => rfl
        case hy_88 => intro w0 hSw; (try dsimp only at hSw); go_simp; try with_reducible rfl
        try simp only [Act.put, List.setIfInBounds_toArray, List.set_cons_zero, List.set_cons_succ]
        refine wpAnyL_take (i := 4) (oi := ?oi_89) (v := ?v_89) ?hi_89 (by kernel_rfl) (by kernel_rfl) (by kernel_rfl) (by kernel_rfl) ?hQ_89 ?hw_89 ?hy_89 hHeld ?rest_89
        case hi_89 => simp only [List.getElem?_toArray, List.getElem?_cons_zero, List.getElem?_cons_succ]; rfl
        case hQ_89 => exact fun _ _ _ h => h
        case hw_89 => rfl
        case hy_89 => intro w0 hSw; (try dsimp only at hSw); go_simp; try with_reducible rfl
        try simp only [Act.put, List.setIfInBounds_toArray, List.set_cons_zero, List.set_cons_succ]
        refine wpAnyL_take (i := 5) (oi := ?oi_90) (v := ?v_90) ?hi_90 (by kernel_rfl) (by kernel_rfl) (by kernel_rfl) (by kernel_rfl) ?hQ_90 ?hw_90 ?hy_90 hHeld ?rest_90
        case hi_90 => simp only [List.getElem?_toArray, List.getElem?_cons_zero, List.getElem?_cons_succ]; rfl
        case hQ_90 => exact fun _ _ _ h => h
        case hw_90 => rfl
        case hy_90 => intro w0 hSw; (try dsimp only at hSw); go_simp; try with_reducible rfl
        try simp only [Act.put, List.setIfInBounds_toArray, List.set_cons_zero, List.set_cons_succ]
        refine wpAnyL_take (i := 6) (oi := ?oi_91) (v := ?v_91) ?hi_91 (by kernel_rfl) (by kernel_rfl) (by kernel_rfl) (by kernel_rfl) ?hQ_91 ?hw_91 ?hy_91 hHeld ?rest_91
        case hi_91 => simp only [List.getElem?_toArray, List.getElem?_cons_zero, List.getElem?_cons_succ]; rfl
        case hQ_91 => exact fun _ _ _ h => h
        case hw_91 => rfl
        case hy_91 => intro w0 hSw; (try dsimp only at hSw); go_simp; try with_reducible rfl
        try simp only [Act.put, List.setIfInBounds_toArray, List.set_cons_zero, List.set_cons_succ]
        refine wpAnyL_take (i := 7) (oi := ?oi_92) (v := ?v_92) ?hi_92 (by kernel_rfl) (by kernel_rfl) (by kernel_rfl) (by kernel_rfl) ?hQ_92 ?hw_92 ?hy_92 hHeld ?rest_92
        case hi_92 => simp only [List.getElem?_toArray, List.getElem?_cons_zero, List.getElem?_cons_succ]; rfl
        case hQ_92 => exact fun _ _ _ h => h
        case hw_92 => rfl
        case hy_92 => intro w0 hSw; (try dsimp only at hSw); go_simp; try with_reducible rfl
        try simp only [Act.put, List.setIfInBounds_toArray, List.set_cons_zero, List.set_cons_succ]
        refine wpAnyL_take (i := 8) (oi := ?oi_93) (v := ?v_93) ?hi_93 (by kernel_rfl) (by kernel_rfl) (by kernel_rfl) (by kernel_rfl) ?hQ_93 ?hw_93 ?hy_93 hHeld ?rest_93
        case hi_93 => simp only [List.getElem?_toArray, List.getElem?_cons_zero, List.getElem?_cons_succ]; rfl
        case hQ_93 => exact fun _ _ _ h => h
        case hw_93 => rfl
        case hy_93 => intro w0 hSw; (try dsimp only at hSw); go_simp; try with_reducible rfl
        try simp only [Act.put, List.setIfInBounds_toArray, List.set_cons_zero, List.set_cons_succ]
        refine wpAnyL_take (i := 9) (oi := ?oi_94) (v := ?v_94) ?hi_94 (by kernel_rfl) (by kernel_rfl) (by kernel_rfl) (by kernel_rfl) ?hQ_94 ?hw_94 ?hy_94 hHeld ?rest_94
        case hi_94 => simp only [List.getElem?_toArray, List.getElem?_cons_zero, List.getElem?_cons_succ]; rfl
        case hQ_94 => exact fun _ _ _ h => h
        case hw_94 => rfl
        case hy_94 => intro w0 hSw; (try dsimp only at hSw); go_simp; try with_reducible rfl
        try simp only [Act.put, List.setIfInBounds_toArray, List.set_cons_zero, List.set_cons_succ]
        refine wpAnyL_one (i := 10) (o := ?o_95) ?ho_95 (by kernel_rfl) ?hw_95 (fun Kc hKc => ?_)
        case ho_95 => simp only [List.getElem?_toArray, List.getElem?_cons_zero, List.getElem?_cons_succ]; rfl
        case hw_95 => rfl
        go_simp
        refine (E1.out _).mono ?_
        rintro e w6 ⟨rfl, hw6⟩
        have F2 := F1.step hw6
        have P2 := P1.step hw6
        clear hw6 F1 P1
        refine hKc.out _ _ (fun _ => ⟨F2.A.q.k0, F2.A.q.k1, F2.A.q.k2, F2.A.q.k3, F2.C.q.k0, F2.C.q.k1, F2.C.q.k2, F2.C.q.k3, P2.p.k0, P2.p.k1, P2.p.k2, P2.p.k3⟩) (fun hHeld' => ?_)
        have hHeld := hHeld' (by decide)
        clear hHeld' hKc Kc
        try simp only [Act.put, List.setIfInBounds_toArray, List.set_cons_zero, List.set_cons_succ]
        refine wpAnyL_one (i := 11) (o := ?o_96) ?ho_96 (by kernel_rfl) ?hw_96 (fun Kc hKc => ?_)
        case ho_96 => simp only [List.getElem?_toArray, List.getElem?_cons_zero, List.getElem?_cons_succ]; rfl
        case hw_96 => rfl
        go_simp
        refine (E2.out _).mono ?_
        rintro e w7 ⟨rfl, hw7⟩
        have F3 := F2.step hw7
        have P3 := P2.step hw7
        clear hw7 F2 P2
        refine hKc.out _ _ (fun _ => ⟨F3.A.q.k0, F3.A.q.k1, F3.A.q.k2, F3.A.q.k3, F3.C.q.k0, F3.C.q.k1, F3.C.q.k2, F3.C.q.k3, P3.p.k0, P3.p.k1, P3.p.k2, P3.p.k3⟩) (fun hHeld' => ?_)
        have hHeld := hHeld' (by decide)
        clear hHeld' hKc Kc
        try simp only [Act.put, List.setIfInBounds_toArray, List.set_cons_zero, List.set_cons_succ]
        refine wpAnyL_take (i := 12) (oi := ?oi_97) (v := ?v_97) ?hi_97 (by kernel_rfl) (by kernel_rfl) (by kernel_rfl) (by kernel_rfl) ?hQ_97 ?hw_97 ?hy_97 hHeld ?rest_97
        case hi_97 => simp only [List.getElem?_toArray, List.getElem?_cons_zero, List.getElem?_cons_succ]; rfl
        case hQ_97 => exact fun _ _ _ h => h
        case hw_97 => rfl
        case hy_97 => intro w0 hSw; (try dsimp only at hSw); go_simp; try with_reducible rfl
        try simp only [Act.put, List.setIfInBounds_toArray, List.set_cons_zero, List.set_cons_succ]
        have n0 := P3.p.f0
        have n1 := P3.p.f1
        have n2 := P3.p.f2
        have n3 := P3.p.f3
        have o0 := P3.p.k0
        have o1 := P3.p.k1
        have o2 := P3.p.k2
        have o3 := P3.p.k3
        refine wpAnyL_one (i := 13) (o := ?o_98) ?ho_98 (by kernel_rfl) ?hw_98 (fun Kc hKc => ?_)
        case ho_98 => simp only [List.getElem?_toArray, List.getElem?_cons_zero, List.getElem?_cons_succ]; rfl
        case hw_98 => rfl
        go_simp
        refine hKc.out _ _ (fun h => absurd rfl h) (fun _ => ?_)
        clear hKc Kc n0 n1 n2 n3 o0 o1 o2 o3
        try simp only [Act.put, List.setIfInBounds_toArray, List.set_cons_zero, List.set_cons_succ]
        refine wpAnyL_done (by kernel_rfl) ?_ _
        have FF := F3.put4 (b' := pb) hpb 0 1 2 3 (.bool h0) (.int .i64 h1) (.int .i64 h2) (.bool h3)
        have PP := P3.putLo (.bool h0) (.int .i64 h1) (.int .i64 h2) (.bool h3)
        clear F3 P3 hHeld
        go_wp2_with fail
        generalize (((w7.setCell ⟨pb, 0, none⟩ (.bool h0)).setCell ⟨pb, 1, none⟩ (.int .i64 h1)).setCell ⟨pb, 2, none⟩ (.int .i64 h2)).setCell ⟨pb, 3, none⟩ (.bool h3) = W8 at *
        clear E1 E2
        have hdr : Below W8.heap.size W8 W8.drew := (Below.refl _ _).drew
        have F1 := FF.step hdr
        have P1 := PP.step hdr
        clear FF PP hdr
        refine region_L (fun w' => w'.cell? ⟨w1.heap.size, 4, none⟩ = some (.bool y0) ∧ w'.cell? ⟨w1.heap.size, 5, none⟩ = some (.int .i64 y1) ∧ w'.cell? ⟨w1.heap.size, 6, none⟩ = some (.int .i64 y2) ∧ w'.cell? ⟨w1.heap.size, 7, none⟩ = some (.bool y3) ∧ w'.cell? ⟨w1.heap.size + 1, 4, none⟩ = some (.bool q0) ∧ w'.cell? ⟨w1.heap.size + 1, 5, none⟩ = some (.int .i64 q1) ∧ w'.cell? ⟨w1.heap.size + 1, 6, none⟩ = some (.int .i64 q2) ∧ w'.cell? ⟨w1.heap.size + 1, 7, none⟩ = some (.bool q3) ∧ w'.cell? ⟨pb, 4, none⟩ = some (.bool f0) ∧ w'.cell? ⟨pb, 5, none⟩ = some (.int .i64 f1) ∧ w'.cell? ⟨pb, 6, none⟩ = some (.int .i64 f2) ∧ w'.cell? ⟨pb, 7, none⟩ = some (.bool f3)) 13 (by kernel_rfl) ⟨F1.A.q.k0, F1.A.q.k1, F1.A.q.k2, F1.A.q.k3, F1.C.q.k0, F1.C.q.k1, F1.C.q.k2, F1.C.q.k3, P1.q.k0, P1.q.k1, P1.q.k2, P1.q.k3⟩ (fun hHeld => ?_)
        refine wpAnyL_take (i := 0) (oi := ?oi_99) (v := ?v_99) ?hi_99 (by kernel_rfl) (by kernel_rfl) (by kernel_rfl) (by kernel_rfl) ?hQ_99 ?hw_99 ?hy_99 hHeld ?rest_99
        case hi_99 => simp only [List.getElem?_toArray, List.getElem?_cons_zero, List.getElem?_cons_succ]; rfl
        case hQ_99 => exact fun _ _ _ h => h
        case hw_99 => rfl
        case hy_99 => intro w0 hSw; (try dsimp only at hSw); go_simp; try with_reducible rfl
        try simp only [Act.put, List.setIfInBounds_toArray, List.set_cons_zero, List.set_cons_succ]
        refine wpAnyL_take (i := 1) (oi := ?oi_100) (v := ?v_100) ?hi_100 (by kernel_rfl) (by kernel_rfl) (by kernel_rfl) (by kernel_rfl) ?hQ_100 ?hw_100 ?hy_100 hHeld ?rest_100
        case hi_100 => simp only [List.getElem?_toArray, List.getElem?_cons_zero, List.getElem?_cons_succ]; rfl
        case hQ_100 => exact fun _ _ _ h => h
        case hw_100 => rfl
        case hy_100 => intro w0 hSw; (try dsimp only at hSw); go_simp; try with_reducible rfl
        try simp only [Act.put, List.setIfInBounds_toArray, List.set_cons_zero, List.set_cons_succ]
        refine wpAnyL_take (i := 2) (oi := ?oi_101) (v := ?v_101) ?hi_101 (by kernel_rfl) (by kernel_rfl) (by kernel_rfl) (by kernel_rfl) ?hQ_101 ?hw_101 ?hy_101 hHeld ?rest_101
        case hi_101 => simp only [List.getElem?_toArray, List.getElem?_cons_zero, List.getElem?_cons_succ]; rfl
        case hQ_101 => exact fun _ _ _ h => h
        case hw_101 => rfl
        case hy_101 => intro w0 hSw; (try dsimp only at hSw); go_simp; try with_reducible rfl
        try simp only [Act.put, List.setIfInBounds_toArray, List.set_cons_zero, List.set_cons_succ]
        refine wpAnyL_take (i := 3) (oi := ?oi_102) (v := ?v_102) ?hi_102 (by kernel_rfl) (by kernel_rfl) (by kernel_rfl) (by kernel_rfl) ?hQ_102 ?hw_102 ?hy_102 hHeld ?rest_102
        case hi_102 => simp only [List.getElem?_toArray, List.getElem?_cons_zero, List.getElem?_cons_succ]; rfl
        case hQ_102 => exact fun _ _ _ h => h
        case hw_102 => rfl
        case hy_102 => intro w0 hSw; (try dsimp only at hSw); go_simp; try with_reducible rfl
        try simp only [Act.put, List.setIfInBounds_toArray, List.set_cons_zero, List.set_cons_succ]
        refine wpAnyL_take (i := 4) (oi := ?oi_103) (v := ?v_103) ?hi_103 (by kernel_rfl) (by kernel_rfl) (by kernel_rfl) (by kernel_rfl) ?hQ_103 ?hw_103 ?hy_103 hHeld ?rest_103
        case hi_103 => simp only [List.getElem?_toArray, List.getElem?_cons_zero, List.getElem?_cons_succ]; rfl
        case hQ_103 => exact fun _ _ _ h => h
        case hw_103 => rfl
        case hy_103 => intro w0 hSw; (try dsimp only at hSw); go_simp; try with_reducible rfl
        try simp only [Act.put, List.setIfInBounds_toArray, List.set_cons_zero, List.set_cons_succ]
        refine wpAnyL_take (i := 5) (oi := ?oi_104) (v := ?v_104) ?hi_104 (by kernel_rfl) (by kernel_rfl) (by kernel_rfl) (by kernel_rfl) ?hQ_104 ?hw_104 ?hy_104 hHeld ?rest_104
        case hi_104 => simp only [List.getElem?_toArray, List.getElem?_cons_zero, List.getElem?_cons_succ]; rfl
        case hQ_104 => exact fun _ _ _ h => h
        case hw_104 => rfl
        case hy_104 => intro w0 hSw; (try dsimp only at hSw); go_simp; try with_reducible rfl
        try simp only [Act.put, List.setIfInBounds_toArray, List.set_cons_zero, List.set_cons_succ]
        refine wpAnyL_take (i := 6) (oi := ?oi_105) (v := ?v_105) ?hi_105 (by kernel_rfl) (by kernel_rfl) (by kernel_rfl) (by kernel_rfl) ?hQ_105 ?hw_105 ?hy_105 hHeld ?rest_105
        case hi_105 => simp only [List.getElem?_toArray, List.getElem?_cons_zero, List.getElem?_cons_succ]; rfl
        case hQ_105 => exact fun _ _ _ h => h
        case hw_105 => rfl
        case hy_105 => intro w0 hSw; (try dsimp only at hSw); go_simp; try with_reducible rfl
        try simp only [Act.put, List.setIfInBounds_toArray, List.set_cons_zero, List.set_cons_succ]
        refine wpAnyL_take (i := 7) (oi := ?oi_106) (v := ?v_106) ?hi_106 (by kernel_rfl) (by kernel_rfl) (by kernel_rfl) (by kernel_rfl) ?hQ_106 ?hw_106 ?hy_106 hHeld ?rest_106
        case hi_106 => simp only [List.getElem?_toArray, List.getElem?_cons_zero, List.getElem?_cons_succ]; rfl
        case hQ_106 => exact fun _ _ _ h => h
        case hw_106 => rfl
        case hy_106 => intro w0 hSw; (try dsimp only at hSw); go_simp; try with_reducible rfl
        try simp only [Act.put, List.setIfInBounds_toArray, List.set_cons_zero, List.set_cons_succ]
        refine wpAnyL_take (i := 8) (oi := ?oi_107) (v := ?v_107) ?hi_107 (by kernel_rfl) (by kernel_rfl) (by kernel_rfl) (by kernel_rfl) ?hQ_107 ?hw_107 ?hy_107 hHeld ?rest_107
        case hi_107 => simp only [List.getElem?_toArray, List.getElem?_cons_zero, List.getElem?_cons_succ]; rfl
        case hQ_107 => exact fun _ _ _ h => h
        case hw_107 => rfl
        case hy_107 => intro w0 hSw; (try dsimp only at hSw); go_simp; try with_reducible rfl
        try simp only [Act.put, List.setIfInBounds_toArray, List.set_cons_zero, List.set_cons_succ]
        refine wpAnyL_take (i := 9) (oi := ?oi_108) (v := ?v_108) ?hi_108 (by kernel_rfl) (by kernel_rfl) (by kernel_rfl) (by kernel_rfl) ?hQ_108 ?hw_108 ?hy_108 hHeld ?rest_108
        case hi_108 => simp only [List.getElem?_toArray, List.getElem?_cons_zero, List.getElem?_cons_succ]; rfl
        case hQ_108 => exact fun _ _ _ h => h
        case hw_108 => rfl
        case hy_108 => intro w0 hSw; (try dsimp only at hSw); go_simp; try with_reducible rfl
        try simp only [Act.put, List.setIfInBounds_toArray, List.set_cons_zero, List.set_cons_succ]
        refine wpAnyL_one (i := 10) (o := ?o_109) ?ho_109 (by kernel_rfl) ?hw_109 (fun Kc hKc => ?_)
        case ho_109 => simp only [List.getElem?_toArray, List.getElem?_cons_zero, List.getElem?_cons_succ]; rfl
        case hw_109 => rfl
        go_simp
        refine (E3.out _).mono ?_
        rintro e w6 ⟨rfl, hw6⟩
        have F2 := F1.step hw6
        have P2 := P1.step hw6
        clear hw6 F1 P1
        refine hKc.out _ _ (fun _ => ⟨F2.A.q.k0, F2.A.q.k1, F2.A.q.k2, F2.A.q.k3, F2.C.q.k0, F2.C.q.k1, F2.C.q.k2, F2.C.q.k3, P2.q.k0, P2.q.k1, P2.q.k2, P2.q.k3⟩) (fun hHeld' => ?_)
        have hHeld := hHeld' (by decide)
        clear hHeld' hKc Kc
        try simp only [Act.put, List.setIfInBounds_toArray, List.set_cons_zero, List.set_cons_succ]
        refine wpAnyL_one (i := 11) (o := ?o_110) ?ho_110 (by kernel_rfl) ?hw_110 (fun Kc hKc => ?_)
        case ho_110 => simp only [List.getElem?_toArray, List.getElem?_cons_zero, List.getElem?_cons_succ]; rfl
        case hw_110 => rfl
        go_simp
        refine (E4.out _).mono ?_
        rintro e w7 ⟨rfl, hw7⟩
        have F3 := F2.step hw7
        have P3 := P2.step hw7
        clear hw7 F2 P2
        refine hKc.out _ _ (fun _ => ⟨F3.A.q.k0, F3.A.q.k1, F3.A.q.k2, F3.A.q.k3, F3.C.q.k0, F3.C.q.k1, F3.C.q.k2, F3.C.q.k3, P3.q.k0, P3.q.k1, P3.q.k2, P3.q.k3⟩) (fun hHeld' => ?_)
        have hHeld := hHeld' (by decide)
        clear hHeld' hKc Kc
        try simp only [Act.put, List.setIfInBounds_toArray, List.set_cons_zero, List.set_cons_succ]
        refine wpAnyL_take (i := 12) (oi := ?oi_111) (v := ?v_111) ?hi_111 (by kernel_rfl) (by kernel_rfl) (by kernel_rfl) (by kernel_rfl) ?hQ_111 ?hw_111 ?hy_111 hHeld ?rest_111
        case hi_111 => simp only [List.getElem?_toArray, List.getElem?_cons_zero, List.getElem?_cons_succ]; rfl
        case hQ_111 => exact fun _ _ _ h => h
        case hw_111 => rfl
        case hy_111 => intro w0 hSw; (try dsimp only at hSw); go_simp; try with_reducible rfl
        try simp only [Act.put, List.setIfInBounds_toArray, List.set_cons_zero, List.set_cons_succ]
        have n0 := P3.q.f0
        have n1 := P3.q.f1
        have n2 := P3.q.f2
        have n3 := P3.q.f3
        have o0 := P3.q.k0
        have o1 := P3.q.k1
        have o2 := P3.q.k2
        have o3 := P3.q.k3
        refine wpAnyL_one (i := 13) (o := ?o_112) ?ho_112 (by kernel_rfl) ?hw_112 (fun Kc hKc => ?_)
        case ho_112 => simp only [List.getElem?_toArray, List.getElem?_cons_zero, List.getElem?_cons_succ]; rfl
        case hw_112 => rfl
        go_simp
        refine hKc.out _ _ (fun h => absurd rfl h) (fun _ => ?_)
        clear hKc Kc n0 n1 n2 n3 o0 o1 o2 o3
        try simp only [Act.put, List.setIfInBounds_toArray, List.set_cons_zero, List.set_cons_succ]
        refine wpAnyL_done (by kernel_rfl) ?_ _
        have FF := F3.put4 (b' := pb) hpb 4 5 6 7 (.bool s0) (.int .i64 s1) (.int .i64 s2) (.bool s3)
        have PP := P3.putHi (.bool s0) (.int .i64 s1) (.int .i64 s2) (.bool s3)
        clear F3 P3 hHeld
        go_wp2_with fail
        generalize (((w7.setCell ⟨pb, 4, none⟩ (.bool s0)).setCell ⟨pb, 5, none⟩ (.int .i64 s1)).setCell ⟨pb, 6, none⟩ (.int .i64 s2)).setCell ⟨pb, 7, none⟩ (.bool s3) = W9 at *
        refine ⟨⟨4, 4, h0, h1, h2, h3, s0, s1, s2, s3, rfl, rfl, by omega, HH.out, HS.out, FF, PP⟩, ?_⟩
        simp [intOf]

  clear hK
  have hb0 := below_alloc1 W0 (.cells #[.bool false, .int .i64 0, .int .i64 0, .bool false, .bool false, .int .i64 0, .int .i64 0, .bool false] 55)
  have hdr : Below W0.heap.size W0 W0.drew := (Below.refl _ _).drew
  have hdr' : Below (W0.alloc (.cells #[.bool false, .int .i64 0, .int .i64 0, .bool false, .bool false, .int .i64 0, .int .i64 0, .bool false] 55)).heap.size (W0.alloc (.cells #[.bool false, .int .i64 0, .int .i64 0, .bool false, .bool false, .int .i64 0, .int .i64 0, .bool false] 55)) (W0.alloc (.cells #[.bool false, .int .i64 0, .int .i64 0, .bool false, .bool false, .int .i64 0, .int .i64 0, .bool false] 55)).drew := (Below.refl _ _).drew
  have F1 := F0.step hdr
  have F1a := (F0.step hb0).step hdr'
  have P1a := (V8.init W0 (.bool false) (.int .i64 0) (.int .i64 0) (.bool false) (.bool false) (.int .i64 0) (.int .i64 0) (.bool false) 55).step hdr'
  have hz0 := F0.C.sz
  clear hdr hdr' hb0 F0
  go_region_held3 (fun w' => (w'.cell? ⟨w.heap.size, 0, none⟩ = some (.bool x0) ∧ w'.cell? ⟨w.heap.size, 1, none⟩ = some (.int .i64 x1) ∧ w'.cell? ⟨w.heap.size, 2, none⟩ = some (.int .i64 x2) ∧ w'.cell? ⟨w.heap.size, 3, none⟩ = some (.bool x3) ∧ w'.cell? ⟨w.heap.size, 4, none⟩ = some (.bool y0) ∧ w'.cell? ⟨w.heap.size, 5, none⟩ = some (.int .i64 y1) ∧ w'.cell? ⟨w.heap.size, 6, none⟩ = some (.int .i64 y2) ∧ w'.cell? ⟨w.heap.size, 7, none⟩ = some (.bool y3)) ∧ (w'.cell? ⟨w.heap.size + 1, 0, none⟩ = some (.bool p0) ∧ w'.cell? ⟨w.heap.size + 1, 1, none⟩ = some (.int .i64 p1) ∧ w'.cell? ⟨w.heap.size + 1, 2, none⟩ = some (.int .i64 p2) ∧ w'.cell? ⟨w.heap.size + 1, 3, none⟩ = some (.bool p3) ∧ w'.cell? ⟨w.heap.size + 1, 4, none⟩ = some (.bool q0) ∧ w'.cell? ⟨w.heap.size + 1, 5, none⟩ = some (.int .i64 q1) ∧ w'.cell? ⟨w.heap.size + 1, 6, none⟩ = some (.int .i64 q2) ∧ w'.cell? ⟨w.heap.size + 1, 7, none⟩ = some (.bool q3)))
    (first | with_reducible exact ⟨F1.X.cells, F1.Y.cells⟩ | with_reducible exact ⟨F1a.X.cells, F1a.Y.cells⟩ | with_reducible exact ⟨F2.X.cells, F2.Y.cells⟩ | with_reducible exact ⟨F3.X.cells, F3.Y.cells⟩ | with_reducible exact ⟨(F2.step (below_alloc1 _ _)).X.cells, (F2.step (below_alloc1 _ _)).Y.cells⟩ | with_reducible exact ⟨(F3.step (below_alloc1 _ _)).X.cells, (F3.step (below_alloc1 _ _)).Y.cells⟩ | with_reducible exact ⟨(F3.put (b' := W0.heap.size) (by omega) _ _ _ _ _ _ _ _).X.cells, (F3.put (b' := W0.heap.size) (by omega) _ _ _ _ _ _ _ _).Y.cells⟩ | with_reducible exact ⟨(F3.put (b' := w3.heap.size) (by omega) _ _ _ _ _ _ _ _).X.cells, (F3.put (b' := w3.heap.size) (by omega) _ _ _ _ _ _ _ _).Y.cells⟩)
    (first
      | ((go_at_call_of 56 (Value.bool false); refine (D1.out _).mono ?_; rintro e w3 ⟨rfl, hw3⟩; have hz3 := hw3.size; have F2 : D5 w1.heap.size w w3 (.bool x0) (.int .i64 x1) (.int .i64 x2) (.bool x3) (.bool y0) (.int .i64 y1) (.int .i64 y2) (.bool y3) (.bool p0) (.int .i64 p1) (.int .i64 p2) (.bool p3) (.bool q0) (.int .i64 q1) (.int .i64 q2) (.bool q3) := (by first | with_reducible exact F1.step hw3 | with_reducible exact F1a.step hw3); first | (have P2 : V8 w3 W0.heap.size (.bool false) (.int .i64 0) (.int .i64 0) (.bool false) (.bool false) (.int .i64 0) (.int .i64 0) (.bool false) := (by with_reducible exact P1a.step hw3); clear hw3) | clear hw3))
      | ((go_at_call_of 56 (Value.bool true); refine (D2.out _).mono ?_; rintro e w4 ⟨rfl, hw4⟩; have hz3' := F2.C.sz; have F3 : D5 w1.heap.size w w4 (.bool x0) (.int .i64 x1) (.int .i64 x2) (.bool x3) (.bool y0) (.int .i64 y1) (.int .i64 y2) (.bool y3) (.bool p0) (.int .i64 p1) (.int .i64 p2) (.bool p3) (.bool q0) (.int .i64 q1) (.int .i64 q2) (.bool q3) := (by first | with_reducible exact F2.step hw4 | with_reducible exact (F2.step (below_alloc1 w3 (.cells #[.bool false, .int .i64 0, .int .i64 0, .bool false, .bool false, .int .i64 0, .int .i64 0, .bool false] 55))).step hw4); first | (have P3 : V8 w4 W0.heap.size (.bool false) (.int .i64 0) (.int .i64 0) (.bool false) (.bool false) (.int .i64 0) (.int .i64 0) (.bool false) := (by with_reducible exact P2.step hw4); obtain ⟨r0, r1, r2, r3, f0, f1, f2, f3, sz⟩ := P3.p; obtain ⟨s0, s1, s2, s3, g0, g1, g2, g3, sz'⟩ := P3.q; clear hw4) | (have P3 : V8 w4 w3.heap.size (.bool false) (.int .i64 0) (.int .i64 0) (.bool false) (.bool false) (.int .i64 0) (.int .i64 0) (.bool false) := (by with_reducible exact (V8.init w3 (.bool false) (.int .i64 0) (.int .i64 0) (.bool false) (.bool false) (.int .i64 0) (.int .i64 0) (.bool false) 55).step hw4); obtain ⟨r0, r1, r2, r3, f0, f1, f2, f3, sz⟩ := P3.p; obtain ⟨s0, s1, s2, s3, g0, g1, g2, g3, sz'⟩ := P3.q; clear hw4) | clear hw4)))

  all_goals change K _ _
  all_goals first | (with_reducible exact key _ _ (F3.step (below_alloc1 _ _)) (V8.init w4 (.bool u0) (.int .i64 u1) (.int .i64 u2) (.bool u3) (.bool v0) (.int .i64 v1) (.int .i64 v2) (.bool v3) 55) F3.C.sz) | (with_reducible exact key _ _ (F3.put (b' := W0.heap.size) hz0 _ _ _ _ _ _ _ _) (P3.put _ _ _ _ _ _ _ _) hz0) | (with_reducible exact key _ _ (F3.put (b' := w3.heap.size) hz3' _ _ _ _ _ _ _ _) (P3.put _ _ _ _ _ _ _ _) hz3')

theorem Div_zero {a b c d : Int} (H0 : ∀ w, Calls Try.prog 55 #[pairV c d] w fun e w' => e = .returned (.bool true) ∧ Below w.heap.size w w') (w : World) :
    Calls Try.prog 38 #[pairV a b, pairV c d] w fun e w' => e = .returned (.tuple #[pairV 0 0, .int .i64 2]) ∧ Below w.heap.size w w' := by
  obtain ⟨x0, x1, x2, x3, y0, y1, y2, y3, hx, hy, hp, -⟩ := pair_open a b
  obtain ⟨p0, p1, p2, p3, q0, q1, q2, q3, hpp, hqq, hq, -⟩ := pair_open c d
  have hz : pairV 0 0 = .agg #[.bool false, .int .i64 0, .int .i64 0, .bool false, .bool false, .int .i64 0, .int .i64 0, .bool false] := pair_shut numV_zero numV_zero
  rw [hq] at H0
  rw [hp, hq, hz]
  have D0 : Hid _ := H0
  clear hx hy hp hpp hqq hq H0 hz
  have F00 : V8 (((w.alloc (.cells #[.bool x0, .int .i64 x1, .int .i64 x2, .bool x3, .bool y0, .int .i64 y1, .int .i64 y2, .bool y3] 55)).alloc (.cells #[.bool p0, .int .i64 p1, .int .i64 p2, .bool p3, .bool q0, .int .i64 q1, .int .i64 q2, .bool q3] 55)).alloc (.cells #[.bool false, .int .i64 0, .int .i64 0, .bool false, .bool false, .int .i64 0, .int .i64 0, .bool false] 55)) w.heap.size (.bool x0) (.int .i64 x1) (.int .i64 x2) (.bool x3) (.bool y0) (.int .i64 y1) (.int .i64 y2) (.bool y3) ∧ V8 (((w.alloc (.cells #[.bool x0, .int .i64 x1, .int .i64 x2, .bool x3, .bool y0, .int .i64 y1, .int .i64 y2, .bool y3] 55)).alloc (.cells #[.bool p0, .int .i64 p1, .int .i64 p2, .bool p3, .bool q0, .int .i64 q1, .int .i64 q2, .bool q3] 55)).alloc (.cells #[.bool false, .int .i64 0, .int .i64 0, .bool false, .bool false, .int .i64 0, .int .i64 0, .bool false] 55)) (w.heap.size + 1) (.bool p0) (.int .i64 p1) (.int .i64 p2) (.bool p3) (.bool q0) (.int .i64 q1) (.int .i64 q2) (.bool q3) ∧ V8 (((w.alloc (.cells #[.bool x0, .int .i64 x1, .int .i64 x2, .bool x3, .bool y0, .int .i64 y1, .int .i64 y2, .bool y3] 55)).alloc (.cells #[.bool p0, .int .i64 p1, .int .i64 p2, .bool p3, .bool q0, .int .i64 q1, .int .i64 q2, .bool q3] 55)).alloc (.cells #[.bool false, .int .i64 0, .int .i64 0, .bool false, .bool false, .int .i64 0, .int .i64 0, .bool false] 55)) (w.heap.size + 1 + 1) (.bool false) (.int .i64 0) (.int .i64 0) (.bool false) (.bool false) (.int .i64 0) (.int .i64 0) (.bool false) ∧ Below w.heap.size w (((w.alloc (.cells #[.bool x0, .int .i64 x1, .int .i64 x2, .bool x3, .bool y0, .int .i64 y1, .int .i64 y2, .bool y3] 55)).alloc (.cells #[.bool p0, .int .i64 p1, .int .i64 p2, .bool p3, .bool q0, .int .i64 q1, .int .i64 q2, .bool q3] 55)).alloc (.cells #[.bool false, .int .i64 0, .int .i64 0, .bool false, .bool false, .int .i64 0, .int .i64 0, .bool false] 55)) := by
    have hb1 := below_alloc1 (w.alloc (.cells #[.bool x0, .int .i64 x1, .int .i64 x2, .bool x3, .bool y0, .int .i64 y1, .int .i64 y2, .bool y3] 55)) (.cells #[.bool p0, .int .i64 p1, .int .i64 p2, .bool p3, .bool q0, .int .i64 q1, .int .i64 q2, .bool q3] 55)
    have hb2 := below_alloc1 ((w.alloc (.cells #[.bool x0, .int .i64 x1, .int .i64 x2, .bool x3, .bool y0, .int .i64 y1, .int .i64 y2, .bool y3] 55)).alloc (.cells #[.bool p0, .int .i64 p1, .int .i64 p2, .bool p3, .bool q0, .int .i64 q1, .int .i64 q2, .bool q3] 55)) (.cells #[.bool false, .int .i64 0, .int .i64 0, .bool false, .bool false, .int .i64 0, .int .i64 0, .bool false] 55)
    have X0 := ((V8.init w (.bool x0) (.int .i64 x1) (.int .i64 x2) (.bool x3) (.bool y0) (.int .i64 y1) (.int .i64 y2) (.bool y3) 55).step hb1).step hb2
    have Y0 := (V8.init (w.alloc (.cells #[.bool x0, .int .i64 x1, .int .i64 x2, .bool x3, .bool y0, .int .i64 y1, .int .i64 y2, .bool y3] 55)) (.bool p0) (.int .i64 p1) (.int .i64 p2) (.bool p3) (.bool q0) (.int .i64 q1) (.int .i64 q2) (.bool q3) 55).step hb2
    have R0 := V8.init ((w.alloc (.cells #[.bool x0, .int .i64 x1, .int .i64 x2, .bool x3, .bool y0, .int .i64 y1, .int .i64 y2, .bool y3] 55)).alloc (.cells #[.bool p0, .int .i64 p1, .int .i64 p2, .bool p3, .bool q0, .int .i64 q1, .int .i64 q2, .bool q3] 55)) (.bool false) (.int .i64 0) (.int .i64 0) (.bool false) (.bool false) (.int .i64 0) (.int .i64 0) (.bool false) 55
    simp only [World.size_alloc] at X0 Y0 R0
    exact ⟨X0, Y0, R0, below3 w (.cells #[.bool x0, .int .i64 x1, .int .i64 x2, .bool x3, .bool y0, .int .i64 y1, .int .i64 y2, .bool y3] 55) (.cells #[.bool p0, .int .i64 p1, .int .i64 p2, .bool p3, .bool q0, .int .i64 q1, .int .i64 q2, .bool q3] 55) (.cells #[.bool false, .int .i64 0, .int .i64 0, .bool false, .bool false, .int .i64 0, .int .i64 0, .bool false] 55)⟩
  obtain ⟨X0, Y0, R0, B0⟩ := F00
  go_enter Try.func38, Try.ntmps38
  go_wp2_with fail
  generalize ((w.alloc (.cells #[.bool x0, .int .i64 x1, .int .i64 x2, .bool x3, .bool y0, .int .i64 y1, .int .i64 y2, .bool y3] 55)).alloc (.cells #[.bool p0, .int .i64 p1, .int .i64 p2, .bool p3, .bool q0, .int .i64 q1, .int .i64 q2, .bool q3] 55)).alloc (.cells #[.bool false, .int .i64 0, .int .i64 0, .bool false, .bool false, .int .i64 0, .int .i64 0, .bool false] 55) = Wz at *
  refine (D0.out _).mono ?_
  rintro e w1 ⟨rfl, hw1⟩
  have R1 := R0.step hw1
  have B1 := B0.trans (hw1.mono B0.size)
  clear X0 Y0 R0 B0 hw1 D0
  obtain ⟨r0, r1, r2, r3, f0, f1, f2, f3, sz⟩ := R1.p
  obtain ⟨s0, s1, s2, s3, g0, g1, g2, g3, sz'⟩ := R1.q
  go_wp2_with fail
  refine bodyPost_ret (v := .tuple #[.agg #[.bool false, .int .i64 0, .int .i64 0, .bool false, .bool false, .int .i64 0, .int .i64 0, .bool false], .int .i64 2]) (by simp [results, Try.results38, go_sem, r0, r1, r2, r3, s0, s1, s2, s3]) rfl ⟨rfl, ?_⟩
  exact below_put8 (b := w.heap.size + 1 + 1) B1 (by omega) _ _ _ _ _ _ _ _
end Go.Proofs.Ytakpfdhopodleaa
