import Derived.Test.YtakpfdhopodleaaKeepE
import Derived.Test.YtakpfdhopodleaaRefCN
namespace Go.Proofs.Ytakpfdhopodleaa
open Go.ChangeShapes Go.WideShapes Go.ChangeAt Go.RowKit Hedge
set_option linter.unusedSimpArgs false
set_option linter.unusedVariables false
set_option linter.unnecessarySimpa false

theorem same_calls (lo hi : Nat) (w : World) :
    Calls Try.prog 25 #[.agg #[.float .f32 lo, .float .f32 hi], .agg #[.int .u32 lo, .int .u32 hi]] w fun e w' => e = .returned (.bool true) ∧ Below w.heap.size w w' := by
  have C : Hid (∀ w, Calls Try.prog 23 #[.agg #[.float .f32 lo, .float .f32 hi]] w fun e w' => e = .returned (.tuple #[.int .u32 lo, .int .u32 hi]) ∧ Below w.heap.size w w') := fun w => bits_calls lo hi w
  have B0 := below2 w (.cells #[.float .f32 lo, .float .f32 hi] 28) (.cells #[.int .u32 lo, .int .u32 hi] 43)
  go_enter Try.func25, Try.ntmps25
  go_wp2_with fail
  refine (C.out _).mono ?_
  rintro e w1 ⟨rfl, hw1⟩
  have k0 : w1.cell? ⟨w.heap.size + 1, 0, none⟩ = some (.int .u32 lo) := by rw [hw1.cell (by simp)]; simp [go_sem]
  have k1 : w1.cell? ⟨w.heap.size + 1, 1, none⟩ = some (.int .u32 hi) := by rw [hw1.cell (by simp)]; simp [go_sem]
  have B1 := B0.trans (hw1.mono B0.size)
  clear hw1 B0
  go_wp2_with fail
  go_ret
  exact ⟨by simp, B1⟩

/-- Four cells of 32 bits in a block, and two intervals in blocks of their own. -/
structure Q2 (W : World) (b : Nat) (x0 x1 : Value) : Prop where
  k0 : W.cell? ⟨b, 0, none⟩ = some x0
  k1 : W.cell? ⟨b, 1, none⟩ = some x1
  f0 : W.frozen? ⟨b, 0, none⟩ = false
  f1 : W.frozen? ⟨b, 1, none⟩ = false
  sz : b < W.heap.size
theorem Q2.init (W : World) (x0 x1 : Value) (T : TypeId) : Q2 (W.alloc (.cells #[x0, x1] T)) W.heap.size x0 x1 :=
  ⟨by simp [go_sem], by simp [go_sem], by simp [go_sem], by simp [go_sem], by simp⟩
theorem Q2.step {W W' : World} {b : Nat} {x0 x1 : Value} (h : Q2 W b x0 x1) (hb : Below W.heap.size W W') : Q2 W' b x0 x1 := by
  have hz := hb.size
  obtain ⟨k0, k1, f0, f1, sz⟩ := h
  refine ⟨?_, ?_, ?_, ?_, by omega⟩
  · rw [hb.cell (by exact sz)]; exact k0
  · rw [hb.cell (by exact sz)]; exact k1
  · rw [hb.frozen (by exact sz)]; exact f0
  · rw [hb.frozen (by exact sz)]; exact f1
theorem Q2.other {W : World} {b : Nat} {x0 x1 : Value} (h : Q2 W b x0 x1) {b' : Nat} (o' : Nat) (v : Value) (hne : b' ≠ b) :
    Q2 (W.setCell ⟨b', o', none⟩ v) b x0 x1 := by
  obtain ⟨k0, k1, f0, f1, sz⟩ := h
  refine ⟨?_, ?_, by simpa using f0, by simpa using f1, by rw [size_set]; exact sz⟩
  · rw [set_other (by simp [hne])]; exact k0
  · rw [set_other (by simp [hne])]; exact k1
theorem Q2.put {W : World} {b : Nat} {x0 x1 : Value} (h : Q2 W b x0 x1) (y0 y1 : Value) :
    Q2 ((W.setCell ⟨b, 0, none⟩ y0).setCell ⟨b, 1, none⟩ y1) b y0 y1 := by
  obtain ⟨k0, k1, f0, f1, sz⟩ := h
  refine ⟨?_, ?_, by simpa using f0, by simpa using f1, by simp only [size_set]; exact sz⟩
  · rw [set_other (by simp)]; exact set_same k0
  · exact set_same (by rw [set_other (by simp)]; exact k1)
structure Q4 (W : World) (b : Nat) (x0 x1 x2 x3 : Value) : Prop where
  k0 : W.cell? ⟨b, 0, none⟩ = some x0
  k1 : W.cell? ⟨b, 1, none⟩ = some x1
  k2 : W.cell? ⟨b, 2, none⟩ = some x2
  k3 : W.cell? ⟨b, 3, none⟩ = some x3
  sz : b < W.heap.size
theorem Q4.init (W : World) (x0 x1 x2 x3 : Value) (T : TypeId) : Q4 (W.alloc (.cells #[x0, x1, x2, x3] T)) W.heap.size x0 x1 x2 x3 :=
  ⟨by simp [go_sem], by simp [go_sem], by simp [go_sem], by simp [go_sem], by simp⟩
theorem Q4.step {W W' : World} {b : Nat} {x0 x1 x2 x3 : Value} (h : Q4 W b x0 x1 x2 x3) (hb : Below W.heap.size W W') : Q4 W' b x0 x1 x2 x3 := by
  have hz := hb.size
  obtain ⟨k0, k1, k2, k3, sz⟩ := h
  refine ⟨?_, ?_, ?_, ?_, by omega⟩
  · rw [hb.cell (by exact sz)]; exact k0
  · rw [hb.cell (by exact sz)]; exact k1
  · rw [hb.cell (by exact sz)]; exact k2
  · rw [hb.cell (by exact sz)]; exact k3
theorem Q4.other {W : World} {b : Nat} {x0 x1 x2 x3 : Value} (h : Q4 W b x0 x1 x2 x3) {b' : Nat} (o' : Nat) (v : Value) (hne : b' ≠ b) :
    Q4 (W.setCell ⟨b', o', none⟩ v) b x0 x1 x2 x3 := by
  obtain ⟨k0, k1, k2, k3, sz⟩ := h
  refine ⟨?_, ?_, ?_, ?_, by rw [size_set]; exact sz⟩
  · rw [set_other (by simp [hne])]; exact k0
  · rw [set_other (by simp [hne])]; exact k1
  · rw [set_other (by simp [hne])]; exact k2
  · rw [set_other (by simp [hne])]; exact k3
theorem below_put2 {w W : World} {n b : Nat} (h : Below n w W) (hb : n ≤ b) (y0 y1 : Value) :
    Below n w ((W.setCell ⟨b, 0, none⟩ y0).setCell ⟨b, 1, none⟩ y1) :=
  (h.setCell (p := ⟨b, 0, none⟩) hb _).setCell (p := ⟨b, 1, none⟩) hb _

theorem two_0 {a b c d r s : Nat} {er : Int} (P : ∀ w, Calls Try.prog 12 #[.agg #[.float .f32 a, .float .f32 b], .agg #[.float .f32 c, .float .f32 d]] w fun e w' => e = .returned (.tuple #[.agg #[.float .f32 r, .float .f32 s], .int .i64 er]) ∧ Below w.heap.size w w')
    (T : ∀ w, Calls Try.prog 24 #[.int .i64 0, .agg #[.int .u32 a, .int .u32 b, .int .u32 c, .int .u32 d]] w fun e w' => e = .returned (.tuple #[.agg #[.int .u32 r, .int .u32 s], .int .i64 er]) ∧ Below w.heap.size w w') (w : World) :
    Calls Try.prog 9 #[.int .i64 0, .agg #[.int .u32 a, .int .u32 b, .int .u32 c, .int .u32 d]] w fun e w' => e = .returned (.bool true) ∧ Below w.heap.size w w' := by
  have C1 : Hid (∀ w, Calls Try.prog 22 #[.int .u32 a, .int .u32 b] w fun e w' => e = .returned (.agg #[.float .f32 a, .float .f32 b]) ∧ Below w.heap.size w w') := fun w => of_calls a b w
  have C2 : Hid (∀ w, Calls Try.prog 22 #[.int .u32 c, .int .u32 d] w fun e w' => e = .returned (.agg #[.float .f32 c, .float .f32 d]) ∧ Below w.heap.size w w') := fun w => of_calls c d w
  have C3 : Hid _ := P
  have C4 : Hid _ := T
  have C5 : Hid (∀ w, Calls Try.prog 25 #[.agg #[.float .f32 r, .float .f32 s], .agg #[.int .u32 r, .int .u32 s]] w fun e w' => e = .returned (.bool true) ∧ Below w.heap.size w w') := fun w => same_calls r s w
  clear P T
  have A0 := Q4.init w (.int .u32 a) (.int .u32 b) (.int .u32 c) (.int .u32 d) 24
  have B0 := below_alloc1 w (.cells #[.int .u32 a, .int .u32 b, .int .u32 c, .int .u32 d] 24)
  go_enter Try.func9, Try.ntmps9
  go_wp2_with fail
  generalize w.alloc (.cells #[.int .u32 a, .int .u32 b, .int .u32 c, .int .u32 d] 24) = W0 at *
  refine (C1.out _).mono ?_
  rintro e w1 ⟨rfl, hw1⟩
  have A1 := (A0.step hw1).step (below_alloc1 w1 (.cells #[.float .f32 a, .float .f32 b] 28))
  have B1 := (B0.trans (hw1.mono B0.size))
  have B1' := B1.trans ((below_alloc1 w1 (.cells #[.float .f32 a, .float .f32 b] 28)).mono B1.size)
  have X1 := Q2.init w1 (.float .f32 a) (.float .f32 b) 28
  clear A0 B0 B1 hw1
  have k2 := A1.k2
  have k3 := A1.k3
  go_wp2_with fail
  generalize hW1 : w1.alloc (.cells #[.float .f32 a, .float .f32 b] 28) = W1 at *
  have hz1 : W1.heap.size = w1.heap.size + 1 := by rw [← hW1]; simp
  clear hW1 k2 k3
  refine (C2.out _).mono ?_
  rintro e w2 ⟨rfl, hw2⟩
  have hz2 := hw2.size
  have hb1 := below_alloc1 w2 (.cells #[.float .f32 c, .float .f32 d] 28)
  have hb2 := below_alloc1 (w2.alloc (.cells #[.float .f32 c, .float .f32 d] 28)) (.cells #[.float .f32 0, .float .f32 0] 28)
  have A2 := ((A1.step hw2).step hb1).step hb2
  have X2 := ((X1.step hw2).step hb1).step hb2
  have Y2 := (Q2.init w2 (.float .f32 c) (.float .f32 d) 28).step hb2
  have R2 := Q2.init (w2.alloc (.cells #[.float .f32 c, .float .f32 d] 28)) (.float .f32 0) (.float .f32 0) 28
  have B2 := B1'.trans (hw2.mono B1'.size)
  have B3 := B2.trans (hb1.mono B2.size)
  have hn2 := B2.size
  have B4 := B3.trans (hb2.mono B3.size)
  simp only [World.size_alloc] at R2
  clear A1 X1 B1' hw2 hb1 hb2 B2 B3
  have xk0 := X2.k0
  have xk1 := X2.k1
  have yk0 := Y2.k0
  have yk1 := Y2.k1
  go_wp2_with fail
  generalize (w2.alloc (.cells #[.float .f32 c, .float .f32 d] 28)).alloc (.cells #[.float .f32 0, .float .f32 0] 28) = W2 at *
  clear xk0 xk1 yk0 yk1
  refine (C3.out _).mono ?_
  rintro e w3 ⟨rfl, hw3⟩
  have A3 := A2.step hw3
  have R3 := R2.step hw3
  have B5 := B4.trans (hw3.mono B4.size)
  have hn := B4.size
  have s0 := A2.sz
  have s1 := R2.sz
  have hne : w2.heap.size + 1 ≠ w.heap.size := by omega
  have hle : w.heap.size ≤ w2.heap.size + 1 := by omega
  clear A2 X2 Y2 R2 B4 hw3
  have ak0 := A3.k0
  have ak1 := A3.k1
  have ak2 := A3.k2
  have ak3 := A3.k3
  have rf0 := R3.f0
  have rf1 := R3.f1
  have rk0 := R3.k0
  have rk1 := R3.k1
  go_wp2_with fail
  have R4 := R3.put (.float .f32 r) (.float .f32 s)
  have B6 := below_put2 B5 hle (.float .f32 r) (.float .f32 s)
  generalize (w3.setCell ⟨w2.heap.size + 1, 0, none⟩ (.float .f32 r)).setCell ⟨w2.heap.size + 1, 1, none⟩ (.float .f32 s) = W3 at *
  clear ak0 ak1 ak2 ak3 rf0 rf1 rk0 rk1 A3 R3 B5
  refine (C4.out _).mono ?_
  rintro e w4 ⟨rfl, hw4⟩
  have hb1 := below_alloc1 w4 (.cells #[.int .u32 r, .int .u32 s] 43)
  have R5 := (R4.step hw4).step hb1
  have N5 := Q2.init w4 (.int .u32 r) (.int .u32 s) 43
  have B7 := B6.trans (hw4.mono B6.size)
  have B8 := B7.trans (hb1.mono B7.size)
  clear R4 B6 B7 hw4 hb1
  have rk0 := R5.k0
  have rk1 := R5.k1
  have nk0 := N5.k0
  have nk1 := N5.k1
  go_wp2_with fail
  generalize w4.alloc (.cells #[.int .u32 r, .int .u32 s] 43) = W5 at *
  clear rk0 rk1 nk0 nk1 R5 N5
  refine (C5.out _).mono ?_
  rintro e w6 ⟨rfl, hw6⟩
  have B9 := B8.trans (hw6.mono B8.size)
  clear hw6 B8
  go_wp2_with fail
  go_ret
  exact ⟨by simp, B9⟩

theorem two_1 {a b c d r s : Nat} {er : Int} (P : ∀ w, Calls Try.prog 13 #[.agg #[.float .f32 a, .float .f32 b], .agg #[.float .f32 c, .float .f32 d]] w fun e w' => e = .returned (.tuple #[.agg #[.float .f32 r, .float .f32 s], .int .i64 er]) ∧ Below w.heap.size w w')
    (T : ∀ w, Calls Try.prog 24 #[.int .i64 1, .agg #[.int .u32 a, .int .u32 b, .int .u32 c, .int .u32 d]] w fun e w' => e = .returned (.tuple #[.agg #[.int .u32 r, .int .u32 s], .int .i64 er]) ∧ Below w.heap.size w w') (w : World) :
    Calls Try.prog 9 #[.int .i64 1, .agg #[.int .u32 a, .int .u32 b, .int .u32 c, .int .u32 d]] w fun e w' => e = .returned (.bool true) ∧ Below w.heap.size w w' := by
  have C1 : Hid (∀ w, Calls Try.prog 22 #[.int .u32 a, .int .u32 b] w fun e w' => e = .returned (.agg #[.float .f32 a, .float .f32 b]) ∧ Below w.heap.size w w') := fun w => of_calls a b w
  have C2 : Hid (∀ w, Calls Try.prog 22 #[.int .u32 c, .int .u32 d] w fun e w' => e = .returned (.agg #[.float .f32 c, .float .f32 d]) ∧ Below w.heap.size w w') := fun w => of_calls c d w
  have C3 : Hid _ := P
  have C4 : Hid _ := T
  have C5 : Hid (∀ w, Calls Try.prog 25 #[.agg #[.float .f32 r, .float .f32 s], .agg #[.int .u32 r, .int .u32 s]] w fun e w' => e = .returned (.bool true) ∧ Below w.heap.size w w') := fun w => same_calls r s w
  clear P T
  have A0 := Q4.init w (.int .u32 a) (.int .u32 b) (.int .u32 c) (.int .u32 d) 24
  have B0 := below_alloc1 w (.cells #[.int .u32 a, .int .u32 b, .int .u32 c, .int .u32 d] 24)
  go_enter Try.func9, Try.ntmps9
  go_wp2_with fail
  generalize w.alloc (.cells #[.int .u32 a, .int .u32 b, .int .u32 c, .int .u32 d] 24) = W0 at *
  refine (C1.out _).mono ?_
  rintro e w1 ⟨rfl, hw1⟩
  have A1 := (A0.step hw1).step (below_alloc1 w1 (.cells #[.float .f32 a, .float .f32 b] 28))
  have B1 := (B0.trans (hw1.mono B0.size))
  have B1' := B1.trans ((below_alloc1 w1 (.cells #[.float .f32 a, .float .f32 b] 28)).mono B1.size)
  have X1 := Q2.init w1 (.float .f32 a) (.float .f32 b) 28
  clear A0 B0 B1 hw1
  have k2 := A1.k2
  have k3 := A1.k3
  go_wp2_with fail
  generalize hW1 : w1.alloc (.cells #[.float .f32 a, .float .f32 b] 28) = W1 at *
  have hz1 : W1.heap.size = w1.heap.size + 1 := by rw [← hW1]; simp
  clear hW1 k2 k3
  refine (C2.out _).mono ?_
  rintro e w2 ⟨rfl, hw2⟩
  have hz2 := hw2.size
  have hb1 := below_alloc1 w2 (.cells #[.float .f32 c, .float .f32 d] 28)
  have hb2 := below_alloc1 (w2.alloc (.cells #[.float .f32 c, .float .f32 d] 28)) (.cells #[.float .f32 0, .float .f32 0] 28)
  have A2 := ((A1.step hw2).step hb1).step hb2
  have X2 := ((X1.step hw2).step hb1).step hb2
  have Y2 := (Q2.init w2 (.float .f32 c) (.float .f32 d) 28).step hb2
  have R2 := Q2.init (w2.alloc (.cells #[.float .f32 c, .float .f32 d] 28)) (.float .f32 0) (.float .f32 0) 28
  have B2 := B1'.trans (hw2.mono B1'.size)
  have B3 := B2.trans (hb1.mono B2.size)
  have hn2 := B2.size
  have B4 := B3.trans (hb2.mono B3.size)
  simp only [World.size_alloc] at R2
  clear A1 X1 B1' hw2 hb1 hb2 B2 B3
  have xk0 := X2.k0
  have xk1 := X2.k1
  have yk0 := Y2.k0
  have yk1 := Y2.k1
  go_wp2_with fail
  generalize (w2.alloc (.cells #[.float .f32 c, .float .f32 d] 28)).alloc (.cells #[.float .f32 0, .float .f32 0] 28) = W2 at *
  clear xk0 xk1 yk0 yk1
  refine (C3.out _).mono ?_
  rintro e w3 ⟨rfl, hw3⟩
  have A3 := A2.step hw3
  have R3 := R2.step hw3
  have B5 := B4.trans (hw3.mono B4.size)
  have hn := B4.size
  have s0 := A2.sz
  have s1 := R2.sz
  have hne : w2.heap.size + 1 ≠ w.heap.size := by omega
  have hle : w.heap.size ≤ w2.heap.size + 1 := by omega
  clear A2 X2 Y2 R2 B4 hw3
  have ak0 := A3.k0
  have ak1 := A3.k1
  have ak2 := A3.k2
  have ak3 := A3.k3
  have rf0 := R3.f0
  have rf1 := R3.f1
  have rk0 := R3.k0
  have rk1 := R3.k1
  go_wp2_with fail
  have R4 := R3.put (.float .f32 r) (.float .f32 s)
  have B6 := below_put2 B5 hle (.float .f32 r) (.float .f32 s)
  generalize (w3.setCell ⟨w2.heap.size + 1, 0, none⟩ (.float .f32 r)).setCell ⟨w2.heap.size + 1, 1, none⟩ (.float .f32 s) = W3 at *
  clear ak0 ak1 ak2 ak3 rf0 rf1 rk0 rk1 A3 R3 B5
  refine (C4.out _).mono ?_
  rintro e w4 ⟨rfl, hw4⟩
  have hb1 := below_alloc1 w4 (.cells #[.int .u32 r, .int .u32 s] 43)
  have R5 := (R4.step hw4).step hb1
  have N5 := Q2.init w4 (.int .u32 r) (.int .u32 s) 43
  have B7 := B6.trans (hw4.mono B6.size)
  have B8 := B7.trans (hb1.mono B7.size)
  clear R4 B6 B7 hw4 hb1
  have rk0 := R5.k0
  have rk1 := R5.k1
  have nk0 := N5.k0
  have nk1 := N5.k1
  go_wp2_with fail
  generalize w4.alloc (.cells #[.int .u32 r, .int .u32 s] 43) = W5 at *
  clear rk0 rk1 nk0 nk1 R5 N5
  refine (C5.out _).mono ?_
  rintro e w6 ⟨rfl, hw6⟩
  have B9 := B8.trans (hw6.mono B8.size)
  clear hw6 B8
  go_wp2_with fail
  go_ret
  exact ⟨by simp, B9⟩

theorem two_2 {a b c d r s : Nat} {er : Int} (P : ∀ w, Calls Try.prog 14 #[.agg #[.float .f32 a, .float .f32 b], .agg #[.float .f32 c, .float .f32 d]] w fun e w' => e = .returned (.tuple #[.agg #[.float .f32 r, .float .f32 s], .int .i64 er]) ∧ Below w.heap.size w w')
    (T : ∀ w, Calls Try.prog 24 #[.int .i64 2, .agg #[.int .u32 a, .int .u32 b, .int .u32 c, .int .u32 d]] w fun e w' => e = .returned (.tuple #[.agg #[.int .u32 r, .int .u32 s], .int .i64 er]) ∧ Below w.heap.size w w') (w : World) :
    Calls Try.prog 9 #[.int .i64 2, .agg #[.int .u32 a, .int .u32 b, .int .u32 c, .int .u32 d]] w fun e w' => e = .returned (.bool true) ∧ Below w.heap.size w w' := by
  have C1 : Hid (∀ w, Calls Try.prog 22 #[.int .u32 a, .int .u32 b] w fun e w' => e = .returned (.agg #[.float .f32 a, .float .f32 b]) ∧ Below w.heap.size w w') := fun w => of_calls a b w
  have C2 : Hid (∀ w, Calls Try.prog 22 #[.int .u32 c, .int .u32 d] w fun e w' => e = .returned (.agg #[.float .f32 c, .float .f32 d]) ∧ Below w.heap.size w w') := fun w => of_calls c d w
  have C3 : Hid _ := P
  have C4 : Hid _ := T
  have C5 : Hid (∀ w, Calls Try.prog 25 #[.agg #[.float .f32 r, .float .f32 s], .agg #[.int .u32 r, .int .u32 s]] w fun e w' => e = .returned (.bool true) ∧ Below w.heap.size w w') := fun w => same_calls r s w
  clear P T
  have A0 := Q4.init w (.int .u32 a) (.int .u32 b) (.int .u32 c) (.int .u32 d) 24
  have B0 := below_alloc1 w (.cells #[.int .u32 a, .int .u32 b, .int .u32 c, .int .u32 d] 24)
  go_enter Try.func9, Try.ntmps9
  go_wp2_with fail
  generalize w.alloc (.cells #[.int .u32 a, .int .u32 b, .int .u32 c, .int .u32 d] 24) = W0 at *
  refine (C1.out _).mono ?_
  rintro e w1 ⟨rfl, hw1⟩
  have A1 := (A0.step hw1).step (below_alloc1 w1 (.cells #[.float .f32 a, .float .f32 b] 28))
  have B1 := (B0.trans (hw1.mono B0.size))
  have B1' := B1.trans ((below_alloc1 w1 (.cells #[.float .f32 a, .float .f32 b] 28)).mono B1.size)
  have X1 := Q2.init w1 (.float .f32 a) (.float .f32 b) 28
  clear A0 B0 B1 hw1
  have k2 := A1.k2
  have k3 := A1.k3
  go_wp2_with fail
  generalize hW1 : w1.alloc (.cells #[.float .f32 a, .float .f32 b] 28) = W1 at *
  have hz1 : W1.heap.size = w1.heap.size + 1 := by rw [← hW1]; simp
  clear hW1 k2 k3
  refine (C2.out _).mono ?_
  rintro e w2 ⟨rfl, hw2⟩
  have hz2 := hw2.size
  have hb1 := below_alloc1 w2 (.cells #[.float .f32 c, .float .f32 d] 28)
  have hb2 := below_alloc1 (w2.alloc (.cells #[.float .f32 c, .float .f32 d] 28)) (.cells #[.float .f32 0, .float .f32 0] 28)
  have A2 := ((A1.step hw2).step hb1).step hb2
  have X2 := ((X1.step hw2).step hb1).step hb2
  have Y2 := (Q2.init w2 (.float .f32 c) (.float .f32 d) 28).step hb2
  have R2 := Q2.init (w2.alloc (.cells #[.float .f32 c, .float .f32 d] 28)) (.float .f32 0) (.float .f32 0) 28
  have B2 := B1'.trans (hw2.mono B1'.size)
  have B3 := B2.trans (hb1.mono B2.size)
  have hn2 := B2.size
  have B4 := B3.trans (hb2.mono B3.size)
  simp only [World.size_alloc] at R2
  clear A1 X1 B1' hw2 hb1 hb2 B2 B3
  have xk0 := X2.k0
  have xk1 := X2.k1
  have yk0 := Y2.k0
  have yk1 := Y2.k1
  go_wp2_with fail
  generalize (w2.alloc (.cells #[.float .f32 c, .float .f32 d] 28)).alloc (.cells #[.float .f32 0, .float .f32 0] 28) = W2 at *
  clear xk0 xk1 yk0 yk1
  refine (C3.out _).mono ?_
  rintro e w3 ⟨rfl, hw3⟩
  have A3 := A2.step hw3
  have R3 := R2.step hw3
  have B5 := B4.trans (hw3.mono B4.size)
  have hn := B4.size
  have s0 := A2.sz
  have s1 := R2.sz
  have hne : w2.heap.size + 1 ≠ w.heap.size := by omega
  have hle : w.heap.size ≤ w2.heap.size + 1 := by omega
  clear A2 X2 Y2 R2 B4 hw3
  have ak0 := A3.k0
  have ak1 := A3.k1
  have ak2 := A3.k2
  have ak3 := A3.k3
  have rf0 := R3.f0
  have rf1 := R3.f1
  have rk0 := R3.k0
  have rk1 := R3.k1
  go_wp2_with fail
  have R4 := R3.put (.float .f32 r) (.float .f32 s)
  have B6 := below_put2 B5 hle (.float .f32 r) (.float .f32 s)
  generalize (w3.setCell ⟨w2.heap.size + 1, 0, none⟩ (.float .f32 r)).setCell ⟨w2.heap.size + 1, 1, none⟩ (.float .f32 s) = W3 at *
  clear ak0 ak1 ak2 ak3 rf0 rf1 rk0 rk1 A3 R3 B5
  refine (C4.out _).mono ?_
  rintro e w4 ⟨rfl, hw4⟩
  have hb1 := below_alloc1 w4 (.cells #[.int .u32 r, .int .u32 s] 43)
  have R5 := (R4.step hw4).step hb1
  have N5 := Q2.init w4 (.int .u32 r) (.int .u32 s) 43
  have B7 := B6.trans (hw4.mono B6.size)
  have B8 := B7.trans (hb1.mono B7.size)
  clear R4 B6 B7 hw4 hb1
  have rk0 := R5.k0
  have rk1 := R5.k1
  have nk0 := N5.k0
  have nk1 := N5.k1
  go_wp2_with fail
  generalize w4.alloc (.cells #[.int .u32 r, .int .u32 s] 43) = W5 at *
  clear rk0 rk1 nk0 nk1 R5 N5
  refine (C5.out _).mono ?_
  rintro e w6 ⟨rfl, hw6⟩
  have B9 := B8.trans (hw6.mono B8.size)
  clear hw6 B8
  go_wp2_with fail
  go_ret
  exact ⟨by simp, B9⟩

theorem two_3 {a b c d r s : Nat} {er : Int} (P : ∀ w, Calls Try.prog 15 #[.agg #[.float .f32 a, .float .f32 b], .agg #[.float .f32 c, .float .f32 d]] w fun e w' => e = .returned (.tuple #[.agg #[.float .f32 r, .float .f32 s], .int .i64 er]) ∧ Below w.heap.size w w')
    (T : ∀ w, Calls Try.prog 24 #[.int .i64 3, .agg #[.int .u32 a, .int .u32 b, .int .u32 c, .int .u32 d]] w fun e w' => e = .returned (.tuple #[.agg #[.int .u32 r, .int .u32 s], .int .i64 er]) ∧ Below w.heap.size w w') (w : World) :
    Calls Try.prog 9 #[.int .i64 3, .agg #[.int .u32 a, .int .u32 b, .int .u32 c, .int .u32 d]] w fun e w' => e = .returned (.bool true) ∧ Below w.heap.size w w' := by
  have C1 : Hid (∀ w, Calls Try.prog 22 #[.int .u32 a, .int .u32 b] w fun e w' => e = .returned (.agg #[.float .f32 a, .float .f32 b]) ∧ Below w.heap.size w w') := fun w => of_calls a b w
  have C2 : Hid (∀ w, Calls Try.prog 22 #[.int .u32 c, .int .u32 d] w fun e w' => e = .returned (.agg #[.float .f32 c, .float .f32 d]) ∧ Below w.heap.size w w') := fun w => of_calls c d w
  have C3 : Hid _ := P
  have C4 : Hid _ := T
  have C5 : Hid (∀ w, Calls Try.prog 25 #[.agg #[.float .f32 r, .float .f32 s], .agg #[.int .u32 r, .int .u32 s]] w fun e w' => e = .returned (.bool true) ∧ Below w.heap.size w w') := fun w => same_calls r s w
  clear P T
  have A0 := Q4.init w (.int .u32 a) (.int .u32 b) (.int .u32 c) (.int .u32 d) 24
  have B0 := below_alloc1 w (.cells #[.int .u32 a, .int .u32 b, .int .u32 c, .int .u32 d] 24)
  go_enter Try.func9, Try.ntmps9
  go_wp2_with fail
  generalize w.alloc (.cells #[.int .u32 a, .int .u32 b, .int .u32 c, .int .u32 d] 24) = W0 at *
  refine (C1.out _).mono ?_
  rintro e w1 ⟨rfl, hw1⟩
  have A1 := (A0.step hw1).step (below_alloc1 w1 (.cells #[.float .f32 a, .float .f32 b] 28))
  have B1 := (B0.trans (hw1.mono B0.size))
  have B1' := B1.trans ((below_alloc1 w1 (.cells #[.float .f32 a, .float .f32 b] 28)).mono B1.size)
  have X1 := Q2.init w1 (.float .f32 a) (.float .f32 b) 28
  clear A0 B0 B1 hw1
  have k2 := A1.k2
  have k3 := A1.k3
  go_wp2_with fail
  generalize hW1 : w1.alloc (.cells #[.float .f32 a, .float .f32 b] 28) = W1 at *
  have hz1 : W1.heap.size = w1.heap.size + 1 := by rw [← hW1]; simp
  clear hW1 k2 k3
  refine (C2.out _).mono ?_
  rintro e w2 ⟨rfl, hw2⟩
  have hz2 := hw2.size
  have hb1 := below_alloc1 w2 (.cells #[.float .f32 c, .float .f32 d] 28)
  have hb2 := below_alloc1 (w2.alloc (.cells #[.float .f32 c, .float .f32 d] 28)) (.cells #[.float .f32 0, .float .f32 0] 28)
  have A2 := ((A1.step hw2).step hb1).step hb2
  have X2 := ((X1.step hw2).step hb1).step hb2
  have Y2 := (Q2.init w2 (.float .f32 c) (.float .f32 d) 28).step hb2
  have R2 := Q2.init (w2.alloc (.cells #[.float .f32 c, .float .f32 d] 28)) (.float .f32 0) (.float .f32 0) 28
  have B2 := B1'.trans (hw2.mono B1'.size)
  have B3 := B2.trans (hb1.mono B2.size)
  have hn2 := B2.size
  have B4 := B3.trans (hb2.mono B3.size)
  simp only [World.size_alloc] at R2
  clear A1 X1 B1' hw2 hb1 hb2 B2 B3
  have xk0 := X2.k0
  have xk1 := X2.k1
  have yk0 := Y2.k0
  have yk1 := Y2.k1
  go_wp2_with fail
  generalize (w2.alloc (.cells #[.float .f32 c, .float .f32 d] 28)).alloc (.cells #[.float .f32 0, .float .f32 0] 28) = W2 at *
  clear xk0 xk1 yk0 yk1
  refine (C3.out _).mono ?_
  rintro e w3 ⟨rfl, hw3⟩
  have A3 := A2.step hw3
  have R3 := R2.step hw3
  have B5 := B4.trans (hw3.mono B4.size)
  have hn := B4.size
  have s0 := A2.sz
  have s1 := R2.sz
  have hne : w2.heap.size + 1 ≠ w.heap.size := by omega
  have hle : w.heap.size ≤ w2.heap.size + 1 := by omega
  clear A2 X2 Y2 R2 B4 hw3
  have ak0 := A3.k0
  have ak1 := A3.k1
  have ak2 := A3.k2
  have ak3 := A3.k3
  have rf0 := R3.f0
  have rf1 := R3.f1
  have rk0 := R3.k0
  have rk1 := R3.k1
  go_wp2_with fail
  have R4 := R3.put (.float .f32 r) (.float .f32 s)
  have B6 := below_put2 B5 hle (.float .f32 r) (.float .f32 s)
  generalize (w3.setCell ⟨w2.heap.size + 1, 0, none⟩ (.float .f32 r)).setCell ⟨w2.heap.size + 1, 1, none⟩ (.float .f32 s) = W3 at *
  clear ak0 ak1 ak2 ak3 rf0 rf1 rk0 rk1 A3 R3 B5
  refine (C4.out _).mono ?_
  rintro e w4 ⟨rfl, hw4⟩
  have hb1 := below_alloc1 w4 (.cells #[.int .u32 r, .int .u32 s] 43)
  have R5 := (R4.step hw4).step hb1
  have N5 := Q2.init w4 (.int .u32 r) (.int .u32 s) 43
  have B7 := B6.trans (hw4.mono B6.size)
  have B8 := B7.trans (hb1.mono B7.size)
  clear R4 B6 B7 hw4 hb1
  have rk0 := R5.k0
  have rk1 := R5.k1
  have nk0 := N5.k0
  have nk1 := N5.k1
  go_wp2_with fail
  generalize w4.alloc (.cells #[.int .u32 r, .int .u32 s] 43) = W5 at *
  clear rk0 rk1 nk0 nk1 R5 N5
  refine (C5.out _).mono ?_
  rintro e w6 ⟨rfl, hw6⟩
  have B9 := B8.trans (hw6.mono B8.size)
  clear hw6 B8
  go_wp2_with fail
  go_ret
  exact ⟨by simp, B9⟩

theorem two_4 {a b c d r s : Nat} {er : Int} (P : ∀ w, Calls Try.prog 16 #[.agg #[.float .f32 a, .float .f32 b]] w fun e w' => e = .returned (.tuple #[.agg #[.float .f32 r, .float .f32 s], .int .i64 er]) ∧ Below w.heap.size w w')
    (T : ∀ w, Calls Try.prog 24 #[.int .i64 4, .agg #[.int .u32 a, .int .u32 b, .int .u32 c, .int .u32 d]] w fun e w' => e = .returned (.tuple #[.agg #[.int .u32 r, .int .u32 s], .int .i64 er]) ∧ Below w.heap.size w w') (w : World) :
    Calls Try.prog 9 #[.int .i64 4, .agg #[.int .u32 a, .int .u32 b, .int .u32 c, .int .u32 d]] w fun e w' => e = .returned (.bool true) ∧ Below w.heap.size w w' := by
  have C1 : Hid (∀ w, Calls Try.prog 22 #[.int .u32 a, .int .u32 b] w fun e w' => e = .returned (.agg #[.float .f32 a, .float .f32 b]) ∧ Below w.heap.size w w') := fun w => of_calls a b w
  have C2 : Hid (∀ w, Calls Try.prog 22 #[.int .u32 c, .int .u32 d] w fun e w' => e = .returned (.agg #[.float .f32 c, .float .f32 d]) ∧ Below w.heap.size w w') := fun w => of_calls c d w
  have C3 : Hid _ := P
  have C4 : Hid _ := T
  have C5 : Hid (∀ w, Calls Try.prog 25 #[.agg #[.float .f32 r, .float .f32 s], .agg #[.int .u32 r, .int .u32 s]] w fun e w' => e = .returned (.bool true) ∧ Below w.heap.size w w') := fun w => same_calls r s w
  clear P T
  have A0 := Q4.init w (.int .u32 a) (.int .u32 b) (.int .u32 c) (.int .u32 d) 24
  have B0 := below_alloc1 w (.cells #[.int .u32 a, .int .u32 b, .int .u32 c, .int .u32 d] 24)
  go_enter Try.func9, Try.ntmps9
  go_wp2_with fail
  generalize w.alloc (.cells #[.int .u32 a, .int .u32 b, .int .u32 c, .int .u32 d] 24) = W0 at *
  refine (C1.out _).mono ?_
  rintro e w1 ⟨rfl, hw1⟩
  have A1 := (A0.step hw1).step (below_alloc1 w1 (.cells #[.float .f32 a, .float .f32 b] 28))
  have B1 := (B0.trans (hw1.mono B0.size))
  have B1' := B1.trans ((below_alloc1 w1 (.cells #[.float .f32 a, .float .f32 b] 28)).mono B1.size)
  have X1 := Q2.init w1 (.float .f32 a) (.float .f32 b) 28
  clear A0 B0 B1 hw1
  have k2 := A1.k2
  have k3 := A1.k3
  go_wp2_with fail
  generalize hW1 : w1.alloc (.cells #[.float .f32 a, .float .f32 b] 28) = W1 at *
  have hz1 : W1.heap.size = w1.heap.size + 1 := by rw [← hW1]; simp
  clear hW1 k2 k3
  refine (C2.out _).mono ?_
  rintro e w2 ⟨rfl, hw2⟩
  have hz2 := hw2.size
  have hb1 := below_alloc1 w2 (.cells #[.float .f32 c, .float .f32 d] 28)
  have hb2 := below_alloc1 (w2.alloc (.cells #[.float .f32 c, .float .f32 d] 28)) (.cells #[.float .f32 0, .float .f32 0] 28)
  have A2 := ((A1.step hw2).step hb1).step hb2
  have X2 := ((X1.step hw2).step hb1).step hb2
  have Y2 := (Q2.init w2 (.float .f32 c) (.float .f32 d) 28).step hb2
  have R2 := Q2.init (w2.alloc (.cells #[.float .f32 c, .float .f32 d] 28)) (.float .f32 0) (.float .f32 0) 28
  have B2 := B1'.trans (hw2.mono B1'.size)
  have B3 := B2.trans (hb1.mono B2.size)
  have hn2 := B2.size
  have B4 := B3.trans (hb2.mono B3.size)
  simp only [World.size_alloc] at R2
  clear A1 X1 B1' hw2 hb1 hb2 B2 B3
  have xk0 := X2.k0
  have xk1 := X2.k1
  have yk0 := Y2.k0
  have yk1 := Y2.k1
  go_wp2_with fail
  generalize (w2.alloc (.cells #[.float .f32 c, .float .f32 d] 28)).alloc (.cells #[.float .f32 0, .float .f32 0] 28) = W2 at *
  clear xk0 xk1 yk0 yk1
  refine (C3.out _).mono ?_
  rintro e w3 ⟨rfl, hw3⟩
  have A3 := A2.step hw3
  have R3 := R2.step hw3
  have B5 := B4.trans (hw3.mono B4.size)
  have hn := B4.size
  have s0 := A2.sz
  have s1 := R2.sz
  have hne : w2.heap.size + 1 ≠ w.heap.size := by omega
  have hle : w.heap.size ≤ w2.heap.size + 1 := by omega
  clear A2 X2 Y2 R2 B4 hw3
  have ak0 := A3.k0
  have ak1 := A3.k1
  have ak2 := A3.k2
  have ak3 := A3.k3
  have rf0 := R3.f0
  have rf1 := R3.f1
  have rk0 := R3.k0
  have rk1 := R3.k1
  go_wp2_with fail
  have R4 := R3.put (.float .f32 r) (.float .f32 s)
  have B6 := below_put2 B5 hle (.float .f32 r) (.float .f32 s)
  generalize (w3.setCell ⟨w2.heap.size + 1, 0, none⟩ (.float .f32 r)).setCell ⟨w2.heap.size + 1, 1, none⟩ (.float .f32 s) = W3 at *
  clear ak0 ak1 ak2 ak3 rf0 rf1 rk0 rk1 A3 R3 B5
  refine (C4.out _).mono ?_
  rintro e w4 ⟨rfl, hw4⟩
  have hb1 := below_alloc1 w4 (.cells #[.int .u32 r, .int .u32 s] 43)
  have R5 := (R4.step hw4).step hb1
  have N5 := Q2.init w4 (.int .u32 r) (.int .u32 s) 43
  have B7 := B6.trans (hw4.mono B6.size)
  have B8 := B7.trans (hb1.mono B7.size)
  clear R4 B6 B7 hw4 hb1
  have rk0 := R5.k0
  have rk1 := R5.k1
  have nk0 := N5.k0
  have nk1 := N5.k1
  go_wp2_with fail
  generalize w4.alloc (.cells #[.int .u32 r, .int .u32 s] 43) = W5 at *
  clear rk0 rk1 nk0 nk1 R5 N5
  refine (C5.out _).mono ?_
  rintro e w6 ⟨rfl, hw6⟩
  have B9 := B8.trans (hw6.mono B8.size)
  clear hw6 B8
  go_wp2_with fail
  go_ret
  exact ⟨by simp, B9⟩

theorem two_none {k : Int} (hk : k < 0 ∨ 4 < k) (a b c d : Int) (w : World) :
    Calls Try.prog 9 #[.int .i64 k, .agg #[.int .u32 a, .int .u32 b, .int .u32 c, .int .u32 d]] w fun e w' => e = .returned (.bool true) ∧ Below w.heap.size w w' := by
  have B0 := below_alloc1 w (.cells #[.int .u32 a, .int .u32 b, .int .u32 c, .int .u32 d] 24)
  by_cases h0 : k < 0
  · go_enter Try.func9, Try.ntmps9
    go_wp2_with fail
    go_ret
    exact ⟨rfl, B0⟩
  · have h4 : k > 4 := by omega
    go_enter Try.func9, Try.ntmps9
    go_wp2_with fail
    go_ret
    exact ⟨rfl, B0⟩

theorem reckons_calls {k a b c d : Int} (T0 : ∀ w, Calls Try.prog 9 #[.int .i64 0, .agg #[.int .u32 1065353216, .int .u32 1073741824, .int .u32 1077936128, .int .u32 1082130432]] w fun e w' => e = .returned (.bool true) ∧ Below w.heap.size w w')
    (T : ∀ w, Calls Try.prog 9 #[.int .i64 k, .agg #[.int .u32 a, .int .u32 b, .int .u32 c, .int .u32 d]] w fun e w' => e = .returned (.bool true) ∧ Below w.heap.size w w') (w : World) :
    Calls Try.prog 4 #[.int .i64 k, .agg #[.int .u32 a, .int .u32 b, .int .u32 c, .int .u32 d]] w fun e w' => e = .returned (.bool true) ∧ Below w.heap.size w w' := by
  have C1 : Hid _ := T0
  have C2 : Hid _ := T
  clear T0 T
  have A0 := Q4.init w (.int .u32 a) (.int .u32 b) (.int .u32 c) (.int .u32 d) 24
  have B0 := below_alloc1 w (.cells #[.int .u32 a, .int .u32 b, .int .u32 c, .int .u32 d] 24)
  go_enter Try.func4, Try.ntmps4
  go_wp2_with fail
  generalize w.alloc (.cells #[.int .u32 a, .int .u32 b, .int .u32 c, .int .u32 d] 24) = W0 at *
  refine (C1.out _).mono ?_
  rintro e w1 ⟨rfl, hw1⟩
  have A1 := A0.step hw1
  have B1 := B0.trans (hw1.mono B0.size)
  clear A0 B0 hw1
  have ak0 := A1.k0
  have ak1 := A1.k1
  have ak2 := A1.k2
  have ak3 := A1.k3
  go_wp2_with fail
  refine (C2.out _).mono ?_
  rintro e w2 ⟨rfl, hw2⟩
  have B2 := B1.trans (hw2.mono B1.size)
  clear A1 B1 hw2 ak0 ak1 ak2 ak3
  go_wp2_with fail
  go_ret
  exact ⟨rfl, B2⟩
end Go.Proofs.Ytakpfdhopodleaa
