import Derived.Test.YtakpfdhopodleaaRefU
import Derived.Test.YtakpfdhopodleaaRefY
namespace Go.Proofs.Ytakpfdhopodleaa
open Go.ChangeShapes Go.WideShapes Go.ChangeAt Go.RowKit Hedge
set_option linter.unusedSimpArgs false
set_option linter.unusedVariables false
set_option linter.unnecessarySimpa false

theorem Read_calls {a b : Nat} {i j : Int} {f g v : Bool} (H1 : ∀ w, Calls Try.prog 48 #[.int .u32 a] w fun e w' => e = .returned (.tuple #[numV i, .bool f]) ∧ Below w.heap.size w w')
    (H2 : ∀ w, Calls Try.prog 48 #[.int .u32 b] w fun e w' => e = .returned (.tuple #[numV j, .bool g]) ∧ Below w.heap.size w w')
    (H3 : ∀ w, Calls Try.prog 49 #[pairV i j] w fun e w' => e = .returned (.bool v) ∧ Below w.heap.size w w') (w : World) :
    Calls Try.prog 34 #[.int .u32 a, .int .u32 b] w fun e w' => e = .returned (.tuple #[pairV i j, .bool (f && g && v)]) ∧ Below w.heap.size w w' := by
  obtain ⟨x0, x1, x2, x3, y0, y1, y2, y3, hx, hy, hp, -⟩ := pair_open i j
  rw [hx] at H1
  rw [hy] at H2
  rw [hp] at H3
  rw [hp]
  have D1 : Hid _ := H1
  have D2 : Hid _ := H2
  have D3 : Hid _ := H3
  clear H1 H2 H3 hx hy hp
  have R0 := V8.init w (.bool false) (.int .i64 0) (.int .i64 0) (.bool false) (.bool false) (.int .i64 0) (.int .i64 0) (.bool false) 55
  have B0 := below_alloc1 w (.cells #[.bool false, .int .i64 0, .int .i64 0, .bool false, .bool false, .int .i64 0, .int .i64 0, .bool false] 55)
  go_enter Try.func34, Try.ntmps34
  go_wp2_with fail
  generalize w.alloc (.cells #[.bool false, .int .i64 0, .int .i64 0, .bool false, .bool false, .int .i64 0, .int .i64 0, .bool false] 55) = W0 at *
  refine (D1.out _).mono ?_
  rintro e w1 ⟨rfl, hw1⟩
  have hb1 := below_alloc1 w1 (.cells #[.bool x0, .int .i64 x1, .int .i64 x2, .bool x3] 53)
  have R1 := (R0.step hw1).step hb1
  have X1 := N4.init w1 (.bool x0) (.int .i64 x1) (.int .i64 x2) (.bool x3) 53
  have B1 := B0.trans (hw1.mono B0.size)
  have B1' := B1.trans (hb1.mono B1.size)
  clear R0 B0 B1 hb1 hw1
  go_wp2_with fail
  generalize w1.alloc (.cells #[.bool x0, .int .i64 x1, .int .i64 x2, .bool x3] 53) = W1 at *
  refine (D2.out _).mono ?_
  rintro e w2 ⟨rfl, hw2⟩
  have hb1 := below_alloc1 w2 (.cells #[.bool y0, .int .i64 y1, .int .i64 y2, .bool y3] 53)
  have hb2 := below_alloc1 (w2.alloc (.cells #[.bool y0, .int .i64 y1, .int .i64 y2, .bool y3] 53)) (.cells #[.bool x0, .int .i64 x1, .int .i64 x2, .bool x3, .bool y0, .int .i64 y1, .int .i64 y2, .bool y3] 55)
  have X2 := ((X1.step hw2).step hb1)
  have Y2 := (N4.init w2 (.bool y0) (.int .i64 y1) (.int .i64 y2) (.bool y3) 53)
  have R2 := ((R1.step hw2).step hb1).step hb2
  have P2 := V8.init (w2.alloc (.cells #[.bool y0, .int .i64 y1, .int .i64 y2, .bool y3] 53)) (.bool x0) (.int .i64 x1) (.int .i64 x2) (.bool x3) (.bool y0) (.int .i64 y1) (.int .i64 y2) (.bool y3) 55
  have B2 := B1'.trans (hw2.mono B1'.size)
  have B3 := B2.trans (hb1.mono B2.size)
  have B4 := B3.trans (hb2.mono B3.size)
  simp only [World.size_alloc] at P2
  clear R1 X1 B1' hw2 hb1 hb2 B2 B3
  have xk0 := X2.k0
  have xk1 := X2.k1
  have xk2 := X2.k2
  have xk3 := X2.k3
  have yk0 := Y2.k0
  have yk1 := Y2.k1
  have yk2 := Y2.k2
  have yk3 := Y2.k3
  go_wp2_with fail
  clear xk0 xk1 xk2 xk3 yk0 yk1 yk2 yk3 X2 Y2
  generalize (w2.alloc (.cells #[.bool y0, .int .i64 y1, .int .i64 y2, .bool y3] 53)).alloc (.cells #[.bool x0, .int .i64 x1, .int .i64 x2, .bool x3, .bool y0, .int .i64 y1, .int .i64 y2, .bool y3] 55) = W2 at *
  refine (D3.out _).mono ?_
  rintro e w3 ⟨rfl, hw3⟩
  have P3 := P2.step hw3
  have R3 := R2.step hw3
  have B5 := B4.trans (hw3.mono B4.size)
  clear P2 R2 B4 hw3
  obtain ⟨p0, p1, p2, p3, q0, q1, q2, q3⟩ := P3.cells
  obtain ⟨r0, r1, r2, r3, f0, f1, f2, f3, sz⟩ := R3.p
  obtain ⟨s0, s1, s2, s3, g0, g1, g2, g3, sz'⟩ := R3.q
  cases f <;> cases g
  all_goals
    go_wp2_with fail
    refine bodyPost_ret (v := .tuple #[.agg #[.bool x0, .int .i64 x1, .int .i64 x2, .bool x3, .bool y0, .int .i64 y1, .int .i64 y2, .bool y3], _]) (by simp [results, Try.results34, go_sem, r0, r1, r2, r3, s0, s1, s2, s3]) rfl ⟨rfl, ?_⟩
    exact below_put8 (b := w.heap.size) B5 (by omega) _ _ _ _ _ _ _ _
end Go.Proofs.Ytakpfdhopodleaa
