import Derived.Test.YtakpfdhopodleaaRefJK
namespace Go.Proofs.Ytakpfdhopodleaa
open Go.ChangeShapes Go.WideShapes Go.ChangeAt Go.RowKit Hedge
set_option linter.unusedSimpArgs false
set_option linter.unusedVariables false
set_option linter.unnecessarySimpa false

set_option maxHeartbeats 8000000 in
theorem belowN_inf2 (M1 M2 : Nat) (E1 E2 i j : Int) (hi : Nz true M1 E1 true i) (hj : Nz true M2 E2 false j) (w : World) :
    Calls Try.prog 66 #[.agg #[.bool true, .int .i64 M1, .int .i64 E1, .bool true], .agg #[.bool true, .int .i64 M2, .int .i64 E2, .bool false]] w fun e w' => e = .returned (.bool true) ∧ Below w.heap.size w w' := by
  have D1 : Hid _ := hi
  have D2 : Hid _ := hj
  clear hi hj
  have O := (N4.init w (.bool true) (.int .i64 M1) (.int .i64 E1) (.bool true) 53).step (below_alloc1 _ (.cells #[.bool true, .int .i64 M2, .int .i64 E2, .bool false] 53))
  have N := (N4.init (w.alloc (.cells #[.bool true, .int .i64 M1, .int .i64 E1, .bool true] 53)) (.bool true) (.int .i64 M2) (.int .i64 E2) (.bool false) 53)
  simp only [World.size_alloc] at N O
  have B := below2 w (.cells #[.bool true, .int .i64 M1, .int .i64 E1, .bool true] 53) (.cells #[.bool true, .int .i64 M2, .int .i64 E2, .bool false] 53)
  go_enter Try.func66, Try.ntmps66
  go_wp2_with fail
  refine (sign_nz D1.out _).mono ?_
  rintro e w1 ⟨rfl, hw1⟩
  have N1 := N.step hw1
  have O1 := O.step hw1
  have B1 := B.trans (hw1.mono B.size)
  clear N B hw1 O
  have k0 := N1.k0
  have k1 := N1.k1
  have k2 := N1.k2
  have k3 := N1.k3
  go_wp2_with fail
  refine (sign_nz D2.out _).mono ?_
  rintro e w2 ⟨rfl, hw2⟩
  have B2 := B1.trans (hw2.mono B1.size)
  have O2 := O1.step hw2
  have N2 := N1.step hw2
  clear B1 hw2 O1 N1 k0 k1 k2 k3
  have hdr : Below w2.heap.size w2 w2.drew := (Below.refl _ _).drew
  have O2' := O2.step hdr
  have N2' := N2.step hdr
  have B2' := B2.trans (hdr.mono B2.size)
  clear O2 N2 B2 hdr
  go_wp2_with fail
  have k0 := N2'.k0
  have k1 := N2'.k1
  have k2 := N2'.k2
  have k3 := N2'.k3
  have l0 := O2'.k0
  have l1 := O2'.k1
  have l2 := O2'.k2
  have l3 := O2'.k3
  go_region_with (first
    | (go_at_call_of 68 (Value.agg #[Value.bool true, Value.int IntKind.i64 (M2 : Int), Value.int IntKind.i64 E2, Value.bool false]); refine (neg_nz D2.out _).mono ?_; rintro e w3 ⟨rfl, hw3⟩; have O3 := O2'.step hw3; have N3 := N2'.step hw3; have B3 := B2'.trans (hw3.mono B2'.size); clear hw3; have l0 := O3.k0; have l1 := O3.k1; have l2 := O3.k2; have l3 := O3.k3)
    | (go_at_call_of 68 (Value.agg #[Value.bool true, Value.int IntKind.i64 (M1 : Int), Value.int IntKind.i64 E1, Value.bool true]); refine (neg_nz D1.out _).mono ?_; rintro e w4 ⟨rfl, hw4⟩; have O4 := O3.step hw4; have N4' := N3.step hw4; have B4 := B3.trans (hw4.mono B3.size); clear hw4; have l0 := O4.k0; have l1 := O4.k1; have l2 := O4.k2; have l3 := O4.k3; have g0 := O4.f0; have g1 := O4.f1; have g2 := O4.f2; have g3 := O4.f3; have k0 := N4'.k0; have k1 := N4'.k1; have k2 := N4'.k2; have k3 := N4'.k3; have h0 := N4'.f0; have h1 := N4'.f1; have h2 := N4'.f2; have h3 := N4'.f3))
  all_goals (
    have O5 := (O4.put (by omega) (.bool false) (.int .i64 M2) (.int .i64 E2) (.bool false)).others (w.heap.size + 1) 0 1 2 3 (.bool false) (.int .i64 M1) (.int .i64 E1) (.bool true) (by omega)
    have N5 := (N4'.others w.heap.size 0 1 2 3 (.bool false) (.int .i64 M2) (.int .i64 E2) (.bool false) (by omega)).put (by omega) (.bool false) (.int .i64 M1) (.int .i64 E1) (.bool true)
    have B5 := below_put (b := w.heap.size + 1) (below_put (b := w.heap.size) B4 (Nat.le_refl _) 0 1 2 3 (.bool false) (.int .i64 M2) (.int .i64 E2) (.bool false)) (by omega) 0 1 2 3 (.bool false) (.int .i64 M1) (.int .i64 E1) (.bool true)
    clear l0 l1 l2 l3 g0 g1 g2 g3 k0 k1 k2 k3 h0 h1 h2 h3 O4 N4' B4
    have m3 := O5.k3
    have n3 := N5.k3
    go_wp2_with fail
    go_ret
    exact ⟨rfl, B5⟩)

end Go.Proofs.Ytakpfdhopodleaa
