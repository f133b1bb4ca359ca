import Derived.Test.YtakpfdhopodleaaRefS
import Derived.Deep.RegionHeld3
namespace Go.Proofs.Ytakpfdhopodleaa
open Go.ChangeShapes Go.WideShapes Go.ChangeAt Go.RowKit Hedge
set_option linter.unusedSimpArgs false
set_option linter.unusedVariables false
set_option linter.unnecessarySimpa false

/-- Eight cells of a block: a pair of numbers. -/
structure V8 (W : World) (b : Nat) (x0 x1 x2 x3 y0 y1 y2 y3 : Value) : Prop where
  p : N4 W b 0 1 2 3 x0 x1 x2 x3
  q : N4 W b 4 5 6 7 y0 y1 y2 y3
theorem V8.init (W : World) (x0 x1 x2 x3 y0 y1 y2 y3 : Value) (T : TypeId) : V8 (W.alloc (.cells #[x0, x1, x2, x3, y0, y1, y2, y3] T)) W.heap.size x0 x1 x2 x3 y0 y1 y2 y3 :=
  ⟨N4.init8 W x0 x1 x2 x3 y0 y1 y2 y3 T, N4.init8' W x0 x1 x2 x3 y0 y1 y2 y3 T⟩
theorem V8.step {W W' : World} {b : Nat} {x0 x1 x2 x3 y0 y1 y2 y3 : Value} (h : V8 W b x0 x1 x2 x3 y0 y1 y2 y3) (hb : Below W.heap.size W W') : V8 W' b x0 x1 x2 x3 y0 y1 y2 y3 :=
  ⟨h.p.step hb, h.q.step hb⟩
theorem V8.cells {W : World} {b : Nat} {x0 x1 x2 x3 y0 y1 y2 y3 : Value} (h : V8 W b x0 x1 x2 x3 y0 y1 y2 y3) :
    W.cell? ⟨b, 0, none⟩ = some x0 ∧ W.cell? ⟨b, 1, none⟩ = some x1 ∧ W.cell? ⟨b, 2, none⟩ = some x2 ∧ W.cell? ⟨b, 3, none⟩ = some x3 ∧
    W.cell? ⟨b, 4, none⟩ = some y0 ∧ W.cell? ⟨b, 5, none⟩ = some y1 ∧ W.cell? ⟨b, 6, none⟩ = some y2 ∧ W.cell? ⟨b, 7, none⟩ = some y3 :=
  ⟨h.p.k0, h.p.k1, h.p.k2, h.p.k3, h.q.k0, h.q.k1, h.q.k2, h.q.k3⟩
/-- Eight cells are written. -/
abbrev put8 (W : World) (b : Nat) (z0 z1 z2 z3 u0 u1 u2 u3 : Value) : World :=
  (((((((W.setCell ⟨b, 0, none⟩ z0).setCell ⟨b, 1, none⟩ z1).setCell ⟨b, 2, none⟩ z2).setCell ⟨b, 3, none⟩ z3).setCell ⟨b, 4, none⟩ u0).setCell ⟨b, 5, none⟩ u1).setCell ⟨b, 6, none⟩ u2).setCell ⟨b, 7, none⟩ u3
theorem V8.others {W : World} {b : Nat} {x0 x1 x2 x3 y0 y1 y2 y3 : Value} (h : V8 W b x0 x1 x2 x3 y0 y1 y2 y3) {b' : Nat} (hne : b' ≠ b) (z0 z1 z2 z3 u0 u1 u2 u3 : Value) :
    V8 (put8 W b' z0 z1 z2 z3 u0 u1 u2 u3) b x0 x1 x2 x3 y0 y1 y2 y3 :=
  ⟨(h.p.others b' 0 1 2 3 z0 z1 z2 z3 (Or.inl hne)).others b' 4 5 6 7 u0 u1 u2 u3 (Or.inl hne), (h.q.others b' 0 1 2 3 z0 z1 z2 z3 (Or.inl hne)).others b' 4 5 6 7 u0 u1 u2 u3 (Or.inl hne)⟩
theorem V8.put {W : World} {b : Nat} {x0 x1 x2 x3 y0 y1 y2 y3 : Value} (h : V8 W b x0 x1 x2 x3 y0 y1 y2 y3) (z0 z1 z2 z3 u0 u1 u2 u3 : Value) :
    V8 (put8 W b z0 z1 z2 z3 u0 u1 u2 u3) b z0 z1 z2 z3 u0 u1 u2 u3 :=
  ⟨(h.p.put (by omega) z0 z1 z2 z3).others b 4 5 6 7 u0 u1 u2 u3 (by omega), (h.q.others b 0 1 2 3 z0 z1 z2 z3 (by omega)).put (by omega) u0 u1 u2 u3⟩
theorem below_put8 {w W : World} {n b : Nat} (h : Below n w W) (hb : n ≤ b) (z0 z1 z2 z3 u0 u1 u2 u3 : Value) : Below n w (put8 W b z0 z1 z2 z3 u0 u1 u2 u3) :=
  below_put (below_put h hb 0 1 2 3 z0 z1 z2 z3) hb 4 5 6 7 u0 u1 u2 u3

set_option maxHeartbeats 2000000 in
theorem Neg_calls {a b : Int} (a1 : -I ≤ a) (a2 : a ≤ I) (b1 : -I ≤ b) (b2 : b ≤ I) (w : World) :
    Calls Try.prog 51 #[pairV a b] w fun e w' => e = .returned (pairV (-b) (-a)) ∧ Below w.heap.size w w' := by
  obtain ⟨x0, x1, x2, x3, y0, y1, y2, y3, hx, hy, hp, -⟩ := pair_open a b
  obtain ⟨u0, u1, u2, u3, v0, v1, v2, v3, hu, hv, hq, -⟩ := pair_open (-b) (-a)
  have C1 := fun w => neg_numV b1 b2 w
  have C2 := fun w => neg_numV a1 a2 w
  rw [hy, hu] at C1
  rw [hx, hv] at C2
  rw [hp, hq]
  have D1 : Hid _ := C1
  have D2 : Hid _ := C2
  clear C1 C2 a1 a2 b1 b2 hx hy hp hu hv hq
  have X0 := (V8.init w (.bool x0) (.int .i64 x1) (.int .i64 x2) (.bool x3) (.bool y0) (.int .i64 y1) (.int .i64 y2) (.bool y3) 55).step (below_alloc1 _ (.cells #[.bool false, .int .i64 0, .int .i64 0, .bool false, .bool false, .int .i64 0, .int .i64 0, .bool false] 55))
  have R0 := V8.init (w.alloc (.cells #[.bool x0, .int .i64 x1, .int .i64 x2, .bool x3, .bool y0, .int .i64 y1, .int .i64 y2, .bool y3] 55)) (.bool false) (.int .i64 0) (.int .i64 0) (.bool false) (.bool false) (.int .i64 0) (.int .i64 0) (.bool false) 55
  have B0 := below2 w (.cells #[.bool x0, .int .i64 x1, .int .i64 x2, .bool x3, .bool y0, .int .i64 y1, .int .i64 y2, .bool y3] 55) (.cells #[.bool false, .int .i64 0, .int .i64 0, .bool false, .bool false, .int .i64 0, .int .i64 0, .bool false] 55)
  simp only [World.size_alloc] at X0 R0
  go_enter Try.func51, Try.ntmps51
  go_wp2_with fail
  generalize (w.alloc (.cells #[.bool x0, .int .i64 x1, .int .i64 x2, .bool x3, .bool y0, .int .i64 y1, .int .i64 y2, .bool y3] 55)).alloc (.cells #[.bool false, .int .i64 0, .int .i64 0, .bool false, .bool false, .int .i64 0, .int .i64 0, .bool false] 55) = W0 at *
  have hdr : Below W0.heap.size W0 W0.drew := (Below.refl _ _).drew
  have X1 := X0.step hdr
  have R1 := R0.step hdr
  have B1 := B0.trans (hdr.mono B0.size)
  clear X0 R0 B0 hdr
  go_region_held3 (fun w' => w'.cell? ⟨w.heap.size, 0, none⟩ = some (.bool x0) ∧ w'.cell? ⟨w.heap.size, 1, none⟩ = some (.int .i64 x1) ∧ w'.cell? ⟨w.heap.size, 2, none⟩ = some (.int .i64 x2) ∧ w'.cell? ⟨w.heap.size, 3, none⟩ = some (.bool x3) ∧
      w'.cell? ⟨w.heap.size, 4, none⟩ = some (.bool y0) ∧ w'.cell? ⟨w.heap.size, 5, none⟩ = some (.int .i64 y1) ∧ w'.cell? ⟨w.heap.size, 6, none⟩ = some (.int .i64 y2) ∧ w'.cell? ⟨w.heap.size, 7, none⟩ = some (.bool y3))
    (first | with_reducible exact X1.cells | with_reducible exact X2.cells | with_reducible exact X3.cells | with_reducible exact (X3.others (b' := w.heap.size + 1) (by omega) _ _ _ _ _ _ _ _).cells)
    (first
      | ((go_at_call_of 68 (Value.agg #[Value.bool y0, Value.int IntKind.i64 y1, Value.int IntKind.i64 y2, Value.bool y3]); refine (D1.out _).mono ?_; rintro e w2 ⟨rfl, hw2⟩; have X2 := X1.step hw2; have R2 := R1.step hw2; have B2 := B1.trans (hw2.mono B1.size); clear hw2))
      | ((go_at_call_of 68 (Value.agg #[Value.bool x0, Value.int IntKind.i64 x1, Value.int IntKind.i64 x2, Value.bool x3]); refine (D2.out _).mono ?_; rintro e w3 ⟨rfl, hw3⟩; have X3 := X2.step hw3; have R3 := R2.step hw3; have B3 := B2.trans (hw3.mono B2.size); clear hw3; obtain ⟨r0, r1, r2, r3, f0, f1, f2, f3, sz⟩ := R3.p; obtain ⟨s0, s1, s2, s3, g0, g1, g2, g3, sz'⟩ := R3.q)))
  go_wp2_with fail
  refine bodyPost_ret (v := .agg #[.bool u0, .int .i64 u1, .int .i64 u2, .bool u3, .bool v0, .int .i64 v1, .int .i64 v2, .bool v3]) (by simp [results, Try.results51, go_sem, r0, r1, r2, r3, s0, s1, s2, s3]) rfl ⟨rfl, ?_⟩
  exact below_put8 (b := w.heap.size + 1) B3 (by omega) _ _ _ _ _ _ _ _
end Go.Proofs.Ytakpfdhopodleaa
