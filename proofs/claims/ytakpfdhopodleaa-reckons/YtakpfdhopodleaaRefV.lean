import Derived.Test.YtakpfdhopodleaaRefU
namespace Go.Proofs.Ytakpfdhopodleaa
open Go.ChangeShapes Go.WideShapes Go.ChangeAt Go.RowKit Hedge
set_option linter.unusedSimpArgs false
set_option linter.unusedVariables false
set_option linter.unnecessarySimpa false

set_option maxHeartbeats 2000000 in
theorem Add_calls {a b c d r s : Int} (H1 : ∀ w, Calls Try.prog 50 #[numV a, numV c, .bool false] w fun e w' => e = .returned (numV r) ∧ Below w.heap.size w w')
    (H2 : ∀ w, Calls Try.prog 50 #[numV b, numV d, .bool true] w fun e w' => e = .returned (numV s) ∧ Below w.heap.size w w') (w : World) :
    Calls Try.prog 35 #[pairV a b, pairV c d] w fun e w' => e = .returned (pairV r s) ∧ Below w.heap.size w w' := by
  obtain ⟨x0, x1, x2, x3, y0, y1, y2, y3, hx, hy, hp, -⟩ := pair_open a b
  obtain ⟨p0, p1, p2, p3, q0, q1, q2, q3, hpp, hqq, hq, -⟩ := pair_open c d
  obtain ⟨u0, u1, u2, u3, v0, v1, v2, v3, hu, hv, hr, -⟩ := pair_open r s
  rw [hx, hpp, hu] at H1
  rw [hy, hqq, hv] at H2
  rw [hp, hq, hr]
  have D1 : Hid _ := H1
  have D2 : Hid _ := H2
  clear H1 H2 hx hy hp hpp hqq hq hu hv hr
  have hb1 := below_alloc1 (w.alloc (.cells #[.bool x0, .int .i64 x1, .int .i64 x2, .bool x3, .bool y0, .int .i64 y1, .int .i64 y2, .bool y3] 55)) (.cells #[.bool p0, .int .i64 p1, .int .i64 p2, .bool p3, .bool q0, .int .i64 q1, .int .i64 q2, .bool q3] 55)
  have hb2 := below_alloc1 ((w.alloc (.cells #[.bool x0, .int .i64 x1, .int .i64 x2, .bool x3, .bool y0, .int .i64 y1, .int .i64 y2, .bool y3] 55)).alloc (.cells #[.bool p0, .int .i64 p1, .int .i64 p2, .bool p3, .bool q0, .int .i64 q1, .int .i64 q2, .bool q3] 55)) (.cells #[.bool false, .int .i64 0, .int .i64 0, .bool false, .bool false, .int .i64 0, .int .i64 0, .bool false] 55)
  have X0 := ((V8.init w (.bool x0) (.int .i64 x1) (.int .i64 x2) (.bool x3) (.bool y0) (.int .i64 y1) (.int .i64 y2) (.bool y3) 55).step hb1).step hb2
  have Y0 := (V8.init (w.alloc (.cells #[.bool x0, .int .i64 x1, .int .i64 x2, .bool x3, .bool y0, .int .i64 y1, .int .i64 y2, .bool y3] 55)) (.bool p0) (.int .i64 p1) (.int .i64 p2) (.bool p3) (.bool q0) (.int .i64 q1) (.int .i64 q2) (.bool q3) 55).step hb2
  have R0 := V8.init ((w.alloc (.cells #[.bool x0, .int .i64 x1, .int .i64 x2, .bool x3, .bool y0, .int .i64 y1, .int .i64 y2, .bool y3] 55)).alloc (.cells #[.bool p0, .int .i64 p1, .int .i64 p2, .bool p3, .bool q0, .int .i64 q1, .int .i64 q2, .bool q3] 55)) (.bool false) (.int .i64 0) (.int .i64 0) (.bool false) (.bool false) (.int .i64 0) (.int .i64 0) (.bool false) 55
  have B0 := below3 w (.cells #[.bool x0, .int .i64 x1, .int .i64 x2, .bool x3, .bool y0, .int .i64 y1, .int .i64 y2, .bool y3] 55) (.cells #[.bool p0, .int .i64 p1, .int .i64 p2, .bool p3, .bool q0, .int .i64 q1, .int .i64 q2, .bool q3] 55) (.cells #[.bool false, .int .i64 0, .int .i64 0, .bool false, .bool false, .int .i64 0, .int .i64 0, .bool false] 55)
  simp only [World.size_alloc] at X0 Y0 R0
  clear hb1 hb2
  go_enter Try.func35, Try.ntmps35
  go_wp2_with fail
  generalize ((w.alloc (.cells #[.bool x0, .int .i64 x1, .int .i64 x2, .bool x3, .bool y0, .int .i64 y1, .int .i64 y2, .bool y3] 55)).alloc (.cells #[.bool p0, .int .i64 p1, .int .i64 p2, .bool p3, .bool q0, .int .i64 q1, .int .i64 q2, .bool q3] 55)).alloc (.cells #[.bool false, .int .i64 0, .int .i64 0, .bool false, .bool false, .int .i64 0, .int .i64 0, .bool false] 55) = W0 at *
  have hdr : Below W0.heap.size W0 W0.drew := (Below.refl _ _).drew
  have X1 := X0.step hdr
  have Y1 := Y0.step hdr
  have R1 := R0.step hdr
  have B1 := B0.trans (hdr.mono B0.size)
  clear X0 Y0 R0 B0 hdr
  go_region_held3 (fun w' => (w'.cell? ⟨w.heap.size, 0, none⟩ = some (.bool x0) ∧ w'.cell? ⟨w.heap.size, 1, none⟩ = some (.int .i64 x1) ∧ w'.cell? ⟨w.heap.size, 2, none⟩ = some (.int .i64 x2) ∧ w'.cell? ⟨w.heap.size, 3, none⟩ = some (.bool x3) ∧ w'.cell? ⟨w.heap.size, 4, none⟩ = some (.bool y0) ∧ w'.cell? ⟨w.heap.size, 5, none⟩ = some (.int .i64 y1) ∧ w'.cell? ⟨w.heap.size, 6, none⟩ = some (.int .i64 y2) ∧ w'.cell? ⟨w.heap.size, 7, none⟩ = some (.bool y3)) ∧ (w'.cell? ⟨w.heap.size + 1, 0, none⟩ = some (.bool p0) ∧ w'.cell? ⟨w.heap.size + 1, 1, none⟩ = some (.int .i64 p1) ∧ w'.cell? ⟨w.heap.size + 1, 2, none⟩ = some (.int .i64 p2) ∧ w'.cell? ⟨w.heap.size + 1, 3, none⟩ = some (.bool p3) ∧ w'.cell? ⟨w.heap.size + 1, 4, none⟩ = some (.bool q0) ∧ w'.cell? ⟨w.heap.size + 1, 5, none⟩ = some (.int .i64 q1) ∧ w'.cell? ⟨w.heap.size + 1, 6, none⟩ = some (.int .i64 q2) ∧ w'.cell? ⟨w.heap.size + 1, 7, none⟩ = some (.bool q3)))
    (first | with_reducible exact ⟨X1.cells, Y1.cells⟩ | with_reducible exact ⟨X2.cells, Y2.cells⟩ | with_reducible exact ⟨X3.cells, Y3.cells⟩ | with_reducible exact ⟨(X3.others (b' := w.heap.size + 1 + 1) (by omega) _ _ _ _ _ _ _ _).cells, (Y3.others (b' := w.heap.size + 1 + 1) (by omega) _ _ _ _ _ _ _ _).cells⟩)
    (first
      | ((go_at_call_of 50 (Value.agg #[Value.bool x0, Value.int IntKind.i64 x1, Value.int IntKind.i64 x2, Value.bool x3]); refine (D1.out _).mono ?_; rintro e w2 ⟨rfl, hw2⟩; have X2 := X1.step hw2; have Y2 := Y1.step hw2; have R2 := R1.step hw2; have B2 := B1.trans (hw2.mono B1.size); clear hw2))
      | ((go_at_call_of 50 (Value.agg #[Value.bool y0, Value.int IntKind.i64 y1, Value.int IntKind.i64 y2, Value.bool y3]); refine (D2.out _).mono ?_; rintro e w3 ⟨rfl, hw3⟩; have X3 := X2.step hw3; have Y3 := Y2.step hw3; have R3 := R2.step hw3; have B3 := B2.trans (hw3.mono B2.size); clear hw3; obtain ⟨r0, r1, r2, r3, f0, f1, f2, f3, sz⟩ := R3.p; obtain ⟨s0, s1, s2, s3, g0, g1, g2, g3, sz'⟩ := R3.q)))
  go_wp2_with fail
  refine bodyPost_ret (v := .agg #[.bool u0, .int .i64 u1, .int .i64 u2, .bool u3, .bool v0, .int .i64 v1, .int .i64 v2, .bool v3]) (by simp [results, Try.results35, go_sem, r0, r1, r2, r3, s0, s1, s2, s3]) rfl ⟨rfl, ?_⟩
  exact below_put8 (b := w.heap.size + 1 + 1) B3 (by omega) _ _ _ _ _ _ _ _

set_option maxHeartbeats 2000000 in
theorem Sub_calls {a b c d n m r s : Int} (H1 : ∀ w, Calls Try.prog 51 #[pairV c d] w fun e w' => e = .returned (pairV n m) ∧ Below w.heap.size w w')
    (H2 : ∀ w, Calls Try.prog 35 #[pairV a b, pairV n m] w fun e w' => e = .returned (pairV r s) ∧ Below w.heap.size w w') (w : World) :
    Calls Try.prog 36 #[pairV a b, pairV c d] w fun e w' => e = .returned (pairV r s) ∧ Below w.heap.size w w' := by
  obtain ⟨x0, x1, x2, x3, y0, y1, y2, y3, -, -, hp, -⟩ := pair_open a b
  obtain ⟨p0, p1, p2, p3, q0, q1, q2, q3, -, -, hq, -⟩ := pair_open c d
  obtain ⟨h0, h1, h2, h3, k0, k1, k2, k3, -, -, hn, -⟩ := pair_open n m
  obtain ⟨u0, u1, u2, u3, v0, v1, v2, v3, -, -, hr, -⟩ := pair_open r s
  rw [hq, hn] at H1
  rw [hp, hn, hr] at H2
  rw [hp, hq, hr]
  have D1 : Hid _ := H1
  have D2 : Hid _ := H2
  clear H1 H2 hp hq hr hn
  have hb1 := below_alloc1 (w.alloc (.cells #[.bool x0, .int .i64 x1, .int .i64 x2, .bool x3, .bool y0, .int .i64 y1, .int .i64 y2, .bool y3] 55)) (.cells #[.bool p0, .int .i64 p1, .int .i64 p2, .bool p3, .bool q0, .int .i64 q1, .int .i64 q2, .bool q3] 55)
  have hb2 := below_alloc1 ((w.alloc (.cells #[.bool x0, .int .i64 x1, .int .i64 x2, .bool x3, .bool y0, .int .i64 y1, .int .i64 y2, .bool y3] 55)).alloc (.cells #[.bool p0, .int .i64 p1, .int .i64 p2, .bool p3, .bool q0, .int .i64 q1, .int .i64 q2, .bool q3] 55)) (.cells #[.bool false, .int .i64 0, .int .i64 0, .bool false, .bool false, .int .i64 0, .int .i64 0, .bool false] 55)
  have X0 := ((V8.init w (.bool x0) (.int .i64 x1) (.int .i64 x2) (.bool x3) (.bool y0) (.int .i64 y1) (.int .i64 y2) (.bool y3) 55).step hb1).step hb2
  have Y0 := (V8.init (w.alloc (.cells #[.bool x0, .int .i64 x1, .int .i64 x2, .bool x3, .bool y0, .int .i64 y1, .int .i64 y2, .bool y3] 55)) (.bool p0) (.int .i64 p1) (.int .i64 p2) (.bool p3) (.bool q0) (.int .i64 q1) (.int .i64 q2) (.bool q3) 55).step hb2
  have R0 := V8.init ((w.alloc (.cells #[.bool x0, .int .i64 x1, .int .i64 x2, .bool x3, .bool y0, .int .i64 y1, .int .i64 y2, .bool y3] 55)).alloc (.cells #[.bool p0, .int .i64 p1, .int .i64 p2, .bool p3, .bool q0, .int .i64 q1, .int .i64 q2, .bool q3] 55)) (.bool false) (.int .i64 0) (.int .i64 0) (.bool false) (.bool false) (.int .i64 0) (.int .i64 0) (.bool false) 55
  have B0 := below3 w (.cells #[.bool x0, .int .i64 x1, .int .i64 x2, .bool x3, .bool y0, .int .i64 y1, .int .i64 y2, .bool y3] 55) (.cells #[.bool p0, .int .i64 p1, .int .i64 p2, .bool p3, .bool q0, .int .i64 q1, .int .i64 q2, .bool q3] 55) (.cells #[.bool false, .int .i64 0, .int .i64 0, .bool false, .bool false, .int .i64 0, .int .i64 0, .bool false] 55)
  simp only [World.size_alloc] at X0 Y0 R0
  clear hb1 hb2
  go_enter Try.func36, Try.ntmps36
  go_wp2_with fail
  generalize ((w.alloc (.cells #[.bool x0, .int .i64 x1, .int .i64 x2, .bool x3, .bool y0, .int .i64 y1, .int .i64 y2, .bool y3] 55)).alloc (.cells #[.bool p0, .int .i64 p1, .int .i64 p2, .bool p3, .bool q0, .int .i64 q1, .int .i64 q2, .bool q3] 55)).alloc (.cells #[.bool false, .int .i64 0, .int .i64 0, .bool false, .bool false, .int .i64 0, .int .i64 0, .bool false] 55) = W0 at *
  have hdr : Below W0.heap.size W0 W0.drew := (Below.refl _ _).drew
  have X1 := X0.step hdr
  have Y1 := Y0.step hdr
  have R1 := R0.step hdr
  have B1 := B0.trans (hdr.mono B0.size)
  clear X0 Y0 R0 B0 hdr
  go_region_held3 (fun w' => (w'.cell? ⟨w.heap.size, 0, none⟩ = some (.bool x0) ∧ w'.cell? ⟨w.heap.size, 1, none⟩ = some (.int .i64 x1) ∧ w'.cell? ⟨w.heap.size, 2, none⟩ = some (.int .i64 x2) ∧ w'.cell? ⟨w.heap.size, 3, none⟩ = some (.bool x3) ∧ w'.cell? ⟨w.heap.size, 4, none⟩ = some (.bool y0) ∧ w'.cell? ⟨w.heap.size, 5, none⟩ = some (.int .i64 y1) ∧ w'.cell? ⟨w.heap.size, 6, none⟩ = some (.int .i64 y2) ∧ w'.cell? ⟨w.heap.size, 7, none⟩ = some (.bool y3)) ∧ (w'.cell? ⟨w.heap.size + 1, 0, none⟩ = some (.bool p0) ∧ w'.cell? ⟨w.heap.size + 1, 1, none⟩ = some (.int .i64 p1) ∧ w'.cell? ⟨w.heap.size + 1, 2, none⟩ = some (.int .i64 p2) ∧ w'.cell? ⟨w.heap.size + 1, 3, none⟩ = some (.bool p3) ∧ w'.cell? ⟨w.heap.size + 1, 4, none⟩ = some (.bool q0) ∧ w'.cell? ⟨w.heap.size + 1, 5, none⟩ = some (.int .i64 q1) ∧ w'.cell? ⟨w.heap.size + 1, 6, none⟩ = some (.int .i64 q2) ∧ w'.cell? ⟨w.heap.size + 1, 7, none⟩ = some (.bool q3)))
    (first | with_reducible exact ⟨X1.cells, Y1.cells⟩ | with_reducible exact ⟨X2.cells, Y2.cells⟩ | with_reducible exact ⟨X3.cells, Y3.cells⟩ | with_reducible exact ⟨(X3.others (b' := w.heap.size + 1 + 1) (by omega) _ _ _ _ _ _ _ _).cells, (Y3.others (b' := w.heap.size + 1 + 1) (by omega) _ _ _ _ _ _ _ _).cells⟩)
    (first
      | ((go_at_call 51; refine (D1.out _).mono ?_; rintro e w2 ⟨rfl, hw2⟩; have X2 := X1.step hw2; have Y2 := Y1.step hw2; have R2 := R1.step hw2; have B2 := B1.trans (hw2.mono B1.size); clear hw2))
      | ((go_at_call 35; refine (D2.out _).mono ?_; rintro e w3 ⟨rfl, hw3⟩; have X3 := X2.step hw3; have Y3 := Y2.step hw3; have R3 := R2.step hw3; have B3 := B2.trans (hw3.mono B2.size); clear hw3; obtain ⟨r0, r1, r2, r3, f0, f1, f2, f3, sz⟩ := R3.p; obtain ⟨s0, s1, s2, s3, g0, g1, g2, g3, sz'⟩ := R3.q)))
  go_wp2_with fail
  refine bodyPost_ret (v := .agg #[.bool u0, .int .i64 u1, .int .i64 u2, .bool u3, .bool v0, .int .i64 v1, .int .i64 v2, .bool v3]) (by simp [results, Try.results36, go_sem, r0, r1, r2, r3, s0, s1, s2, s3]) rfl ⟨rfl, ?_⟩
  exact below_put8 (b := w.heap.size + 1 + 1) B3 (by omega) _ _ _ _ _ _ _ _

set_option maxHeartbeats 2000000 in
theorem Sqrt_calls {a b r s : Int} (H0 : ∀ w, Calls Try.prog 57 #[numV a] w fun e w' => e = .returned (.int .i64 (sg a)) ∧ Below w.heap.size w w')
    (h0 : 0 ≤ sg a) (H1 : ∀ w, Calls Try.prog 58 #[numV a, .bool false] w fun e w' => e = .returned (numV r) ∧ Below w.heap.size w w')
    (H2 : ∀ w, Calls Try.prog 58 #[numV b, .bool true] w fun e w' => e = .returned (numV s) ∧ Below w.heap.size w w') (w : World) :
    Calls Try.prog 39 #[pairV a b] w fun e w' => e = .returned (.tuple #[pairV r s, .int .i64 0]) ∧ Below w.heap.size w w' := by
  obtain ⟨x0, x1, x2, x3, y0, y1, y2, y3, hx, hy, hp, -⟩ := pair_open a b
  obtain ⟨u0, u1, u2, u3, v0, v1, v2, v3, hu, hv, hr, -⟩ := pair_open r s
  rw [hx] at H0
  rw [hx, hu] at H1
  rw [hy, hv] at H2
  rw [hp, hr]
  have D0 : Hid _ := H0
  have D1 : Hid _ := H1
  have D2 : Hid _ := H2
  have hng : ¬ sg a < 0 := by omega
  clear H0 H1 H2 hx hy hp hu hv hr
  have X0 := (V8.init w (.bool x0) (.int .i64 x1) (.int .i64 x2) (.bool x3) (.bool y0) (.int .i64 y1) (.int .i64 y2) (.bool y3) 55).step (below_alloc1 _ (.cells #[.bool false, .int .i64 0, .int .i64 0, .bool false, .bool false, .int .i64 0, .int .i64 0, .bool false] 55))
  have R0 := V8.init (w.alloc (.cells #[.bool x0, .int .i64 x1, .int .i64 x2, .bool x3, .bool y0, .int .i64 y1, .int .i64 y2, .bool y3] 55)) (.bool false) (.int .i64 0) (.int .i64 0) (.bool false) (.bool false) (.int .i64 0) (.int .i64 0) (.bool false) 55
  have B0 := below2 w (.cells #[.bool x0, .int .i64 x1, .int .i64 x2, .bool x3, .bool y0, .int .i64 y1, .int .i64 y2, .bool y3] 55) (.cells #[.bool false, .int .i64 0, .int .i64 0, .bool false, .bool false, .int .i64 0, .int .i64 0, .bool false] 55)
  simp only [World.size_alloc] at X0 R0
  go_enter Try.func39, Try.ntmps39
  go_wp2_with fail
  generalize (w.alloc (.cells #[.bool x0, .int .i64 x1, .int .i64 x2, .bool x3, .bool y0, .int .i64 y1, .int .i64 y2, .bool y3] 55)).alloc (.cells #[.bool false, .int .i64 0, .int .i64 0, .bool false, .bool false, .int .i64 0, .int .i64 0, .bool false] 55) = W0 at *
  refine (D0.out _).mono ?_
  rintro e w1 ⟨rfl, hw1⟩
  have X0' := X0.step hw1
  have R0' := R0.step hw1
  have B0' := B0.trans (hw1.mono B0.size)
  clear X0 R0 B0 hw1
  go_wp2_with fail
  have hdr : Below w1.heap.size w1 w1.drew := (Below.refl _ _).drew
  have X1 := X0'.step hdr
  have R1 := R0'.step hdr
  have B1 := B0'.trans (hdr.mono B0'.size)
  clear X0' R0' B0' hdr
  go_region_held3 (fun w' => w'.cell? ⟨w.heap.size, 0, none⟩ = some (.bool x0) ∧ w'.cell? ⟨w.heap.size, 1, none⟩ = some (.int .i64 x1) ∧ w'.cell? ⟨w.heap.size, 2, none⟩ = some (.int .i64 x2) ∧ w'.cell? ⟨w.heap.size, 3, none⟩ = some (.bool x3) ∧ w'.cell? ⟨w.heap.size, 4, none⟩ = some (.bool y0) ∧ w'.cell? ⟨w.heap.size, 5, none⟩ = some (.int .i64 y1) ∧ w'.cell? ⟨w.heap.size, 6, none⟩ = some (.int .i64 y2) ∧ w'.cell? ⟨w.heap.size, 7, none⟩ = some (.bool y3))
    (first | with_reducible exact X1.cells | with_reducible exact X2.cells | with_reducible exact X3.cells | with_reducible exact (X3.others (b' := w.heap.size + 1) (by omega) _ _ _ _ _ _ _ _).cells)
    (first
      | ((go_at_call_of 58 (Value.agg #[Value.bool x0, Value.int IntKind.i64 x1, Value.int IntKind.i64 x2, Value.bool x3]); refine (D1.out _).mono ?_; rintro e w2 ⟨rfl, hw2⟩; have X2 := X1.step hw2; have R2 := R1.step hw2; have B2 := B1.trans (hw2.mono B1.size); clear hw2))
      | ((go_at_call_of 58 (Value.agg #[Value.bool y0, Value.int IntKind.i64 y1, Value.int IntKind.i64 y2, Value.bool y3]); refine (D2.out _).mono ?_; rintro e w3 ⟨rfl, hw3⟩; have X3 := X2.step hw3; have R3 := R2.step hw3; have B3 := B2.trans (hw3.mono B2.size); clear hw3; obtain ⟨r0, r1, r2, r3, f0, f1, f2, f3, sz⟩ := R3.p; obtain ⟨s0, s1, s2, s3, g0, g1, g2, g3, sz'⟩ := R3.q)))
  go_wp2_with fail
  refine bodyPost_ret (v := .tuple #[.agg #[.bool u0, .int .i64 u1, .int .i64 u2, .bool u3, .bool v0, .int .i64 v1, .int .i64 v2, .bool v3], .int .i64 0]) (by simp [results, Try.results39, go_sem, r0, r1, r2, r3, s0, s1, s2, s3]) rfl ⟨rfl, ?_⟩
  exact below_put8 (b := w.heap.size + 1) B3 (by omega) _ _ _ _ _ _ _ _

theorem Sqrt_below {a b : Int} (H0 : ∀ w, Calls Try.prog 57 #[numV a] w fun e w' => e = .returned (.int .i64 (sg a)) ∧ Below w.heap.size w w')
    (h0 : sg a < 0) (w : World) :
    Calls Try.prog 39 #[pairV a b] w fun e w' => e = .returned (.tuple #[pairV 0 0, .int .i64 3]) ∧ Below w.heap.size w w' := by
  obtain ⟨x0, x1, x2, x3, y0, y1, y2, y3, hx, hy, hp, -⟩ := pair_open a b
  have hz : pairV 0 0 = .agg #[.bool false, .int .i64 0, .int .i64 0, .bool false, .bool false, .int .i64 0, .int .i64 0, .bool false] := pair_shut numV_zero numV_zero
  rw [hx] at H0
  rw [hp, hz]
  have D0 : Hid _ := H0
  clear H0 hx hy hp hz
  have R0 := V8.init (w.alloc (.cells #[.bool x0, .int .i64 x1, .int .i64 x2, .bool x3, .bool y0, .int .i64 y1, .int .i64 y2, .bool y3] 55)) (.bool false) (.int .i64 0) (.int .i64 0) (.bool false) (.bool false) (.int .i64 0) (.int .i64 0) (.bool false) 55
  have B0 := below2 w (.cells #[.bool x0, .int .i64 x1, .int .i64 x2, .bool x3, .bool y0, .int .i64 y1, .int .i64 y2, .bool y3] 55) (.cells #[.bool false, .int .i64 0, .int .i64 0, .bool false, .bool false, .int .i64 0, .int .i64 0, .bool false] 55)
  simp only [World.size_alloc] at R0
  go_enter Try.func39, Try.ntmps39
  go_wp2_with fail
  generalize (w.alloc (.cells #[.bool x0, .int .i64 x1, .int .i64 x2, .bool x3, .bool y0, .int .i64 y1, .int .i64 y2, .bool y3] 55)).alloc (.cells #[.bool false, .int .i64 0, .int .i64 0, .bool false, .bool false, .int .i64 0, .int .i64 0, .bool false] 55) = W0 at *
  refine (D0.out _).mono ?_
  rintro e w1 ⟨rfl, hw1⟩
  have R0' := R0.step hw1
  have B0' := B0.trans (hw1.mono B0.size)
  clear R0 B0 hw1
  obtain ⟨r0, r1, r2, r3, f0, f1, f2, f3, sz⟩ := R0'.p
  obtain ⟨s0, s1, s2, s3, g0, g1, g2, g3, sz'⟩ := R0'.q
  go_wp2_with fail
  refine bodyPost_ret (v := .tuple #[.agg #[.bool false, .int .i64 0, .int .i64 0, .bool false, .bool false, .int .i64 0, .int .i64 0, .bool false], .int .i64 3]) (by simp [results, Try.results39, go_sem, r0, r1, r2, r3, s0, s1, s2, s3]) rfl ⟨rfl, ?_⟩
  exact below_put8 (b := w.heap.size + 1) B0' (by omega) _ _ _ _ _ _ _ _
end Go.Proofs.Ytakpfdhopodleaa
