import Derived.Test.YtakpfdhopodleaaRefZ
namespace Go.Proofs.Ytakpfdhopodleaa
open Go.ChangeShapes Go.WideShapes Go.ChangeAt Go.RowKit Hedge
set_option linter.unusedSimpArgs false
set_option linter.unusedVariables false
set_option linter.unnecessarySimpa false

theorem Two_bad {a b c d : Nat} {i j k l kind : Int} {f g : Bool} (H1 : ∀ w, Calls Try.prog 34 #[.int .u32 a, .int .u32 b] w fun e w' => e = .returned (.tuple #[pairV i j, .bool f]) ∧ Below w.heap.size w w')
    (H2 : ∀ w, Calls Try.prog 34 #[.int .u32 c, .int .u32 d] w fun e w' => e = .returned (.tuple #[pairV k l, .bool g]) ∧ Below w.heap.size w w') (hbad : f = false ∨ (g = false ∧ kind < 4)) (w : World) :
    Calls Try.prog 24 #[.int .i64 kind, .agg #[.int .u32 a, .int .u32 b, .int .u32 c, .int .u32 d]] w fun e w' => e = .returned (.tuple #[.agg #[.int .u32 0, .int .u32 0], .int .i64 1]) ∧ Below w.heap.size w w' := by
  obtain ⟨x0, x1, x2, x3, y0, y1, y2, y3, hx, hy, hp, -⟩ := pair_open i j
  obtain ⟨p0, p1, p2, p3, q0, q1, q2, q3, hpp, hqq, hq, -⟩ := pair_open k l
  rw [hp] at H1
  rw [hq] at H2
  have D1 : Hid _ := H1
  have D2 : Hid _ := H2
  clear H1 H2 hx hy hp hpp hqq hq
  have hb0 := below_alloc1 (w.alloc (.cells #[.int .u32 a, .int .u32 b, .int .u32 c, .int .u32 d] 24)) (.cells #[.int .u32 0, .int .u32 0] 43)
  have A0 := (Q4.init w (.int .u32 a) (.int .u32 b) (.int .u32 c) (.int .u32 d) 24).step hb0
  have R0 := Q2.init (w.alloc (.cells #[.int .u32 a, .int .u32 b, .int .u32 c, .int .u32 d] 24)) (.int .u32 0) (.int .u32 0) 43
  have B0 := below2 w (.cells #[.int .u32 a, .int .u32 b, .int .u32 c, .int .u32 d] 24) (.cells #[.int .u32 0, .int .u32 0] 43)
  simp only [World.size_alloc] at R0
  clear hb0
  go_enter Try.func24, Try.ntmps24
  go_wp2_with fail
  generalize (w.alloc (.cells #[.int .u32 a, .int .u32 b, .int .u32 c, .int .u32 d] 24)).alloc (.cells #[.int .u32 0, .int .u32 0] 43) = W0 at *
  refine (D1.out _).mono ?_
  rintro e w1 ⟨rfl, hw1⟩
  have hb1 := below_alloc1 w1 (.cells #[.bool x0, .int .i64 x1, .int .i64 x2, .bool x3, .bool y0, .int .i64 y1, .int .i64 y2, .bool y3] 55)
  have A1 := (A0.step hw1).step hb1
  have R1 := (R0.step hw1).step hb1
  have X1 := V8.init w1 (.bool x0) (.int .i64 x1) (.int .i64 x2) (.bool x3) (.bool y0) (.int .i64 y1) (.int .i64 y2) (.bool y3) 55
  have B1 := B0.trans (hw1.mono B0.size)
  have B1' := B1.trans (hb1.mono B1.size)
  clear A0 R0 B0 hw1 hb1 B1
  have k2 := A1.k2
  have k3 := A1.k3
  go_wp2_with fail
  generalize w1.alloc (.cells #[.bool x0, .int .i64 x1, .int .i64 x2, .bool x3, .bool y0, .int .i64 y1, .int .i64 y2, .bool y3] 55) = W1 at *
  refine (D2.out _).mono ?_
  rintro e w2 ⟨rfl, hw2⟩
  have hb1 := below_alloc1 w2 (.cells #[.bool p0, .int .i64 p1, .int .i64 p2, .bool p3, .bool q0, .int .i64 q1, .int .i64 q2, .bool q3] 55)
  have R2' := R1.step hw2
  have R2 := R2'.step hb1
  have X2 := (X1.step hw2).step hb1
  have Y2 := V8.init w2 (.bool p0) (.int .i64 p1) (.int .i64 p2) (.bool p3) (.bool q0) (.int .i64 q1) (.int .i64 q2) (.bool q3) 55
  have B2 := B1'.trans (hw2.mono B1'.size)
  have hn2 := B2.size
  have Bw2 := B2
  have hn3 : w.heap.size + 1 < w2.heap.size := (R1.step hw2).sz
  have B2' := B2.trans (hb1.mono B2.size)
  clear A1 R1 X1 B1' hw2 hb1 B2 k2 k3
  have r0 := R2'.k0
  have r1 := R2'.k1
  have f0 := R2'.f0
  have f1 := R2'.f1
  rcases hbad with rfl | ⟨rfl, h4⟩
  · go_wp2_with fail
    have hb := below_alloc1 ((w2.setCell ⟨w.heap.size + 1, 0, none⟩ (.int .u32 0)).setCell ⟨w.heap.size + 1, 1, none⟩ (.int .u32 0)) (.cells #[.bool p0, .int .i64 p1, .int .i64 p2, .bool p3, .bool q0, .int .i64 q1, .int .i64 q2, .bool q3] 55)
    have R3 := (R2'.put (.int .u32 0) (.int .u32 0)).step hb
    have B3 := below_put2 (b := w.heap.size + 1) Bw2 (by omega) (.int .u32 0) (.int .u32 0)
    have B4 := B3.trans (hb.mono B3.size)
    have r0' := R3.k0
    have r1' := R3.k1
    generalize ((w2.setCell ⟨w.heap.size + 1, 0, none⟩ (.int .u32 0)).setCell ⟨w.heap.size + 1, 1, none⟩ (.int .u32 0)).alloc (.cells #[.bool p0, .int .i64 p1, .int .i64 p2, .bool p3, .bool q0, .int .i64 q1, .int .i64 q2, .bool q3] 55) = W2 at *
    refine bodyPost_ret (v := .tuple #[.agg #[.int .u32 0, .int .u32 0], .int .i64 1]) (by simp [results, Try.results24, go_sem, r0', r1']) rfl ⟨rfl, ?_⟩
    exact B4
  · cases f
    · go_wp2_with fail
      have hb := below_alloc1 ((w2.setCell ⟨w.heap.size + 1, 0, none⟩ (.int .u32 0)).setCell ⟨w.heap.size + 1, 1, none⟩ (.int .u32 0)) (.cells #[.bool p0, .int .i64 p1, .int .i64 p2, .bool p3, .bool q0, .int .i64 q1, .int .i64 q2, .bool q3] 55)
      have R3 := (R2'.put (.int .u32 0) (.int .u32 0)).step hb
      have B3 := below_put2 (b := w.heap.size + 1) Bw2 (by omega) (.int .u32 0) (.int .u32 0)
      have B4 := B3.trans (hb.mono B3.size)
      have r0' := R3.k0
      have r1' := R3.k1
      generalize ((w2.setCell ⟨w.heap.size + 1, 0, none⟩ (.int .u32 0)).setCell ⟨w.heap.size + 1, 1, none⟩ (.int .u32 0)).alloc (.cells #[.bool p0, .int .i64 p1, .int .i64 p2, .bool p3, .bool q0, .int .i64 q1, .int .i64 q2, .bool q3] 55) = W2 at *
      refine bodyPost_ret (v := .tuple #[.agg #[.int .u32 0, .int .u32 0], .int .i64 1]) (by simp [results, Try.results24, go_sem, r0', r1']) rfl ⟨rfl, ?_⟩
      exact B4
    · go_wp2_with fail
      have hb := below_alloc1 ((w2.setCell ⟨w.heap.size + 1, 0, none⟩ (.int .u32 0)).setCell ⟨w.heap.size + 1, 1, none⟩ (.int .u32 0)) (.cells #[.bool p0, .int .i64 p1, .int .i64 p2, .bool p3, .bool q0, .int .i64 q1, .int .i64 q2, .bool q3] 55)
      have R3 := (R2'.put (.int .u32 0) (.int .u32 0)).step hb
      have B3 := below_put2 (b := w.heap.size + 1) Bw2 (by omega) (.int .u32 0) (.int .u32 0)
      have B4 := B3.trans (hb.mono B3.size)
      have r0' := R3.k0
      have r1' := R3.k1
      generalize ((w2.setCell ⟨w.heap.size + 1, 0, none⟩ (.int .u32 0)).setCell ⟨w.heap.size + 1, 1, none⟩ (.int .u32 0)).alloc (.cells #[.bool p0, .int .i64 p1, .int .i64 p2, .bool p3, .bool q0, .int .i64 q1, .int .i64 q2, .bool q3] 55) = W2 at *
      refine bodyPost_ret (v := .tuple #[.agg #[.int .u32 0, .int .u32 0], .int .i64 1]) (by simp [results, Try.results24, go_sem, r0', r1']) rfl ⟨rfl, ?_⟩
      exact B4

theorem V8.other1 {W : World} {b : Nat} {x0 x1 x2 x3 y0 y1 y2 y3 : Value} (h : V8 W b x0 x1 x2 x3 y0 y1 y2 y3) {b' : Nat} (hne : b' ≠ b) (o : Nat) (v : Value) :
    V8 (W.setCell ⟨b', o, none⟩ v) b x0 x1 x2 x3 y0 y1 y2 y3 := ⟨h.p.other b' o v (Or.inl hne), h.q.other b' o v (Or.inl hne)⟩

set_option maxHeartbeats 2000000 in
theorem Two_0 {a b c d : Nat} {i j k l r s : Int} {r' s' : Nat} (H1 : ∀ w, Calls Try.prog 34 #[.int .u32 a, .int .u32 b] w fun e w' => e = .returned (.tuple #[pairV i j, .bool true]) ∧ Below w.heap.size w w')
    (H2 : ∀ w, Calls Try.prog 34 #[.int .u32 c, .int .u32 d] w fun e w' => e = .returned (.tuple #[pairV k l, .bool true]) ∧ Below w.heap.size w w')
    (O : ∀ w, Calls Try.prog 35 #[pairV i j, pairV k l] w fun e w' => e = .returned (pairV r s) ∧ Below w.heap.size w w')
    (T1 : ∀ w, Calls Try.prog 40 #[numV r] w fun e w' => e = .returned (.int .u32 r') ∧ Below w.heap.size w w')
    (T2 : ∀ w, Calls Try.prog 40 #[numV s] w fun e w' => e = .returned (.int .u32 s') ∧ Below w.heap.size w w') (w : World) :
    Calls Try.prog 24 #[.int .i64 0, .agg #[.int .u32 a, .int .u32 b, .int .u32 c, .int .u32 d]] w fun e w' => e = .returned (.tuple #[.agg #[.int .u32 r', .int .u32 s'], .int .i64 0]) ∧ Below w.heap.size w w' := by
  obtain ⟨x0, x1, x2, x3, y0, y1, y2, y3, hx, hy, hp, -⟩ := pair_open i j
  obtain ⟨p0, p1, p2, p3, q0, q1, q2, q3, hpp, hqq, hq, -⟩ := pair_open k l
  rw [hp] at H1
  rw [hq] at H2
  have D1 : Hid _ := H1
  have D2 : Hid _ := H2
  obtain ⟨u0, u1, u2, u3, v0, v1, v2, v3, hu, hv, hr, -⟩ := pair_open r s
  rw [hp, hq, hr] at O
  have D3 : Hid _ := O
  rw [hu] at T1
  rw [hv] at T2
  have D4 : Hid _ := T1
  have D5 : Hid _ := T2
  clear H1 H2 hx hy hp hpp hqq hq O hu hv hr T1 T2
  have hb0 := below_alloc1 (w.alloc (.cells #[.int .u32 a, .int .u32 b, .int .u32 c, .int .u32 d] 24)) (.cells #[.int .u32 0, .int .u32 0] 43)
  have A0 := (Q4.init w (.int .u32 a) (.int .u32 b) (.int .u32 c) (.int .u32 d) 24).step hb0
  have R0 := Q2.init (w.alloc (.cells #[.int .u32 a, .int .u32 b, .int .u32 c, .int .u32 d] 24)) (.int .u32 0) (.int .u32 0) 43
  have B0 := below2 w (.cells #[.int .u32 a, .int .u32 b, .int .u32 c, .int .u32 d] 24) (.cells #[.int .u32 0, .int .u32 0] 43)
  simp only [World.size_alloc] at R0
  clear hb0
  go_enter Try.func24, Try.ntmps24
  go_wp2_with fail
  generalize (w.alloc (.cells #[.int .u32 a, .int .u32 b, .int .u32 c, .int .u32 d] 24)).alloc (.cells #[.int .u32 0, .int .u32 0] 43) = W0 at *
  refine (D1.out _).mono ?_
  rintro e w1 ⟨rfl, hw1⟩
  have hb1 := below_alloc1 w1 (.cells #[.bool x0, .int .i64 x1, .int .i64 x2, .bool x3, .bool y0, .int .i64 y1, .int .i64 y2, .bool y3] 55)
  have A1 := (A0.step hw1).step hb1
  have R1 := (R0.step hw1).step hb1
  have X1 := V8.init w1 (.bool x0) (.int .i64 x1) (.int .i64 x2) (.bool x3) (.bool y0) (.int .i64 y1) (.int .i64 y2) (.bool y3) 55
  have B1 := B0.trans (hw1.mono B0.size)
  have B1' := B1.trans (hb1.mono B1.size)
  clear A0 R0 B0 hw1 hb1 B1
  have k2 := A1.k2
  have k3 := A1.k3
  go_wp2_with fail
  generalize w1.alloc (.cells #[.bool x0, .int .i64 x1, .int .i64 x2, .bool x3, .bool y0, .int .i64 y1, .int .i64 y2, .bool y3] 55) = W1 at *
  refine (D2.out _).mono ?_
  rintro e w2 ⟨rfl, hw2⟩
  have hb1 := below_alloc1 w2 (.cells #[.bool p0, .int .i64 p1, .int .i64 p2, .bool p3, .bool q0, .int .i64 q1, .int .i64 q2, .bool q3] 55)
  have R2' := R1.step hw2
  have R2 := R2'.step hb1
  have X2 := (X1.step hw2).step hb1
  have Y2 := V8.init w2 (.bool p0) (.int .i64 p1) (.int .i64 p2) (.bool p3) (.bool q0) (.int .i64 q1) (.int .i64 q2) (.bool q3) 55
  have B2 := B1'.trans (hw2.mono B1'.size)
  have hn2 := B2.size
  have Bw2 := B2
  have hn3 : w.heap.size + 1 < w2.heap.size := (R1.step hw2).sz
  have B2' := B2.trans (hb1.mono B2.size)
  clear A1 R1 X1 B1' hw2 hb1 B2 k2 k3
  have hb1 := below_alloc1 (w2.alloc (.cells #[.bool p0, .int .i64 p1, .int .i64 p2, .bool p3, .bool q0, .int .i64 q1, .int .i64 q2, .bool q3] 55)) (.cells #[.bool false, .int .i64 0, .int .i64 0, .bool false, .bool false, .int .i64 0, .int .i64 0, .bool false] 55)
  have X3 := X2.step hb1
  have Y3 := Y2.step hb1
  have P3 := V8.init (w2.alloc (.cells #[.bool p0, .int .i64 p1, .int .i64 p2, .bool p3, .bool q0, .int .i64 q1, .int .i64 q2, .bool q3] 55)) (.bool false) (.int .i64 0) (.int .i64 0) (.bool false) (.bool false) (.int .i64 0) (.int .i64 0) (.bool false) 55
  have R3 := R2.step hb1
  have B3 := B2'.trans (hb1.mono B2'.size)
  simp only [World.size_alloc] at P3
  clear X2 Y2 R2 R2' Bw2 B2' hb1
  obtain ⟨xp0, xp1, xp2, xp3, xq0, xq1, xq2, xq3⟩ := X3.cells
  obtain ⟨yp0, yp1, yp2, yp3, yq0, yq1, yq2, yq3⟩ := Y3.cells
  go_wp2_with fail
  clear xp0 xp1 xp2 xp3 xq0 xq1 xq2 xq3 yp0 yp1 yp2 yp3 yq0 yq1 yq2 yq3 X3 Y3
  generalize (w2.alloc (.cells #[.bool p0, .int .i64 p1, .int .i64 p2, .bool p3, .bool q0, .int .i64 q1, .int .i64 q2, .bool q3] 55)).alloc (.cells #[.bool false, .int .i64 0, .int .i64 0, .bool false, .bool false, .int .i64 0, .int .i64 0, .bool false] 55) = W3 at *
  refine (D3.out _).mono ?_
  rintro e w4 ⟨rfl, hw4⟩
  have P4 := P3.step hw4
  have R4 := R3.step hw4
  have B4 := B3.trans (hw4.mono B3.size)
  clear P3 R3 B3 hw4
  obtain ⟨p0', p1', p2', p3', pf0, pf1, pf2, pf3, psz⟩ := P4.p
  obtain ⟨q0', q1', q2', q3', qf0, qf1, qf2, qf3, psz'⟩ := P4.q
  have P5 := P4.put (.bool u0) (.int .i64 u1) (.int .i64 u2) (.bool u3) (.bool v0) (.int .i64 v1) (.int .i64 v2) (.bool v3)
  have R5 := ((((((((R4.other (b' := w2.heap.size + 1) 0 (.bool u0) (by omega)).other (b' := w2.heap.size + 1) 1 (.int .i64 u1) (by omega)).other (b' := w2.heap.size + 1) 2 (.int .i64 u2) (by omega)).other (b' := w2.heap.size + 1) 3 (.bool u3) (by omega)).other (b' := w2.heap.size + 1) 4 (.bool v0) (by omega)).other (b' := w2.heap.size + 1) 5 (.int .i64 v1) (by omega)).other (b' := w2.heap.size + 1) 6 (.int .i64 v2) (by omega)).other (b' := w2.heap.size + 1) 7 (.bool v3) (by omega))
  have B5 := below_put8 (b := w2.heap.size + 1) B4 (by omega) (.bool u0) (.int .i64 u1) (.int .i64 u2) (.bool u3) (.bool v0) (.int .i64 v1) (.int .i64 v2) (.bool v3)
  go_wp2_with fail
  clear p0' p1' p2' p3' pf0 pf1 pf2 pf3 psz q0' q1' q2' q3' qf0 qf1 qf2 qf3 psz' P4 R4 B4
  dsimp only [put8] at P5 R5 B5
  generalize ((((((((w4).setCell ⟨w2.heap.size + 1, 0, none⟩ (.bool u0)).setCell ⟨w2.heap.size + 1, 1, none⟩ (.int .i64 u1)).setCell ⟨w2.heap.size + 1, 2, none⟩ (.int .i64 u2)).setCell ⟨w2.heap.size + 1, 3, none⟩ (.bool u3)).setCell ⟨w2.heap.size + 1, 4, none⟩ (.bool v0)).setCell ⟨w2.heap.size + 1, 5, none⟩ (.int .i64 v1)).setCell ⟨w2.heap.size + 1, 6, none⟩ (.int .i64 v2)).setCell ⟨w2.heap.size + 1, 7, none⟩ (.bool v3) = W5 at *
  have hdr : Below W5.heap.size W5 W5.drew := (Below.refl _ _).drew
  have X1 := P5.step hdr
  have R6 := R5.step hdr
  have B6 := B5.trans (hdr.mono B5.size)
  clear P5 R5 B5 hdr
  go_region_held3 (fun w' => w'.cell? ⟨w2.heap.size + 1, 0, none⟩ = some (.bool u0) ∧ w'.cell? ⟨w2.heap.size + 1, 1, none⟩ = some (.int .i64 u1) ∧ w'.cell? ⟨w2.heap.size + 1, 2, none⟩ = some (.int .i64 u2) ∧ w'.cell? ⟨w2.heap.size + 1, 3, none⟩ = some (.bool u3) ∧ w'.cell? ⟨w2.heap.size + 1, 4, none⟩ = some (.bool v0) ∧ w'.cell? ⟨w2.heap.size + 1, 5, none⟩ = some (.int .i64 v1) ∧ w'.cell? ⟨w2.heap.size + 1, 6, none⟩ = some (.int .i64 v2) ∧ w'.cell? ⟨w2.heap.size + 1, 7, none⟩ = some (.bool v3))
    (first | with_reducible exact X1.cells | with_reducible exact X2.cells | with_reducible exact X3.cells | with_reducible exact ((X3.other1 (b' := w.heap.size + 1) (by omega) 0 _).other1 (b' := w.heap.size + 1) (by omega) 1 _).cells)
    (first
      | ((go_at_call_of 40 (Value.agg #[Value.bool u0, Value.int IntKind.i64 u1, Value.int IntKind.i64 u2, Value.bool u3]); refine (D4.out _).mono ?_; rintro e w6 ⟨rfl, hw6⟩; have X2 := X1.step hw6; have R7 := R6.step hw6; have B7 := B6.trans (hw6.mono B6.size); clear hw6))
      | ((go_at_call_of 40 (Value.agg #[Value.bool v0, Value.int IntKind.i64 v1, Value.int IntKind.i64 v2, Value.bool v3]); refine (D5.out _).mono ?_; rintro e w7 ⟨rfl, hw7⟩; have X3 := X2.step hw7; have R8 := R7.step hw7; have B8 := B7.trans (hw7.mono B7.size); clear hw7; obtain ⟨r0, r1, f0, f1, sz⟩ := R8)))
  go_wp2_with fail
  refine bodyPost_ret (v := .tuple #[.agg #[.int .u32 r', .int .u32 s'], .int .i64 0]) (by simp [results, Try.results24, go_sem, r0, r1]) rfl ⟨rfl, ?_⟩
  exact below_put2 (b := w.heap.size + 1) B8 (by omega) _ _

set_option maxHeartbeats 2000000 in
theorem Two_1 {a b c d : Nat} {i j k l r s : Int} {r' s' : Nat} (H1 : ∀ w, Calls Try.prog 34 #[.int .u32 a, .int .u32 b] w fun e w' => e = .returned (.tuple #[pairV i j, .bool true]) ∧ Below w.heap.size w w')
    (H2 : ∀ w, Calls Try.prog 34 #[.int .u32 c, .int .u32 d] w fun e w' => e = .returned (.tuple #[pairV k l, .bool true]) ∧ Below w.heap.size w w')
    (O : ∀ w, Calls Try.prog 36 #[pairV i j, pairV k l] w fun e w' => e = .returned (pairV r s) ∧ Below w.heap.size w w')
    (T1 : ∀ w, Calls Try.prog 40 #[numV r] w fun e w' => e = .returned (.int .u32 r') ∧ Below w.heap.size w w')
    (T2 : ∀ w, Calls Try.prog 40 #[numV s] w fun e w' => e = .returned (.int .u32 s') ∧ Below w.heap.size w w') (w : World) :
    Calls Try.prog 24 #[.int .i64 1, .agg #[.int .u32 a, .int .u32 b, .int .u32 c, .int .u32 d]] w fun e w' => e = .returned (.tuple #[.agg #[.int .u32 r', .int .u32 s'], .int .i64 0]) ∧ Below w.heap.size w w' := by
  obtain ⟨x0, x1, x2, x3, y0, y1, y2, y3, hx, hy, hp, -⟩ := pair_open i j
  obtain ⟨p0, p1, p2, p3, q0, q1, q2, q3, hpp, hqq, hq, -⟩ := pair_open k l
  rw [hp] at H1
  rw [hq] at H2
  have D1 : Hid _ := H1
  have D2 : Hid _ := H2
  obtain ⟨u0, u1, u2, u3, v0, v1, v2, v3, hu, hv, hr, -⟩ := pair_open r s
  rw [hp, hq, hr] at O
  have D3 : Hid _ := O
  rw [hu] at T1
  rw [hv] at T2
  have D4 : Hid _ := T1
  have D5 : Hid _ := T2
  clear H1 H2 hx hy hp hpp hqq hq O hu hv hr T1 T2
  have hb0 := below_alloc1 (w.alloc (.cells #[.int .u32 a, .int .u32 b, .int .u32 c, .int .u32 d] 24)) (.cells #[.int .u32 0, .int .u32 0] 43)
  have A0 := (Q4.init w (.int .u32 a) (.int .u32 b) (.int .u32 c) (.int .u32 d) 24).step hb0
  have R0 := Q2.init (w.alloc (.cells #[.int .u32 a, .int .u32 b, .int .u32 c, .int .u32 d] 24)) (.int .u32 0) (.int .u32 0) 43
  have B0 := below2 w (.cells #[.int .u32 a, .int .u32 b, .int .u32 c, .int .u32 d] 24) (.cells #[.int .u32 0, .int .u32 0] 43)
  simp only [World.size_alloc] at R0
  clear hb0
  go_enter Try.func24, Try.ntmps24
  go_wp2_with fail
  generalize (w.alloc (.cells #[.int .u32 a, .int .u32 b, .int .u32 c, .int .u32 d] 24)).alloc (.cells #[.int .u32 0, .int .u32 0] 43) = W0 at *
  refine (D1.out _).mono ?_
  rintro e w1 ⟨rfl, hw1⟩
  have hb1 := below_alloc1 w1 (.cells #[.bool x0, .int .i64 x1, .int .i64 x2, .bool x3, .bool y0, .int .i64 y1, .int .i64 y2, .bool y3] 55)
  have A1 := (A0.step hw1).step hb1
  have R1 := (R0.step hw1).step hb1
  have X1 := V8.init w1 (.bool x0) (.int .i64 x1) (.int .i64 x2) (.bool x3) (.bool y0) (.int .i64 y1) (.int .i64 y2) (.bool y3) 55
  have B1 := B0.trans (hw1.mono B0.size)
  have B1' := B1.trans (hb1.mono B1.size)
  clear A0 R0 B0 hw1 hb1 B1
  have k2 := A1.k2
  have k3 := A1.k3
  go_wp2_with fail
  generalize w1.alloc (.cells #[.bool x0, .int .i64 x1, .int .i64 x2, .bool x3, .bool y0, .int .i64 y1, .int .i64 y2, .bool y3] 55) = W1 at *
  refine (D2.out _).mono ?_
  rintro e w2 ⟨rfl, hw2⟩
  have hb1 := below_alloc1 w2 (.cells #[.bool p0, .int .i64 p1, .int .i64 p2, .bool p3, .bool q0, .int .i64 q1, .int .i64 q2, .bool q3] 55)
  have R2' := R1.step hw2
  have R2 := R2'.step hb1
  have X2 := (X1.step hw2).step hb1
  have Y2 := V8.init w2 (.bool p0) (.int .i64 p1) (.int .i64 p2) (.bool p3) (.bool q0) (.int .i64 q1) (.int .i64 q2) (.bool q3) 55
  have B2 := B1'.trans (hw2.mono B1'.size)
  have hn2 := B2.size
  have Bw2 := B2
  have hn3 : w.heap.size + 1 < w2.heap.size := (R1.step hw2).sz
  have B2' := B2.trans (hb1.mono B2.size)
  clear A1 R1 X1 B1' hw2 hb1 B2 k2 k3
  have hb1 := below_alloc1 (w2.alloc (.cells #[.bool p0, .int .i64 p1, .int .i64 p2, .bool p3, .bool q0, .int .i64 q1, .int .i64 q2, .bool q3] 55)) (.cells #[.bool false, .int .i64 0, .int .i64 0, .bool false, .bool false, .int .i64 0, .int .i64 0, .bool false] 55)
  have X3 := X2.step hb1
  have Y3 := Y2.step hb1
  have P3 := V8.init (w2.alloc (.cells #[.bool p0, .int .i64 p1, .int .i64 p2, .bool p3, .bool q0, .int .i64 q1, .int .i64 q2, .bool q3] 55)) (.bool false) (.int .i64 0) (.int .i64 0) (.bool false) (.bool false) (.int .i64 0) (.int .i64 0) (.bool false) 55
  have R3 := R2.step hb1
  have B3 := B2'.trans (hb1.mono B2'.size)
  simp only [World.size_alloc] at P3
  clear X2 Y2 R2 R2' Bw2 B2' hb1
  obtain ⟨xp0, xp1, xp2, xp3, xq0, xq1, xq2, xq3⟩ := X3.cells
  obtain ⟨yp0, yp1, yp2, yp3, yq0, yq1, yq2, yq3⟩ := Y3.cells
  go_wp2_with fail
  clear xp0 xp1 xp2 xp3 xq0 xq1 xq2 xq3 yp0 yp1 yp2 yp3 yq0 yq1 yq2 yq3 X3 Y3
  generalize (w2.alloc (.cells #[.bool p0, .int .i64 p1, .int .i64 p2, .bool p3, .bool q0, .int .i64 q1, .int .i64 q2, .bool q3] 55)).alloc (.cells #[.bool false, .int .i64 0, .int .i64 0, .bool false, .bool false, .int .i64 0, .int .i64 0, .bool false] 55) = W3 at *
  refine (D3.out _).mono ?_
  rintro e w4 ⟨rfl, hw4⟩
  have P4 := P3.step hw4
  have R4 := R3.step hw4
  have B4 := B3.trans (hw4.mono B3.size)
  clear P3 R3 B3 hw4
  obtain ⟨p0', p1', p2', p3', pf0, pf1, pf2, pf3, psz⟩ := P4.p
  obtain ⟨q0', q1', q2', q3', qf0, qf1, qf2, qf3, psz'⟩ := P4.q
  have P5 := P4.put (.bool u0) (.int .i64 u1) (.int .i64 u2) (.bool u3) (.bool v0) (.int .i64 v1) (.int .i64 v2) (.bool v3)
  have R5 := ((((((((R4.other (b' := w2.heap.size + 1) 0 (.bool u0) (by omega)).other (b' := w2.heap.size + 1) 1 (.int .i64 u1) (by omega)).other (b' := w2.heap.size + 1) 2 (.int .i64 u2) (by omega)).other (b' := w2.heap.size + 1) 3 (.bool u3) (by omega)).other (b' := w2.heap.size + 1) 4 (.bool v0) (by omega)).other (b' := w2.heap.size + 1) 5 (.int .i64 v1) (by omega)).other (b' := w2.heap.size + 1) 6 (.int .i64 v2) (by omega)).other (b' := w2.heap.size + 1) 7 (.bool v3) (by omega))
  have B5 := below_put8 (b := w2.heap.size + 1) B4 (by omega) (.bool u0) (.int .i64 u1) (.int .i64 u2) (.bool u3) (.bool v0) (.int .i64 v1) (.int .i64 v2) (.bool v3)
  go_wp2_with fail
  clear p0' p1' p2' p3' pf0 pf1 pf2 pf3 psz q0' q1' q2' q3' qf0 qf1 qf2 qf3 psz' P4 R4 B4
  dsimp only [put8] at P5 R5 B5
  generalize ((((((((w4).setCell ⟨w2.heap.size + 1, 0, none⟩ (.bool u0)).setCell ⟨w2.heap.size + 1, 1, none⟩ (.int .i64 u1)).setCell ⟨w2.heap.size + 1, 2, none⟩ (.int .i64 u2)).setCell ⟨w2.heap.size + 1, 3, none⟩ (.bool u3)).setCell ⟨w2.heap.size + 1, 4, none⟩ (.bool v0)).setCell ⟨w2.heap.size + 1, 5, none⟩ (.int .i64 v1)).setCell ⟨w2.heap.size + 1, 6, none⟩ (.int .i64 v2)).setCell ⟨w2.heap.size + 1, 7, none⟩ (.bool v3) = W5 at *
  have hdr : Below W5.heap.size W5 W5.drew := (Below.refl _ _).drew
  have X1 := P5.step hdr
  have R6 := R5.step hdr
  have B6 := B5.trans (hdr.mono B5.size)
  clear P5 R5 B5 hdr
  go_region_held3 (fun w' => w'.cell? ⟨w2.heap.size + 1, 0, none⟩ = some (.bool u0) ∧ w'.cell? ⟨w2.heap.size + 1, 1, none⟩ = some (.int .i64 u1) ∧ w'.cell? ⟨w2.heap.size + 1, 2, none⟩ = some (.int .i64 u2) ∧ w'.cell? ⟨w2.heap.size + 1, 3, none⟩ = some (.bool u3) ∧ w'.cell? ⟨w2.heap.size + 1, 4, none⟩ = some (.bool v0) ∧ w'.cell? ⟨w2.heap.size + 1, 5, none⟩ = some (.int .i64 v1) ∧ w'.cell? ⟨w2.heap.size + 1, 6, none⟩ = some (.int .i64 v2) ∧ w'.cell? ⟨w2.heap.size + 1, 7, none⟩ = some (.bool v3))
    (first | with_reducible exact X1.cells | with_reducible exact X2.cells | with_reducible exact X3.cells | with_reducible exact ((X3.other1 (b' := w.heap.size + 1) (by omega) 0 _).other1 (b' := w.heap.size + 1) (by omega) 1 _).cells)
    (first
      | ((go_at_call_of 40 (Value.agg #[Value.bool u0, Value.int IntKind.i64 u1, Value.int IntKind.i64 u2, Value.bool u3]); refine (D4.out _).mono ?_; rintro e w6 ⟨rfl, hw6⟩; have X2 := X1.step hw6; have R7 := R6.step hw6; have B7 := B6.trans (hw6.mono B6.size); clear hw6))
      | ((go_at_call_of 40 (Value.agg #[Value.bool v0, Value.int IntKind.i64 v1, Value.int IntKind.i64 v2, Value.bool v3]); refine (D5.out _).mono ?_; rintro e w7 ⟨rfl, hw7⟩; have X3 := X2.step hw7; have R8 := R7.step hw7; have B8 := B7.trans (hw7.mono B7.size); clear hw7; obtain ⟨r0, r1, f0, f1, sz⟩ := R8)))
  go_wp2_with fail
  refine bodyPost_ret (v := .tuple #[.agg #[.int .u32 r', .int .u32 s'], .int .i64 0]) (by simp [results, Try.results24, go_sem, r0, r1]) rfl ⟨rfl, ?_⟩
  exact below_put2 (b := w.heap.size + 1) B8 (by omega) _ _

set_option maxHeartbeats 2000000 in
theorem Two_2 {a b c d : Nat} {i j k l r s : Int} {r' s' : Nat} (H1 : ∀ w, Calls Try.prog 34 #[.int .u32 a, .int .u32 b] w fun e w' => e = .returned (.tuple #[pairV i j, .bool true]) ∧ Below w.heap.size w w')
    (H2 : ∀ w, Calls Try.prog 34 #[.int .u32 c, .int .u32 d] w fun e w' => e = .returned (.tuple #[pairV k l, .bool true]) ∧ Below w.heap.size w w')
    (O : ∀ w, Calls Try.prog 37 #[pairV i j, pairV k l] w fun e w' => e = .returned (pairV r s) ∧ Below w.heap.size w w')
    (T1 : ∀ w, Calls Try.prog 40 #[numV r] w fun e w' => e = .returned (.int .u32 r') ∧ Below w.heap.size w w')
    (T2 : ∀ w, Calls Try.prog 40 #[numV s] w fun e w' => e = .returned (.int .u32 s') ∧ Below w.heap.size w w') (w : World) :
    Calls Try.prog 24 #[.int .i64 2, .agg #[.int .u32 a, .int .u32 b, .int .u32 c, .int .u32 d]] w fun e w' => e = .returned (.tuple #[.agg #[.int .u32 r', .int .u32 s'], .int .i64 0]) ∧ Below w.heap.size w w' := by
  obtain ⟨x0, x1, x2, x3, y0, y1, y2, y3, hx, hy, hp, -⟩ := pair_open i j
  obtain ⟨p0, p1, p2, p3, q0, q1, q2, q3, hpp, hqq, hq, -⟩ := pair_open k l
  rw [hp] at H1
  rw [hq] at H2
  have D1 : Hid _ := H1
  have D2 : Hid _ := H2
  obtain ⟨u0, u1, u2, u3, v0, v1, v2, v3, hu, hv, hr, -⟩ := pair_open r s
  rw [hp, hq, hr] at O
  have D3 : Hid _ := O
  rw [hu] at T1
  rw [hv] at T2
  have D4 : Hid _ := T1
  have D5 : Hid _ := T2
  clear H1 H2 hx hy hp hpp hqq hq O hu hv hr T1 T2
  have hb0 := below_alloc1 (w.alloc (.cells #[.int .u32 a, .int .u32 b, .int .u32 c, .int .u32 d] 24)) (.cells #[.int .u32 0, .int .u32 0] 43)
  have A0 := (Q4.init w (.int .u32 a) (.int .u32 b) (.int .u32 c) (.int .u32 d) 24).step hb0
  have R0 := Q2.init (w.alloc (.cells #[.int .u32 a, .int .u32 b, .int .u32 c, .int .u32 d] 24)) (.int .u32 0) (.int .u32 0) 43
  have B0 := below2 w (.cells #[.int .u32 a, .int .u32 b, .int .u32 c, .int .u32 d] 24) (.cells #[.int .u32 0, .int .u32 0] 43)
  simp only [World.size_alloc] at R0
  clear hb0
  go_enter Try.func24, Try.ntmps24
  go_wp2_with fail
  generalize (w.alloc (.cells #[.int .u32 a, .int .u32 b, .int .u32 c, .int .u32 d] 24)).alloc (.cells #[.int .u32 0, .int .u32 0] 43) = W0 at *
  refine (D1.out _).mono ?_
  rintro e w1 ⟨rfl, hw1⟩
  have hb1 := below_alloc1 w1 (.cells #[.bool x0, .int .i64 x1, .int .i64 x2, .bool x3, .bool y0, .int .i64 y1, .int .i64 y2, .bool y3] 55)
  have A1 := (A0.step hw1).step hb1
  have R1 := (R0.step hw1).step hb1
  have X1 := V8.init w1 (.bool x0) (.int .i64 x1) (.int .i64 x2) (.bool x3) (.bool y0) (.int .i64 y1) (.int .i64 y2) (.bool y3) 55
  have B1 := B0.trans (hw1.mono B0.size)
  have B1' := B1.trans (hb1.mono B1.size)
  clear A0 R0 B0 hw1 hb1 B1
  have k2 := A1.k2
  have k3 := A1.k3
  go_wp2_with fail
  generalize w1.alloc (.cells #[.bool x0, .int .i64 x1, .int .i64 x2, .bool x3, .bool y0, .int .i64 y1, .int .i64 y2, .bool y3] 55) = W1 at *
  refine (D2.out _).mono ?_
  rintro e w2 ⟨rfl, hw2⟩
  have hb1 := below_alloc1 w2 (.cells #[.bool p0, .int .i64 p1, .int .i64 p2, .bool p3, .bool q0, .int .i64 q1, .int .i64 q2, .bool q3] 55)
  have R2' := R1.step hw2
  have R2 := R2'.step hb1
  have X2 := (X1.step hw2).step hb1
  have Y2 := V8.init w2 (.bool p0) (.int .i64 p1) (.int .i64 p2) (.bool p3) (.bool q0) (.int .i64 q1) (.int .i64 q2) (.bool q3) 55
  have B2 := B1'.trans (hw2.mono B1'.size)
  have hn2 := B2.size
  have Bw2 := B2
  have hn3 : w.heap.size + 1 < w2.heap.size := (R1.step hw2).sz
  have B2' := B2.trans (hb1.mono B2.size)
  clear A1 R1 X1 B1' hw2 hb1 B2 k2 k3
  have hb1 := below_alloc1 (w2.alloc (.cells #[.bool p0, .int .i64 p1, .int .i64 p2, .bool p3, .bool q0, .int .i64 q1, .int .i64 q2, .bool q3] 55)) (.cells #[.bool false, .int .i64 0, .int .i64 0, .bool false, .bool false, .int .i64 0, .int .i64 0, .bool false] 55)
  have X3 := X2.step hb1
  have Y3 := Y2.step hb1
  have P3 := V8.init (w2.alloc (.cells #[.bool p0, .int .i64 p1, .int .i64 p2, .bool p3, .bool q0, .int .i64 q1, .int .i64 q2, .bool q3] 55)) (.bool false) (.int .i64 0) (.int .i64 0) (.bool false) (.bool false) (.int .i64 0) (.int .i64 0) (.bool false) 55
  have R3 := R2.step hb1
  have B3 := B2'.trans (hb1.mono B2'.size)
  simp only [World.size_alloc] at P3
  clear X2 Y2 R2 R2' Bw2 B2' hb1
  obtain ⟨xp0, xp1, xp2, xp3, xq0, xq1, xq2, xq3⟩ := X3.cells
  obtain ⟨yp0, yp1, yp2, yp3, yq0, yq1, yq2, yq3⟩ := Y3.cells
  go_wp2_with fail
  clear xp0 xp1 xp2 xp3 xq0 xq1 xq2 xq3 yp0 yp1 yp2 yp3 yq0 yq1 yq2 yq3 X3 Y3
  generalize (w2.alloc (.cells #[.bool p0, .int .i64 p1, .int .i64 p2, .bool p3, .bool q0, .int .i64 q1, .int .i64 q2, .bool q3] 55)).alloc (.cells #[.bool false, .int .i64 0, .int .i64 0, .bool false, .bool false, .int .i64 0, .int .i64 0, .bool false] 55) = W3 at *
  refine (D3.out _).mono ?_
  rintro e w4 ⟨rfl, hw4⟩
  have P4 := P3.step hw4
  have R4 := R3.step hw4
  have B4 := B3.trans (hw4.mono B3.size)
  clear P3 R3 B3 hw4
  obtain ⟨p0', p1', p2', p3', pf0, pf1, pf2, pf3, psz⟩ := P4.p
  obtain ⟨q0', q1', q2', q3', qf0, qf1, qf2, qf3, psz'⟩ := P4.q
  have P5 := P4.put (.bool u0) (.int .i64 u1) (.int .i64 u2) (.bool u3) (.bool v0) (.int .i64 v1) (.int .i64 v2) (.bool v3)
  have R5 := ((((((((R4.other (b' := w2.heap.size + 1) 0 (.bool u0) (by omega)).other (b' := w2.heap.size + 1) 1 (.int .i64 u1) (by omega)).other (b' := w2.heap.size + 1) 2 (.int .i64 u2) (by omega)).other (b' := w2.heap.size + 1) 3 (.bool u3) (by omega)).other (b' := w2.heap.size + 1) 4 (.bool v0) (by omega)).other (b' := w2.heap.size + 1) 5 (.int .i64 v1) (by omega)).other (b' := w2.heap.size + 1) 6 (.int .i64 v2) (by omega)).other (b' := w2.heap.size + 1) 7 (.bool v3) (by omega))
  have B5 := below_put8 (b := w2.heap.size + 1) B4 (by omega) (.bool u0) (.int .i64 u1) (.int .i64 u2) (.bool u3) (.bool v0) (.int .i64 v1) (.int .i64 v2) (.bool v3)
  go_wp2_with fail
  clear p0' p1' p2' p3' pf0 pf1 pf2 pf3 psz q0' q1' q2' q3' qf0 qf1 qf2 qf3 psz' P4 R4 B4
  dsimp only [put8] at P5 R5 B5
  generalize ((((((((w4).setCell ⟨w2.heap.size + 1, 0, none⟩ (.bool u0)).setCell ⟨w2.heap.size + 1, 1, none⟩ (.int .i64 u1)).setCell ⟨w2.heap.size + 1, 2, none⟩ (.int .i64 u2)).setCell ⟨w2.heap.size + 1, 3, none⟩ (.bool u3)).setCell ⟨w2.heap.size + 1, 4, none⟩ (.bool v0)).setCell ⟨w2.heap.size + 1, 5, none⟩ (.int .i64 v1)).setCell ⟨w2.heap.size + 1, 6, none⟩ (.int .i64 v2)).setCell ⟨w2.heap.size + 1, 7, none⟩ (.bool v3) = W5 at *
  have hdr : Below W5.heap.size W5 W5.drew := (Below.refl _ _).drew
  have X1 := P5.step hdr
  have R6 := R5.step hdr
  have B6 := B5.trans (hdr.mono B5.size)
  clear P5 R5 B5 hdr
  go_region_held3 (fun w' => w'.cell? ⟨w2.heap.size + 1, 0, none⟩ = some (.bool u0) ∧ w'.cell? ⟨w2.heap.size + 1, 1, none⟩ = some (.int .i64 u1) ∧ w'.cell? ⟨w2.heap.size + 1, 2, none⟩ = some (.int .i64 u2) ∧ w'.cell? ⟨w2.heap.size + 1, 3, none⟩ = some (.bool u3) ∧ w'.cell? ⟨w2.heap.size + 1, 4, none⟩ = some (.bool v0) ∧ w'.cell? ⟨w2.heap.size + 1, 5, none⟩ = some (.int .i64 v1) ∧ w'.cell? ⟨w2.heap.size + 1, 6, none⟩ = some (.int .i64 v2) ∧ w'.cell? ⟨w2.heap.size + 1, 7, none⟩ = some (.bool v3))
    (first | with_reducible exact X1.cells | with_reducible exact X2.cells | with_reducible exact X3.cells | with_reducible exact ((X3.other1 (b' := w.heap.size + 1) (by omega) 0 _).other1 (b' := w.heap.size + 1) (by omega) 1 _).cells)
    (first
      | ((go_at_call_of 40 (Value.agg #[Value.bool u0, Value.int IntKind.i64 u1, Value.int IntKind.i64 u2, Value.bool u3]); refine (D4.out _).mono ?_; rintro e w6 ⟨rfl, hw6⟩; have X2 := X1.step hw6; have R7 := R6.step hw6; have B7 := B6.trans (hw6.mono B6.size); clear hw6))
      | ((go_at_call_of 40 (Value.agg #[Value.bool v0, Value.int IntKind.i64 v1, Value.int IntKind.i64 v2, Value.bool v3]); refine (D5.out _).mono ?_; rintro e w7 ⟨rfl, hw7⟩; have X3 := X2.step hw7; have R8 := R7.step hw7; have B8 := B7.trans (hw7.mono B7.size); clear hw7; obtain ⟨r0, r1, f0, f1, sz⟩ := R8)))
  go_wp2_with fail
  refine bodyPost_ret (v := .tuple #[.agg #[.int .u32 r', .int .u32 s'], .int .i64 0]) (by simp [results, Try.results24, go_sem, r0, r1]) rfl ⟨rfl, ?_⟩
  exact below_put2 (b := w.heap.size + 1) B8 (by omega) _ _

set_option maxHeartbeats 2000000 in
theorem Two_3 {a b c d : Nat} {i j k l r s : Int} {r' s' : Nat} (H1 : ∀ w, Calls Try.prog 34 #[.int .u32 a, .int .u32 b] w fun e w' => e = .returned (.tuple #[pairV i j, .bool true]) ∧ Below w.heap.size w w')
    (H2 : ∀ w, Calls Try.prog 34 #[.int .u32 c, .int .u32 d] w fun e w' => e = .returned (.tuple #[pairV k l, .bool true]) ∧ Below w.heap.size w w')
    (O : ∀ w, Calls Try.prog 38 #[pairV i j, pairV k l] w fun e w' => e = .returned (.tuple #[pairV r s, .int .i64 0]) ∧ Below w.heap.size w w')
    (T1 : ∀ w, Calls Try.prog 40 #[numV r] w fun e w' => e = .returned (.int .u32 r') ∧ Below w.heap.size w w')
    (T2 : ∀ w, Calls Try.prog 40 #[numV s] w fun e w' => e = .returned (.int .u32 s') ∧ Below w.heap.size w w') (w : World) :
    Calls Try.prog 24 #[.int .i64 3, .agg #[.int .u32 a, .int .u32 b, .int .u32 c, .int .u32 d]] w fun e w' => e = .returned (.tuple #[.agg #[.int .u32 r', .int .u32 s'], .int .i64 0]) ∧ Below w.heap.size w w' := by
  obtain ⟨x0, x1, x2, x3, y0, y1, y2, y3, hx, hy, hp, -⟩ := pair_open i j
  obtain ⟨p0, p1, p2, p3, q0, q1, q2, q3, hpp, hqq, hq, -⟩ := pair_open k l
  rw [hp] at H1
  rw [hq] at H2
  have D1 : Hid _ := H1
  have D2 : Hid _ := H2
  obtain ⟨u0, u1, u2, u3, v0, v1, v2, v3, hu, hv, hr, -⟩ := pair_open r s
  rw [hp, hq, hr] at O
  have D3 : Hid _ := O
  rw [hu] at T1
  rw [hv] at T2
  have D4 : Hid _ := T1
  have D5 : Hid _ := T2
  clear H1 H2 hx hy hp hpp hqq hq O hu hv hr T1 T2
  have hb0 := below_alloc1 (w.alloc (.cells #[.int .u32 a, .int .u32 b, .int .u32 c, .int .u32 d] 24)) (.cells #[.int .u32 0, .int .u32 0] 43)
  have A0 := (Q4.init w (.int .u32 a) (.int .u32 b) (.int .u32 c) (.int .u32 d) 24).step hb0
  have R0 := Q2.init (w.alloc (.cells #[.int .u32 a, .int .u32 b, .int .u32 c, .int .u32 d] 24)) (.int .u32 0) (.int .u32 0) 43
  have B0 := below2 w (.cells #[.int .u32 a, .int .u32 b, .int .u32 c, .int .u32 d] 24) (.cells #[.int .u32 0, .int .u32 0] 43)
  simp only [World.size_alloc] at R0
  clear hb0
  go_enter Try.func24, Try.ntmps24
  go_wp2_with fail
  generalize (w.alloc (.cells #[.int .u32 a, .int .u32 b, .int .u32 c, .int .u32 d] 24)).alloc (.cells #[.int .u32 0, .int .u32 0] 43) = W0 at *
  refine (D1.out _).mono ?_
  rintro e w1 ⟨rfl, hw1⟩
  have hb1 := below_alloc1 w1 (.cells #[.bool x0, .int .i64 x1, .int .i64 x2, .bool x3, .bool y0, .int .i64 y1, .int .i64 y2, .bool y3] 55)
  have A1 := (A0.step hw1).step hb1
  have R1 := (R0.step hw1).step hb1
  have X1 := V8.init w1 (.bool x0) (.int .i64 x1) (.int .i64 x2) (.bool x3) (.bool y0) (.int .i64 y1) (.int .i64 y2) (.bool y3) 55
  have B1 := B0.trans (hw1.mono B0.size)
  have B1' := B1.trans (hb1.mono B1.size)
  clear A0 R0 B0 hw1 hb1 B1
  have k2 := A1.k2
  have k3 := A1.k3
  go_wp2_with fail
  generalize w1.alloc (.cells #[.bool x0, .int .i64 x1, .int .i64 x2, .bool x3, .bool y0, .int .i64 y1, .int .i64 y2, .bool y3] 55) = W1 at *
  refine (D2.out _).mono ?_
  rintro e w2 ⟨rfl, hw2⟩
  have hb1 := below_alloc1 w2 (.cells #[.bool p0, .int .i64 p1, .int .i64 p2, .bool p3, .bool q0, .int .i64 q1, .int .i64 q2, .bool q3] 55)
  have R2' := R1.step hw2
  have R2 := R2'.step hb1
  have X2 := (X1.step hw2).step hb1
  have Y2 := V8.init w2 (.bool p0) (.int .i64 p1) (.int .i64 p2) (.bool p3) (.bool q0) (.int .i64 q1) (.int .i64 q2) (.bool q3) 55
  have B2 := B1'.trans (hw2.mono B1'.size)
  have hn2 := B2.size
  have Bw2 := B2
  have hn3 : w.heap.size + 1 < w2.heap.size := (R1.step hw2).sz
  have B2' := B2.trans (hb1.mono B2.size)
  clear A1 R1 X1 B1' hw2 hb1 B2 k2 k3
  have hb1 := below_alloc1 (w2.alloc (.cells #[.bool p0, .int .i64 p1, .int .i64 p2, .bool p3, .bool q0, .int .i64 q1, .int .i64 q2, .bool q3] 55)) (.cells #[.bool false, .int .i64 0, .int .i64 0, .bool false, .bool false, .int .i64 0, .int .i64 0, .bool false] 55)
  have X3 := X2.step hb1
  have Y3 := Y2.step hb1
  have P3 := V8.init (w2.alloc (.cells #[.bool p0, .int .i64 p1, .int .i64 p2, .bool p3, .bool q0, .int .i64 q1, .int .i64 q2, .bool q3] 55)) (.bool false) (.int .i64 0) (.int .i64 0) (.bool false) (.bool false) (.int .i64 0) (.int .i64 0) (.bool false) 55
  have R3 := R2.step hb1
  have B3 := B2'.trans (hb1.mono B2'.size)
  simp only [World.size_alloc] at P3
  clear X2 Y2 R2 R2' Bw2 B2' hb1
  obtain ⟨xp0, xp1, xp2, xp3, xq0, xq1, xq2, xq3⟩ := X3.cells
  obtain ⟨yp0, yp1, yp2, yp3, yq0, yq1, yq2, yq3⟩ := Y3.cells
  go_wp2_with fail
  clear xp0 xp1 xp2 xp3 xq0 xq1 xq2 xq3 yp0 yp1 yp2 yp3 yq0 yq1 yq2 yq3 X3 Y3
  generalize (w2.alloc (.cells #[.bool p0, .int .i64 p1, .int .i64 p2, .bool p3, .bool q0, .int .i64 q1, .int .i64 q2, .bool q3] 55)).alloc (.cells #[.bool false, .int .i64 0, .int .i64 0, .bool false, .bool false, .int .i64 0, .int .i64 0, .bool false] 55) = W3 at *
  refine (D3.out _).mono ?_
  rintro e w4 ⟨rfl, hw4⟩
  have P4 := P3.step hw4
  have R4 := R3.step hw4
  have B4 := B3.trans (hw4.mono B3.size)
  clear P3 R3 B3 hw4
  obtain ⟨p0', p1', p2', p3', pf0, pf1, pf2, pf3, psz⟩ := P4.p
  obtain ⟨q0', q1', q2', q3', qf0, qf1, qf2, qf3, psz'⟩ := P4.q
  have P5 := P4.put (.bool u0) (.int .i64 u1) (.int .i64 u2) (.bool u3) (.bool v0) (.int .i64 v1) (.int .i64 v2) (.bool v3)
  have R5 := ((((((((R4.other (b' := w2.heap.size + 1) 0 (.bool u0) (by omega)).other (b' := w2.heap.size + 1) 1 (.int .i64 u1) (by omega)).other (b' := w2.heap.size + 1) 2 (.int .i64 u2) (by omega)).other (b' := w2.heap.size + 1) 3 (.bool u3) (by omega)).other (b' := w2.heap.size + 1) 4 (.bool v0) (by omega)).other (b' := w2.heap.size + 1) 5 (.int .i64 v1) (by omega)).other (b' := w2.heap.size + 1) 6 (.int .i64 v2) (by omega)).other (b' := w2.heap.size + 1) 7 (.bool v3) (by omega))
  have B5 := below_put8 (b := w2.heap.size + 1) B4 (by omega) (.bool u0) (.int .i64 u1) (.int .i64 u2) (.bool u3) (.bool v0) (.int .i64 v1) (.int .i64 v2) (.bool v3)
  go_wp2_with fail
  clear p0' p1' p2' p3' pf0 pf1 pf2 pf3 psz q0' q1' q2' q3' qf0 qf1 qf2 qf3 psz' P4 R4 B4
  dsimp only [put8] at P5 R5 B5
  generalize ((((((((w4).setCell ⟨w2.heap.size + 1, 0, none⟩ (.bool u0)).setCell ⟨w2.heap.size + 1, 1, none⟩ (.int .i64 u1)).setCell ⟨w2.heap.size + 1, 2, none⟩ (.int .i64 u2)).setCell ⟨w2.heap.size + 1, 3, none⟩ (.bool u3)).setCell ⟨w2.heap.size + 1, 4, none⟩ (.bool v0)).setCell ⟨w2.heap.size + 1, 5, none⟩ (.int .i64 v1)).setCell ⟨w2.heap.size + 1, 6, none⟩ (.int .i64 v2)).setCell ⟨w2.heap.size + 1, 7, none⟩ (.bool v3) = W5 at *
  have hdr : Below W5.heap.size W5 W5.drew := (Below.refl _ _).drew
  have X1 := P5.step hdr
  have R6 := R5.step hdr
  have B6 := B5.trans (hdr.mono B5.size)
  clear P5 R5 B5 hdr
  go_region_held3 (fun w' => w'.cell? ⟨w2.heap.size + 1, 0, none⟩ = some (.bool u0) ∧ w'.cell? ⟨w2.heap.size + 1, 1, none⟩ = some (.int .i64 u1) ∧ w'.cell? ⟨w2.heap.size + 1, 2, none⟩ = some (.int .i64 u2) ∧ w'.cell? ⟨w2.heap.size + 1, 3, none⟩ = some (.bool u3) ∧ w'.cell? ⟨w2.heap.size + 1, 4, none⟩ = some (.bool v0) ∧ w'.cell? ⟨w2.heap.size + 1, 5, none⟩ = some (.int .i64 v1) ∧ w'.cell? ⟨w2.heap.size + 1, 6, none⟩ = some (.int .i64 v2) ∧ w'.cell? ⟨w2.heap.size + 1, 7, none⟩ = some (.bool v3))
    (first | with_reducible exact X1.cells | with_reducible exact X2.cells | with_reducible exact X3.cells | with_reducible exact ((X3.other1 (b' := w.heap.size + 1) (by omega) 0 _).other1 (b' := w.heap.size + 1) (by omega) 1 _).cells)
    (first
      | ((go_at_call_of 40 (Value.agg #[Value.bool u0, Value.int IntKind.i64 u1, Value.int IntKind.i64 u2, Value.bool u3]); refine (D4.out _).mono ?_; rintro e w6 ⟨rfl, hw6⟩; have X2 := X1.step hw6; have R7 := R6.step hw6; have B7 := B6.trans (hw6.mono B6.size); clear hw6))
      | ((go_at_call_of 40 (Value.agg #[Value.bool v0, Value.int IntKind.i64 v1, Value.int IntKind.i64 v2, Value.bool v3]); refine (D5.out _).mono ?_; rintro e w7 ⟨rfl, hw7⟩; have X3 := X2.step hw7; have R8 := R7.step hw7; have B8 := B7.trans (hw7.mono B7.size); clear hw7; obtain ⟨r0, r1, f0, f1, sz⟩ := R8)))
  go_wp2_with fail
  refine bodyPost_ret (v := .tuple #[.agg #[.int .u32 r', .int .u32 s'], .int .i64 0]) (by simp [results, Try.results24, go_sem, r0, r1]) rfl ⟨rfl, ?_⟩
  exact below_put2 (b := w.heap.size + 1) B8 (by omega) _ _

set_option maxHeartbeats 2000000 in
theorem Two_4 {a b c d : Nat} {i j k l r s : Int} {r' s' : Nat} {g : Bool} (H1 : ∀ w, Calls Try.prog 34 #[.int .u32 a, .int .u32 b] w fun e w' => e = .returned (.tuple #[pairV i j, .bool true]) ∧ Below w.heap.size w w')
    (H2 : ∀ w, Calls Try.prog 34 #[.int .u32 c, .int .u32 d] w fun e w' => e = .returned (.tuple #[pairV k l, .bool g]) ∧ Below w.heap.size w w')
    (O : ∀ w, Calls Try.prog 39 #[pairV i j] w fun e w' => e = .returned (.tuple #[pairV r s, .int .i64 0]) ∧ Below w.heap.size w w')
    (T1 : ∀ w, Calls Try.prog 40 #[numV r] w fun e w' => e = .returned (.int .u32 r') ∧ Below w.heap.size w w')
    (T2 : ∀ w, Calls Try.prog 40 #[numV s] w fun e w' => e = .returned (.int .u32 s') ∧ Below w.heap.size w w') (w : World) :
    Calls Try.prog 24 #[.int .i64 4, .agg #[.int .u32 a, .int .u32 b, .int .u32 c, .int .u32 d]] w fun e w' => e = .returned (.tuple #[.agg #[.int .u32 r', .int .u32 s'], .int .i64 0]) ∧ Below w.heap.size w w' := by
  obtain ⟨x0, x1, x2, x3, y0, y1, y2, y3, hx, hy, hp, -⟩ := pair_open i j
  obtain ⟨p0, p1, p2, p3, q0, q1, q2, q3, hpp, hqq, hq, -⟩ := pair_open k l
  rw [hp] at H1
  rw [hq] at H2
  have D1 : Hid _ := H1
  have D2 : Hid _ := H2
  obtain ⟨u0, u1, u2, u3, v0, v1, v2, v3, hu, hv, hr, -⟩ := pair_open r s
  rw [hp, hr] at O
  have D3 : Hid _ := O
  rw [hu] at T1
  rw [hv] at T2
  have D4 : Hid _ := T1
  have D5 : Hid _ := T2
  clear H1 H2 hx hy hp hpp hqq hq O hu hv hr T1 T2
  have hb0 := below_alloc1 (w.alloc (.cells #[.int .u32 a, .int .u32 b, .int .u32 c, .int .u32 d] 24)) (.cells #[.int .u32 0, .int .u32 0] 43)
  have A0 := (Q4.init w (.int .u32 a) (.int .u32 b) (.int .u32 c) (.int .u32 d) 24).step hb0
  have R0 := Q2.init (w.alloc (.cells #[.int .u32 a, .int .u32 b, .int .u32 c, .int .u32 d] 24)) (.int .u32 0) (.int .u32 0) 43
  have B0 := below2 w (.cells #[.int .u32 a, .int .u32 b, .int .u32 c, .int .u32 d] 24) (.cells #[.int .u32 0, .int .u32 0] 43)
  simp only [World.size_alloc] at R0
  clear hb0
  go_enter Try.func24, Try.ntmps24
  go_wp2_with fail
  generalize (w.alloc (.cells #[.int .u32 a, .int .u32 b, .int .u32 c, .int .u32 d] 24)).alloc (.cells #[.int .u32 0, .int .u32 0] 43) = W0 at *
  refine (D1.out _).mono ?_
  rintro e w1 ⟨rfl, hw1⟩
  have hb1 := below_alloc1 w1 (.cells #[.bool x0, .int .i64 x1, .int .i64 x2, .bool x3, .bool y0, .int .i64 y1, .int .i64 y2, .bool y3] 55)
  have A1 := (A0.step hw1).step hb1
  have R1 := (R0.step hw1).step hb1
  have X1 := V8.init w1 (.bool x0) (.int .i64 x1) (.int .i64 x2) (.bool x3) (.bool y0) (.int .i64 y1) (.int .i64 y2) (.bool y3) 55
  have B1 := B0.trans (hw1.mono B0.size)
  have B1' := B1.trans (hb1.mono B1.size)
  clear A0 R0 B0 hw1 hb1 B1
  have k2 := A1.k2
  have k3 := A1.k3
  go_wp2_with fail
  generalize w1.alloc (.cells #[.bool x0, .int .i64 x1, .int .i64 x2, .bool x3, .bool y0, .int .i64 y1, .int .i64 y2, .bool y3] 55) = W1 at *
  refine (D2.out _).mono ?_
  rintro e w2 ⟨rfl, hw2⟩
  have hb1 := below_alloc1 w2 (.cells #[.bool p0, .int .i64 p1, .int .i64 p2, .bool p3, .bool q0, .int .i64 q1, .int .i64 q2, .bool q3] 55)
  have R2' := R1.step hw2
  have R2 := R2'.step hb1
  have X2 := (X1.step hw2).step hb1
  have Y2 := V8.init w2 (.bool p0) (.int .i64 p1) (.int .i64 p2) (.bool p3) (.bool q0) (.int .i64 q1) (.int .i64 q2) (.bool q3) 55
  have B2 := B1'.trans (hw2.mono B1'.size)
  have hn2 := B2.size
  have Bw2 := B2
  have hn3 : w.heap.size + 1 < w2.heap.size := (R1.step hw2).sz
  have B2' := B2.trans (hb1.mono B2.size)
  clear A1 R1 X1 B1' hw2 hb1 B2 k2 k3
  cases g
  all_goals
    have hb1 := below_alloc1 (w2.alloc (.cells #[.bool p0, .int .i64 p1, .int .i64 p2, .bool p3, .bool q0, .int .i64 q1, .int .i64 q2, .bool q3] 55)) (.cells #[.bool false, .int .i64 0, .int .i64 0, .bool false, .bool false, .int .i64 0, .int .i64 0, .bool false] 55)
    have X3 := X2.step hb1
    have Y3 := Y2.step hb1
    have P3 := V8.init (w2.alloc (.cells #[.bool p0, .int .i64 p1, .int .i64 p2, .bool p3, .bool q0, .int .i64 q1, .int .i64 q2, .bool q3] 55)) (.bool false) (.int .i64 0) (.int .i64 0) (.bool false) (.bool false) (.int .i64 0) (.int .i64 0) (.bool false) 55
    have R3 := R2.step hb1
    have B3 := B2'.trans (hb1.mono B2'.size)
    simp only [World.size_alloc] at P3
    clear X2 Y2 R2 R2' Bw2 B2' hb1
    obtain ⟨xp0, xp1, xp2, xp3, xq0, xq1, xq2, xq3⟩ := X3.cells
    obtain ⟨yp0, yp1, yp2, yp3, yq0, yq1, yq2, yq3⟩ := Y3.cells
    go_wp2_with fail
    clear xp0 xp1 xp2 xp3 xq0 xq1 xq2 xq3 yp0 yp1 yp2 yp3 yq0 yq1 yq2 yq3 X3 Y3
    generalize (w2.alloc (.cells #[.bool p0, .int .i64 p1, .int .i64 p2, .bool p3, .bool q0, .int .i64 q1, .int .i64 q2, .bool q3] 55)).alloc (.cells #[.bool false, .int .i64 0, .int .i64 0, .bool false, .bool false, .int .i64 0, .int .i64 0, .bool false] 55) = W3 at *
    refine (D3.out _).mono ?_
    rintro e w4 ⟨rfl, hw4⟩
    have P4 := P3.step hw4
    have R4 := R3.step hw4
    have B4 := B3.trans (hw4.mono B3.size)
    clear P3 R3 B3 hw4
    obtain ⟨p0', p1', p2', p3', pf0, pf1, pf2, pf3, psz⟩ := P4.p
    obtain ⟨q0', q1', q2', q3', qf0, qf1, qf2, qf3, psz'⟩ := P4.q
    have P5 := P4.put (.bool u0) (.int .i64 u1) (.int .i64 u2) (.bool u3) (.bool v0) (.int .i64 v1) (.int .i64 v2) (.bool v3)
    have R5 := ((((((((R4.other (b' := w2.heap.size + 1) 0 (.bool u0) (by omega)).other (b' := w2.heap.size + 1) 1 (.int .i64 u1) (by omega)).other (b' := w2.heap.size + 1) 2 (.int .i64 u2) (by omega)).other (b' := w2.heap.size + 1) 3 (.bool u3) (by omega)).other (b' := w2.heap.size + 1) 4 (.bool v0) (by omega)).other (b' := w2.heap.size + 1) 5 (.int .i64 v1) (by omega)).other (b' := w2.heap.size + 1) 6 (.int .i64 v2) (by omega)).other (b' := w2.heap.size + 1) 7 (.bool v3) (by omega))
    have B5 := below_put8 (b := w2.heap.size + 1) B4 (by omega) (.bool u0) (.int .i64 u1) (.int .i64 u2) (.bool u3) (.bool v0) (.int .i64 v1) (.int .i64 v2) (.bool v3)
    go_wp2_with fail
    clear p0' p1' p2' p3' pf0 pf1 pf2 pf3 psz q0' q1' q2' q3' qf0 qf1 qf2 qf3 psz' P4 R4 B4
    dsimp only [put8] at P5 R5 B5
    generalize ((((((((w4).setCell ⟨w2.heap.size + 1, 0, none⟩ (.bool u0)).setCell ⟨w2.heap.size + 1, 1, none⟩ (.int .i64 u1)).setCell ⟨w2.heap.size + 1, 2, none⟩ (.int .i64 u2)).setCell ⟨w2.heap.size + 1, 3, none⟩ (.bool u3)).setCell ⟨w2.heap.size + 1, 4, none⟩ (.bool v0)).setCell ⟨w2.heap.size + 1, 5, none⟩ (.int .i64 v1)).setCell ⟨w2.heap.size + 1, 6, none⟩ (.int .i64 v2)).setCell ⟨w2.heap.size + 1, 7, none⟩ (.bool v3) = W5 at *
    have hdr : Below W5.heap.size W5 W5.drew := (Below.refl _ _).drew
    have X1 := P5.step hdr
    have R6 := R5.step hdr
    have B6 := B5.trans (hdr.mono B5.size)
    clear P5 R5 B5 hdr
    go_region_held3 (fun w' => w'.cell? ⟨w2.heap.size + 1, 0, none⟩ = some (.bool u0) ∧ w'.cell? ⟨w2.heap.size + 1, 1, none⟩ = some (.int .i64 u1) ∧ w'.cell? ⟨w2.heap.size + 1, 2, none⟩ = some (.int .i64 u2) ∧ w'.cell? ⟨w2.heap.size + 1, 3, none⟩ = some (.bool u3) ∧ w'.cell? ⟨w2.heap.size + 1, 4, none⟩ = some (.bool v0) ∧ w'.cell? ⟨w2.heap.size + 1, 5, none⟩ = some (.int .i64 v1) ∧ w'.cell? ⟨w2.heap.size + 1, 6, none⟩ = some (.int .i64 v2) ∧ w'.cell? ⟨w2.heap.size + 1, 7, none⟩ = some (.bool v3))
      (first | with_reducible exact X1.cells | with_reducible exact X2.cells | with_reducible exact X3.cells | with_reducible exact ((X3.other1 (b' := w.heap.size + 1) (by omega) 0 _).other1 (b' := w.heap.size + 1) (by omega) 1 _).cells)
      (first
        | ((go_at_call_of 40 (Value.agg #[Value.bool u0, Value.int IntKind.i64 u1, Value.int IntKind.i64 u2, Value.bool u3]); refine (D4.out _).mono ?_; rintro e w6 ⟨rfl, hw6⟩; have X2 := X1.step hw6; have R7 := R6.step hw6; have B7 := B6.trans (hw6.mono B6.size); clear hw6))
        | ((go_at_call_of 40 (Value.agg #[Value.bool v0, Value.int IntKind.i64 v1, Value.int IntKind.i64 v2, Value.bool v3]); refine (D5.out _).mono ?_; rintro e w7 ⟨rfl, hw7⟩; have X3 := X2.step hw7; have R8 := R7.step hw7; have B8 := B7.trans (hw7.mono B7.size); clear hw7; obtain ⟨r0, r1, f0, f1, sz⟩ := R8)))
    go_wp2_with fail
    refine bodyPost_ret (v := .tuple #[.agg #[.int .u32 r', .int .u32 s'], .int .i64 0]) (by simp [results, Try.results24, go_sem, r0, r1]) rfl ⟨rfl, ?_⟩
    exact below_put2 (b := w.heap.size + 1) B8 (by omega) _ _

set_option maxHeartbeats 2000000 in
theorem Two_3_err {a b c d : Nat} {i j k l r s : Int} {r' s' : Nat} (H1 : ∀ w, Calls Try.prog 34 #[.int .u32 a, .int .u32 b] w fun e w' => e = .returned (.tuple #[pairV i j, .bool true]) ∧ Below w.heap.size w w')
    (H2 : ∀ w, Calls Try.prog 34 #[.int .u32 c, .int .u32 d] w fun e w' => e = .returned (.tuple #[pairV k l, .bool true]) ∧ Below w.heap.size w w')
    (O : ∀ w, Calls Try.prog 38 #[pairV i j, pairV k l] w fun e w' => e = .returned (.tuple #[pairV r s, .int .i64 2]) ∧ Below w.heap.size w w') (w : World) :
    Calls Try.prog 24 #[.int .i64 3, .agg #[.int .u32 a, .int .u32 b, .int .u32 c, .int .u32 d]] w fun e w' => e = .returned (.tuple #[.agg #[.int .u32 0, .int .u32 0], .int .i64 2]) ∧ Below w.heap.size w w' := by
  obtain ⟨x0, x1, x2, x3, y0, y1, y2, y3, hx, hy, hp, -⟩ := pair_open i j
  obtain ⟨p0, p1, p2, p3, q0, q1, q2, q3, hpp, hqq, hq, -⟩ := pair_open k l
  rw [hp] at H1
  rw [hq] at H2
  have D1 : Hid _ := H1
  have D2 : Hid _ := H2
  obtain ⟨u0, u1, u2, u3, v0, v1, v2, v3, hu, hv, hr, -⟩ := pair_open r s
  rw [hp, hq, hr] at O
  have D3 : Hid _ := O
  clear H1 H2 hx hy hp hpp hqq hq O hu hv hr
  have hb0 := below_alloc1 (w.alloc (.cells #[.int .u32 a, .int .u32 b, .int .u32 c, .int .u32 d] 24)) (.cells #[.int .u32 0, .int .u32 0] 43)
  have A0 := (Q4.init w (.int .u32 a) (.int .u32 b) (.int .u32 c) (.int .u32 d) 24).step hb0
  have R0 := Q2.init (w.alloc (.cells #[.int .u32 a, .int .u32 b, .int .u32 c, .int .u32 d] 24)) (.int .u32 0) (.int .u32 0) 43
  have B0 := below2 w (.cells #[.int .u32 a, .int .u32 b, .int .u32 c, .int .u32 d] 24) (.cells #[.int .u32 0, .int .u32 0] 43)
  simp only [World.size_alloc] at R0
  clear hb0
  go_enter Try.func24, Try.ntmps24
  go_wp2_with fail
  generalize (w.alloc (.cells #[.int .u32 a, .int .u32 b, .int .u32 c, .int .u32 d] 24)).alloc (.cells #[.int .u32 0, .int .u32 0] 43) = W0 at *
  refine (D1.out _).mono ?_
  rintro e w1 ⟨rfl, hw1⟩
  have hb1 := below_alloc1 w1 (.cells #[.bool x0, .int .i64 x1, .int .i64 x2, .bool x3, .bool y0, .int .i64 y1, .int .i64 y2, .bool y3] 55)
  have A1 := (A0.step hw1).step hb1
  have R1 := (R0.step hw1).step hb1
  have X1 := V8.init w1 (.bool x0) (.int .i64 x1) (.int .i64 x2) (.bool x3) (.bool y0) (.int .i64 y1) (.int .i64 y2) (.bool y3) 55
  have B1 := B0.trans (hw1.mono B0.size)
  have B1' := B1.trans (hb1.mono B1.size)
  clear A0 R0 B0 hw1 hb1 B1
  have k2 := A1.k2
  have k3 := A1.k3
  go_wp2_with fail
  generalize w1.alloc (.cells #[.bool x0, .int .i64 x1, .int .i64 x2, .bool x3, .bool y0, .int .i64 y1, .int .i64 y2, .bool y3] 55) = W1 at *
  refine (D2.out _).mono ?_
  rintro e w2 ⟨rfl, hw2⟩
  have hb1 := below_alloc1 w2 (.cells #[.bool p0, .int .i64 p1, .int .i64 p2, .bool p3, .bool q0, .int .i64 q1, .int .i64 q2, .bool q3] 55)
  have R2' := R1.step hw2
  have R2 := R2'.step hb1
  have X2 := (X1.step hw2).step hb1
  have Y2 := V8.init w2 (.bool p0) (.int .i64 p1) (.int .i64 p2) (.bool p3) (.bool q0) (.int .i64 q1) (.int .i64 q2) (.bool q3) 55
  have B2 := B1'.trans (hw2.mono B1'.size)
  have hn2 := B2.size
  have Bw2 := B2
  have hn3 : w.heap.size + 1 < w2.heap.size := (R1.step hw2).sz
  have B2' := B2.trans (hb1.mono B2.size)
  clear A1 R1 X1 B1' hw2 hb1 B2 k2 k3
  have hb1 := below_alloc1 (w2.alloc (.cells #[.bool p0, .int .i64 p1, .int .i64 p2, .bool p3, .bool q0, .int .i64 q1, .int .i64 q2, .bool q3] 55)) (.cells #[.bool false, .int .i64 0, .int .i64 0, .bool false, .bool false, .int .i64 0, .int .i64 0, .bool false] 55)
  have X3 := X2.step hb1
  have Y3 := Y2.step hb1
  have P3 := V8.init (w2.alloc (.cells #[.bool p0, .int .i64 p1, .int .i64 p2, .bool p3, .bool q0, .int .i64 q1, .int .i64 q2, .bool q3] 55)) (.bool false) (.int .i64 0) (.int .i64 0) (.bool false) (.bool false) (.int .i64 0) (.int .i64 0) (.bool false) 55
  have R3 := R2.step hb1
  have B3 := B2'.trans (hb1.mono B2'.size)
  simp only [World.size_alloc] at P3
  clear X2 Y2 R2 R2' Bw2 B2' hb1
  obtain ⟨xp0, xp1, xp2, xp3, xq0, xq1, xq2, xq3⟩ := X3.cells
  obtain ⟨yp0, yp1, yp2, yp3, yq0, yq1, yq2, yq3⟩ := Y3.cells
  go_wp2_with fail
  clear xp0 xp1 xp2 xp3 xq0 xq1 xq2 xq3 yp0 yp1 yp2 yp3 yq0 yq1 yq2 yq3 X3 Y3
  generalize (w2.alloc (.cells #[.bool p0, .int .i64 p1, .int .i64 p2, .bool p3, .bool q0, .int .i64 q1, .int .i64 q2, .bool q3] 55)).alloc (.cells #[.bool false, .int .i64 0, .int .i64 0, .bool false, .bool false, .int .i64 0, .int .i64 0, .bool false] 55) = W3 at *
  refine (D3.out _).mono ?_
  rintro e w4 ⟨rfl, hw4⟩
  have P4 := P3.step hw4
  have R4 := R3.step hw4
  have B4 := B3.trans (hw4.mono B3.size)
  clear P3 R3 B3 hw4
  obtain ⟨p0', p1', p2', p3', pf0, pf1, pf2, pf3, psz⟩ := P4.p
  obtain ⟨q0', q1', q2', q3', qf0, qf1, qf2, qf3, psz'⟩ := P4.q
  have R5 := ((((((((R4.other (b' := w2.heap.size + 1) 0 (.bool u0) (by omega)).other (b' := w2.heap.size + 1) 1 (.int .i64 u1) (by omega)).other (b' := w2.heap.size + 1) 2 (.int .i64 u2) (by omega)).other (b' := w2.heap.size + 1) 3 (.bool u3) (by omega)).other (b' := w2.heap.size + 1) 4 (.bool v0) (by omega)).other (b' := w2.heap.size + 1) 5 (.int .i64 v1) (by omega)).other (b' := w2.heap.size + 1) 6 (.int .i64 v2) (by omega)).other (b' := w2.heap.size + 1) 7 (.bool v3) (by omega))
  have B5 := below_put8 (b := w2.heap.size + 1) B4 (by omega) (.bool u0) (.int .i64 u1) (.int .i64 u2) (.bool u3) (.bool v0) (.int .i64 v1) (.int .i64 v2) (.bool v3)
  have r0 := R5.k0
  have r1 := R5.k1
  have f0 := R5.f0
  have f1 := R5.f1
  go_wp2_with fail
  refine bodyPost_ret (v := .tuple #[.agg #[.int .u32 0, .int .u32 0], .int .i64 2]) (by simp [results, Try.results24, go_sem, r0, r1]) rfl ⟨rfl, ?_⟩
  exact below_put2 (b := w.heap.size + 1) B5 (by omega) _ _

set_option maxHeartbeats 2000000 in
theorem Two_4_err {a b c d : Nat} {i j k l r s : Int} {r' s' : Nat} {g : Bool} (H1 : ∀ w, Calls Try.prog 34 #[.int .u32 a, .int .u32 b] w fun e w' => e = .returned (.tuple #[pairV i j, .bool true]) ∧ Below w.heap.size w w')
    (H2 : ∀ w, Calls Try.prog 34 #[.int .u32 c, .int .u32 d] w fun e w' => e = .returned (.tuple #[pairV k l, .bool g]) ∧ Below w.heap.size w w')
    (O : ∀ w, Calls Try.prog 39 #[pairV i j] w fun e w' => e = .returned (.tuple #[pairV r s, .int .i64 3]) ∧ Below w.heap.size w w') (w : World) :
    Calls Try.prog 24 #[.int .i64 4, .agg #[.int .u32 a, .int .u32 b, .int .u32 c, .int .u32 d]] w fun e w' => e = .returned (.tuple #[.agg #[.int .u32 0, .int .u32 0], .int .i64 3]) ∧ Below w.heap.size w w' := by
  obtain ⟨x0, x1, x2, x3, y0, y1, y2, y3, hx, hy, hp, -⟩ := pair_open i j
  obtain ⟨p0, p1, p2, p3, q0, q1, q2, q3, hpp, hqq, hq, -⟩ := pair_open k l
  rw [hp] at H1
  rw [hq] at H2
  have D1 : Hid _ := H1
  have D2 : Hid _ := H2
  obtain ⟨u0, u1, u2, u3, v0, v1, v2, v3, hu, hv, hr, -⟩ := pair_open r s
  rw [hp, hr] at O
  have D3 : Hid _ := O
  clear H1 H2 hx hy hp hpp hqq hq O hu hv hr
  have hb0 := below_alloc1 (w.alloc (.cells #[.int .u32 a, .int .u32 b, .int .u32 c, .int .u32 d] 24)) (.cells #[.int .u32 0, .int .u32 0] 43)
  have A0 := (Q4.init w (.int .u32 a) (.int .u32 b) (.int .u32 c) (.int .u32 d) 24).step hb0
  have R0 := Q2.init (w.alloc (.cells #[.int .u32 a, .int .u32 b, .int .u32 c, .int .u32 d] 24)) (.int .u32 0) (.int .u32 0) 43
  have B0 := below2 w (.cells #[.int .u32 a, .int .u32 b, .int .u32 c, .int .u32 d] 24) (.cells #[.int .u32 0, .int .u32 0] 43)
  simp only [World.size_alloc] at R0
  clear hb0
  go_enter Try.func24, Try.ntmps24
  go_wp2_with fail
  generalize (w.alloc (.cells #[.int .u32 a, .int .u32 b, .int .u32 c, .int .u32 d] 24)).alloc (.cells #[.int .u32 0, .int .u32 0] 43) = W0 at *
  refine (D1.out _).mono ?_
  rintro e w1 ⟨rfl, hw1⟩
  have hb1 := below_alloc1 w1 (.cells #[.bool x0, .int .i64 x1, .int .i64 x2, .bool x3, .bool y0, .int .i64 y1, .int .i64 y2, .bool y3] 55)
  have A1 := (A0.step hw1).step hb1
  have R1 := (R0.step hw1).step hb1
  have X1 := V8.init w1 (.bool x0) (.int .i64 x1) (.int .i64 x2) (.bool x3) (.bool y0) (.int .i64 y1) (.int .i64 y2) (.bool y3) 55
  have B1 := B0.trans (hw1.mono B0.size)
  have B1' := B1.trans (hb1.mono B1.size)
  clear A0 R0 B0 hw1 hb1 B1
  have k2 := A1.k2
  have k3 := A1.k3
  go_wp2_with fail
  generalize w1.alloc (.cells #[.bool x0, .int .i64 x1, .int .i64 x2, .bool x3, .bool y0, .int .i64 y1, .int .i64 y2, .bool y3] 55) = W1 at *
  refine (D2.out _).mono ?_
  rintro e w2 ⟨rfl, hw2⟩
  have hb1 := below_alloc1 w2 (.cells #[.bool p0, .int .i64 p1, .int .i64 p2, .bool p3, .bool q0, .int .i64 q1, .int .i64 q2, .bool q3] 55)
  have R2' := R1.step hw2
  have R2 := R2'.step hb1
  have X2 := (X1.step hw2).step hb1
  have Y2 := V8.init w2 (.bool p0) (.int .i64 p1) (.int .i64 p2) (.bool p3) (.bool q0) (.int .i64 q1) (.int .i64 q2) (.bool q3) 55
  have B2 := B1'.trans (hw2.mono B1'.size)
  have hn2 := B2.size
  have Bw2 := B2
  have hn3 : w.heap.size + 1 < w2.heap.size := (R1.step hw2).sz
  have B2' := B2.trans (hb1.mono B2.size)
  clear A1 R1 X1 B1' hw2 hb1 B2 k2 k3
  cases g
  all_goals
    have hb1 := below_alloc1 (w2.alloc (.cells #[.bool p0, .int .i64 p1, .int .i64 p2, .bool p3, .bool q0, .int .i64 q1, .int .i64 q2, .bool q3] 55)) (.cells #[.bool false, .int .i64 0, .int .i64 0, .bool false, .bool false, .int .i64 0, .int .i64 0, .bool false] 55)
    have X3 := X2.step hb1
    have Y3 := Y2.step hb1
    have P3 := V8.init (w2.alloc (.cells #[.bool p0, .int .i64 p1, .int .i64 p2, .bool p3, .bool q0, .int .i64 q1, .int .i64 q2, .bool q3] 55)) (.bool false) (.int .i64 0) (.int .i64 0) (.bool false) (.bool false) (.int .i64 0) (.int .i64 0) (.bool false) 55
    have R3 := R2.step hb1
    have B3 := B2'.trans (hb1.mono B2'.size)
    simp only [World.size_alloc] at P3
    clear X2 Y2 R2 R2' Bw2 B2' hb1
    obtain ⟨xp0, xp1, xp2, xp3, xq0, xq1, xq2, xq3⟩ := X3.cells
    obtain ⟨yp0, yp1, yp2, yp3, yq0, yq1, yq2, yq3⟩ := Y3.cells
    go_wp2_with fail
    clear xp0 xp1 xp2 xp3 xq0 xq1 xq2 xq3 yp0 yp1 yp2 yp3 yq0 yq1 yq2 yq3 X3 Y3
    generalize (w2.alloc (.cells #[.bool p0, .int .i64 p1, .int .i64 p2, .bool p3, .bool q0, .int .i64 q1, .int .i64 q2, .bool q3] 55)).alloc (.cells #[.bool false, .int .i64 0, .int .i64 0, .bool false, .bool false, .int .i64 0, .int .i64 0, .bool false] 55) = W3 at *
    refine (D3.out _).mono ?_
    rintro e w4 ⟨rfl, hw4⟩
    have P4 := P3.step hw4
    have R4 := R3.step hw4
    have B4 := B3.trans (hw4.mono B3.size)
    clear P3 R3 B3 hw4
    obtain ⟨p0', p1', p2', p3', pf0, pf1, pf2, pf3, psz⟩ := P4.p
    obtain ⟨q0', q1', q2', q3', qf0, qf1, qf2, qf3, psz'⟩ := P4.q
    have R5 := ((((((((R4.other (b' := w2.heap.size + 1) 0 (.bool u0) (by omega)).other (b' := w2.heap.size + 1) 1 (.int .i64 u1) (by omega)).other (b' := w2.heap.size + 1) 2 (.int .i64 u2) (by omega)).other (b' := w2.heap.size + 1) 3 (.bool u3) (by omega)).other (b' := w2.heap.size + 1) 4 (.bool v0) (by omega)).other (b' := w2.heap.size + 1) 5 (.int .i64 v1) (by omega)).other (b' := w2.heap.size + 1) 6 (.int .i64 v2) (by omega)).other (b' := w2.heap.size + 1) 7 (.bool v3) (by omega))
    have B5 := below_put8 (b := w2.heap.size + 1) B4 (by omega) (.bool u0) (.int .i64 u1) (.int .i64 u2) (.bool u3) (.bool v0) (.int .i64 v1) (.int .i64 v2) (.bool v3)
    have r0 := R5.k0
    have r1 := R5.k1
    have f0 := R5.f0
    have f1 := R5.f1
    go_wp2_with fail
    refine bodyPost_ret (v := .tuple #[.agg #[.int .u32 0, .int .u32 0], .int .i64 3]) (by simp [results, Try.results24, go_sem, r0, r1]) rfl ⟨rfl, ?_⟩
    exact below_put2 (b := w.heap.size + 1) B5 (by omega) _ _

end Go.Proofs.Ytakpfdhopodleaa
