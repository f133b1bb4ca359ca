import Derived.Test.YtakpfdhopodleaaKeepD
import Derived.Test.YtakpfdhopodleaaSpecH
namespace Go.Proofs.Ytakpfdhopodleaa
open Go.ChangeShapes Go.WideShapes Go.ChangeAt Go.RowKit Hedge
set_option linter.unusedSimpArgs false
set_option linter.unusedVariables false

theorem addU_range (i j : Int) : -I ≤ addU i j ∧ addU i j ≤ I := by have := addD_range (-i) (-j); unfold addU; omega
theorem mulD_range (i j : Int) : -I ≤ mulD i j ∧ mulD i j ≤ I := by
  have hI := I_pos
  unfold mulD
  split
  · omega
  · split
    · split <;> omega
    · have := dnQ_spec (v32 i * v32 j) W; omega
theorem mulU_range (i j : Int) : -I ≤ mulU i j ∧ mulU i j ≤ I := by have := mulD_range (-i) j; unfold mulU; omega

/-- The frame of Undone: two intervals in blocks of their own. -/
structure C2 (w W : World) (bx yb : Nat) (x y : Value) : Prop where
  x0 : W.cell? ⟨bx, 0, none⟩ = some x
  x1 : W.cell? ⟨bx, 1, none⟩ = some x
  y0 : W.cell? ⟨yb, 0, none⟩ = some y
  y1 : W.cell? ⟨yb, 1, none⟩ = some y
  s1 : bx < W.heap.size
  s2 : yb < W.heap.size
  bl : Below w.heap.size w W
theorem C2.step {w W W' : World} {bx yb : Nat} {x y : Value} (h : C2 w W bx yb x y) (hb : Below W.heap.size W W') : C2 w W' bx yb x y := by
  have hz := hb.size
  have hs := h.bl.size
  obtain ⟨x0, x1, y0, y1, s1, s2, bl⟩ := h
  refine ⟨?_, ?_, ?_, ?_, by omega, by omega, bl.trans (hb.mono hs)⟩
  · rw [hb.cell (by exact s1)]; exact x0
  · rw [hb.cell (by exact s1)]; exact x1
  · rw [hb.cell (by exact s2)]; exact y0
  · rw [hb.cell (by exact s2)]; exact y1
theorem C2.init (w w1 w2 : World) (x y : Value) (T1 T2 : TypeId) (h1 : Below w.heap.size w w1) (h2 : Below (w1.alloc (.cells #[x, x] T1)).heap.size (w1.alloc (.cells #[x, x] T1)) w2) :
    C2 w (w2.alloc (.cells #[y, y] T2)) w1.heap.size w2.heap.size x y := by
  have z1 := h1.size
  have z2 := h2.size
  simp at z2
  have hb := below_alloc1 w2 (.cells #[y, y] T2)
  refine ⟨?_, ?_, by simp [go_sem], by simp [go_sem], by simp; omega, by simp, ?_⟩
  · rw [hb.cell (by show w1.heap.size < _; omega), h2.cell (by simp)]; simp [go_sem]
  · rw [hb.cell (by show w1.heap.size < _; omega), h2.cell (by simp)]; simp [go_sem]
  · exact ((h1.alloc z1 _).trans (h2.mono (by simp; omega))).trans (hb.mono (by omega))

theorem u_sub {s0 s1 : Int} {b : Nat} (hs : Nb s0 s1) (vb : Iv b b) (w : World) :
    Calls Try.prog 13 #[.agg #[.float .f32 (w32 s0), .float .f32 (w32 s1)], .agg #[.float .f32 b, .float .f32 b]] w fun e w' =>
      e = .returned (.tuple #[.agg #[.float .f32 (w32 (addD s0 (-i32 b))), .float .f32 (w32 (addU s1 (-i32 b)))], .int .i64 0]) ∧ Below w.heap.size w w' := by
  have h := hsub_ok (nb_iv hs) vb w
  obtain ⟨a1, a2, a3, a4, a5⟩ := hs
  rw [i32_w32 a1 (by omega), i32_w32 (by omega) a2] at h; exact h
theorem u_mul {s0 s1 : Int} {b : Nat} (hs : Nb s0 s1) (vb : Iv b b) (w : World) :
    Calls Try.prog 14 #[.agg #[.float .f32 (w32 s0), .float .f32 (w32 s1)], .agg #[.float .f32 b, .float .f32 b]] w fun e w' =>
      e = .returned (.tuple #[.agg #[.float .f32 (w32 (min4 (mulD s0 (i32 b)) (mulD s0 (i32 b)) (mulD s1 (i32 b)) (mulD s1 (i32 b)))), .float .f32 (w32 (max4 (mulU s0 (i32 b)) (mulU s0 (i32 b)) (mulU s1 (i32 b)) (mulU s1 (i32 b))))], .int .i64 0]) ∧ Below w.heap.size w w' := by
  have h := hmul_ok (nb_iv hs) vb w
  obtain ⟨a1, a2, a3, a4, a5⟩ := hs
  rw [i32_w32 a1 (by omega), i32_w32 (by omega) a2] at h; exact h
theorem u_sq {s0 s1 : Int} (hs : Nb s0 s1) (w : World) :
    Calls Try.prog 14 #[.agg #[.float .f32 (w32 s0), .float .f32 (w32 s1)], .agg #[.float .f32 (w32 s0), .float .f32 (w32 s1)]] w fun e w' =>
      e = .returned (.tuple #[.agg #[.float .f32 (w32 (min4 (mulD s0 s0) (mulD s0 s1) (mulD s1 s0) (mulD s1 s1))), .float .f32 (w32 (max4 (mulU s0 s0) (mulU s0 s1) (mulU s1 s0) (mulU s1 s1)))], .int .i64 0]) ∧ Below w.heap.size w w' := by
  have h := hmul_ok (nb_iv hs) (nb_iv hs) w
  obtain ⟨a1, a2, a3, a4, a5⟩ := hs
  rw [i32_w32 a1 (by omega), i32_w32 (by omega) a2] at h; exact h
theorem u_in {a : Nat} {d0 d1 : Int} (va : Num32 a) (r1 : -I ≤ d0) (r2 : d0 ≤ I) (r3 : -I ≤ d1) (r4 : d1 ≤ I) (h1 : d0 ≤ i32 a) (h2 : i32 a ≤ d1) (w : World) :
    Calls Try.prog 20 #[.agg #[.float .f32 a, .float .f32 a], .agg #[.float .f32 (w32 d0), .float .f32 (w32 d1)]] w fun e w' => e = .returned (.bool true) ∧ Below w.heap.size w w' :=
  kin_calls va va (num_w32 r1 r2) (num_w32 r3 r4) (by rw [i32_w32 r1 r2]; exact h1) (by rw [i32_w32 r3 r4]; exact h2) w

theorem ne0_yes {x : Nat} (h : Num32 x) (h0 : i32 x ≠ 0) : (F32.order x 0 != some .eq) = true := by
  have := ne0_order h h0
  simp only [bne, this]; rfl

set_option maxHeartbeats 1000000 in
set_option maxRecDepth 100000 in
theorem und_zn (a b : Nat) (ha : a < 4294967296) (hb : b < 4294967296) (h0 : i32 (pt b) = 0) (hx : i32 (pt a) < 0) (w : World) :
    Calls Try.prog 6 #[.int .u32 a, .int .u32 b] w fun e w' => e = .returned (.bool true) ∧ Below w.heap.size w w' := by
  obtain ⟨na, a1, a2⟩ := pt_num ha
  obtain ⟨nb, b1, b2⟩ := pt_num hb
  have va := pt_iv ha
  have vb := pt_iv hb
  have hs := nb_add a1 a2 b1 b2
  have l1 := und_add_lo a1 a2 b1 b2
  have l2 := und_add_hi a1 a2 b1 b2
  obtain ⟨s0, es0⟩ : ∃ s0, s0 = addD (i32 (pt a)) (i32 (pt b)) := ⟨_, rfl⟩
  obtain ⟨s1, es1⟩ : ∃ s1, s1 = addU (i32 (pt a)) (i32 (pt b)) := ⟨_, rfl⟩
  rw [← es0] at hs l1
  rw [← es1] at hs l2
  have k1 := hadd_ok va vb
  rw [← es0, ← es1] at k1
  have K1 : Hid _ := k1
  clear k1 es0 es1
  have rd := addD_range s0 (-i32 (pt b))
  have ru := addU_range s1 (-i32 (pt b))
  obtain ⟨d0, ed0⟩ : ∃ d0, d0 = addD s0 (-i32 (pt b)) := ⟨_, rfl⟩
  obtain ⟨d1, ed1⟩ : ∃ d1, d1 = addU s1 (-i32 (pt b)) := ⟨_, rfl⟩
  have k2 := u_sub hs vb
  rw [← ed0, ← ed1] at k2
  rw [← ed0] at rd l1
  rw [← ed1] at ru l2
  have K2 : Hid _ := k2
  clear k2 ed0 ed1
  have o1 := o32_eq nb n_zero (by rw [i_zero]; exact h0)
  clear h0
  have o2 := o32_lt na n_zero (by rw [i_zero]; exact hx)
  go_enter Try.func6, Try.ntmps6
  go_wp2_with fail
  refine (point_calls a ha _).mono ?_
  rintro e w1 ⟨rfl, hw1⟩
  go_wp2_with fail
  refine (point_calls b hb _).mono ?_
  rintro e w2 ⟨rfl, hw2⟩
  have F := C2.init w w1 w2 (.float .f32 (pt a)) (.float .f32 (pt b)) 28 28 hw1 hw2
  clear hw1 hw2
  obtain ⟨W, hW⟩ : ∃ W, W = w2.alloc (.cells #[(.float .f32 (pt b)), (.float .f32 (pt b))] 28) := ⟨_, rfl⟩
  obtain ⟨bx, hbx⟩ : ∃ bx, bx = w1.heap.size := ⟨_, rfl⟩
  obtain ⟨yb, hyb⟩ : ∃ yb, yb = w2.heap.size := ⟨_, rfl⟩
  have x0 := F.x0
  have x1 := F.x1
  have y0 := F.y0
  have y1 := F.y1
  have z1 := F.s1
  have z2 := F.s2
  go_wp2_with fail
  rw [← hW, ← hbx, ← hyb]
  clear x0 x1 y0 y1 z1 z2
  rw [← hW, ← hbx, ← hyb] at F
  clear hW hbx hyb
  refine (K1.out _).mono ?_
  rintro e w3 ⟨rfl, hw⟩
  have F' : C2 w w3 bx yb (.float .f32 (pt a)) (.float .f32 (pt b)) := F.step hw
  clear hw F
  have F : C2 w (w3.alloc (.cells #[.float .f32 (w32 s0), .float .f32 (w32 s1)] 28)) bx yb (.float .f32 (pt a)) (.float .f32 (pt b)) := F'.step (below_alloc1 _ _)
  clear F'
  have x0 := F.x0
  have x1 := F.x1
  have y0 := F.y0
  have y1 := F.y1
  have z1 := F.s1
  have z2 := F.s2
  go_wp2_with fail
  refine (K2.out _).mono ?_
  rintro e w4 ⟨rfl, hw⟩
  have F' : C2 w w4 bx yb (.float .f32 (pt a)) (.float .f32 (pt b)) := F.step hw
  clear x0 x1 y0 y1 z1 z2
  clear hw F
  have F : C2 w (w4.alloc (.cells #[.float .f32 (w32 d0), .float .f32 (w32 d1)] 28)) bx yb (.float .f32 (pt a)) (.float .f32 (pt b)) := F'.step (below_alloc1 _ _)
  clear F'
  have x0 := F.x0
  have x1 := F.x1
  have y0 := F.y0
  have y1 := F.y1
  have z1 := F.s1
  have z2 := F.s2
  go_wp2_with fail
  refine (u_in na rd.1 rd.2 ru.1 ru.2 l1 l2 _).mono ?_
  rintro e w5 ⟨rfl, hw⟩
  have F' : C2 w w5 bx yb (.float .f32 (pt a)) (.float .f32 (pt b)) := F.step hw
  clear x0 x1 y0 y1 z1 z2
  clear hw F
  have F := F'
  clear F'
  have x0 := F.x0
  have x1 := F.x1
  have y0 := F.y0
  have y1 := F.y1
  have z1 := F.s1
  have z2 := F.s2
  go_wp2_with fail
  refine (known_calls _).mono ?_
  rintro e w6 ⟨rfl, hw⟩
  have F' : C2 w w6 bx yb (.float .f32 (pt a)) (.float .f32 (pt b)) := F.step hw
  clear x0 x1 y0 y1 z1 z2
  clear hw F
  have F := F'
  clear F'
  have x0 := F.x0
  have x1 := F.x1
  have y0 := F.y0
  have y1 := F.y1
  have z1 := F.s1
  have z2 := F.s2
  go_wp2_with fail
  go_ret
  exact ⟨rfl, F.bl⟩

set_option maxHeartbeats 1000000 in
set_option maxRecDepth 100000 in
theorem und_zp (a b : Nat) (ha : a < 4294967296) (hb : b < 4294967296) (h0 : i32 (pt b) = 0) (hx : 0 ≤ i32 (pt a)) (w : World) :
    Calls Try.prog 6 #[.int .u32 a, .int .u32 b] w fun e w' => e = .returned (.bool true) ∧ Below w.heap.size w w' := by
  obtain ⟨na, a1, a2⟩ := pt_num ha
  obtain ⟨nb, b1, b2⟩ := pt_num hb
  have va := pt_iv ha
  have vb := pt_iv hb
  have hs := nb_add a1 a2 b1 b2
  have l1 := und_add_lo a1 a2 b1 b2
  have l2 := und_add_hi a1 a2 b1 b2
  obtain ⟨s0, es0⟩ : ∃ s0, s0 = addD (i32 (pt a)) (i32 (pt b)) := ⟨_, rfl⟩
  obtain ⟨s1, es1⟩ : ∃ s1, s1 = addU (i32 (pt a)) (i32 (pt b)) := ⟨_, rfl⟩
  rw [← es0] at hs l1
  rw [← es1] at hs l2
  have k1 := hadd_ok va vb
  rw [← es0, ← es1] at k1
  have K1 : Hid _ := k1
  clear k1 es0 es1
  have rd := addD_range s0 (-i32 (pt b))
  have ru := addU_range s1 (-i32 (pt b))
  obtain ⟨d0, ed0⟩ : ∃ d0, d0 = addD s0 (-i32 (pt b)) := ⟨_, rfl⟩
  obtain ⟨d1, ed1⟩ : ∃ d1, d1 = addU s1 (-i32 (pt b)) := ⟨_, rfl⟩
  have k2 := u_sub hs vb
  rw [← ed0, ← ed1] at k2
  rw [← ed0] at rd l1
  rw [← ed1] at ru l2
  have K2 : Hid _ := k2
  clear k2 ed0 ed1
  have o1 := o32_eq nb n_zero (by rw [i_zero]; exact h0)
  clear h0
  have o2 := ltB_no na hx
  have hr := (nb_sqrt hx a2).1
  have t1 := und_sqrt_lo hx a2
  have t2 := und_sqrt_hi hx a2
  obtain ⟨r0, er0⟩ : ∃ r0, r0 = sqD (i32 (pt a)) := ⟨_, rfl⟩
  obtain ⟨r1, er1⟩ : ∃ r1, r1 = sqU (i32 (pt a)) := ⟨_, rfl⟩
  rw [← er0, ← er1] at hr
  rw [← er0] at t1
  rw [← er1] at t2
  have k5 := hsqrt_pt va hx
  rw [← er0, ← er1] at k5
  have K5 : Hid _ := k5
  clear k5 er0 er1
  have k6 := u_sq hr
  have g0 := mulD_range r0 r0
  have g1 := mulD_range r0 r1
  have g2 := mulD_range r1 r0
  have g3 := mulD_range r1 r1
  have g4 := mulU_range r0 r0
  have g5 := mulU_range r0 r1
  have g6 := mulU_range r1 r0
  have g7 := mulU_range r1 r1
  obtain ⟨u0, eu0⟩ : ∃ u0, u0 = min4 (mulD r0 r0) (mulD r0 r1) (mulD r1 r0) (mulD r1 r1) := ⟨_, rfl⟩
  obtain ⟨u1, eu1⟩ : ∃ u1, u1 = max4 (mulU r0 r0) (mulU r0 r1) (mulU r1 r0) (mulU r1 r1) := ⟨_, rfl⟩
  rw [← eu0, ← eu1] at k6
  have K6 : Hid _ := k6
  have rv : -I ≤ u0 ∧ u0 ≤ I ∧ -I ≤ u1 ∧ u1 ≤ I ∧ u0 ≤ i32 (pt a) ∧ i32 (pt a) ≤ u1 := by
    unfold min4 at eu0; unfold max4 at eu1; omega
  clear k6 eu0 eu1 g0 g1 g2 g3 g4 g5 g6 g7 t1 t2
  go_enter Try.func6, Try.ntmps6
  go_wp2_with fail
  refine (point_calls a ha _).mono ?_
  rintro e w1 ⟨rfl, hw1⟩
  go_wp2_with fail
  refine (point_calls b hb _).mono ?_
  rintro e w2 ⟨rfl, hw2⟩
  have F := C2.init w w1 w2 (.float .f32 (pt a)) (.float .f32 (pt b)) 28 28 hw1 hw2
  clear hw1 hw2
  obtain ⟨W, hW⟩ : ∃ W, W = w2.alloc (.cells #[(.float .f32 (pt b)), (.float .f32 (pt b))] 28) := ⟨_, rfl⟩
  obtain ⟨bx, hbx⟩ : ∃ bx, bx = w1.heap.size := ⟨_, rfl⟩
  obtain ⟨yb, hyb⟩ : ∃ yb, yb = w2.heap.size := ⟨_, rfl⟩
  have x0 := F.x0
  have x1 := F.x1
  have y0 := F.y0
  have y1 := F.y1
  have z1 := F.s1
  have z2 := F.s2
  go_wp2_with fail
  rw [← hW, ← hbx, ← hyb]
  clear x0 x1 y0 y1 z1 z2
  rw [← hW, ← hbx, ← hyb] at F
  clear hW hbx hyb
  refine (K1.out _).mono ?_
  rintro e w3 ⟨rfl, hw⟩
  have F' : C2 w w3 bx yb (.float .f32 (pt a)) (.float .f32 (pt b)) := F.step hw
  clear hw F
  have F : C2 w (w3.alloc (.cells #[.float .f32 (w32 s0), .float .f32 (w32 s1)] 28)) bx yb (.float .f32 (pt a)) (.float .f32 (pt b)) := F'.step (below_alloc1 _ _)
  clear F'
  have x0 := F.x0
  have x1 := F.x1
  have y0 := F.y0
  have y1 := F.y1
  have z1 := F.s1
  have z2 := F.s2
  go_wp2_with fail
  refine (K2.out _).mono ?_
  rintro e w4 ⟨rfl, hw⟩
  have F' : C2 w w4 bx yb (.float .f32 (pt a)) (.float .f32 (pt b)) := F.step hw
  clear x0 x1 y0 y1 z1 z2
  clear hw F
  have F : C2 w (w4.alloc (.cells #[.float .f32 (w32 d0), .float .f32 (w32 d1)] 28)) bx yb (.float .f32 (pt a)) (.float .f32 (pt b)) := F'.step (below_alloc1 _ _)
  clear F'
  have x0 := F.x0
  have x1 := F.x1
  have y0 := F.y0
  have y1 := F.y1
  have z1 := F.s1
  have z2 := F.s2
  go_wp2_with fail
  refine (u_in na rd.1 rd.2 ru.1 ru.2 l1 l2 _).mono ?_
  rintro e w5 ⟨rfl, hw⟩
  have F' : C2 w w5 bx yb (.float .f32 (pt a)) (.float .f32 (pt b)) := F.step hw
  clear x0 x1 y0 y1 z1 z2
  clear hw F
  have F := F'
  clear F'
  have x0 := F.x0
  have x1 := F.x1
  have y0 := F.y0
  have y1 := F.y1
  have z1 := F.s1
  have z2 := F.s2
  go_wp2_with fail
  refine (known_calls _).mono ?_
  rintro e w6 ⟨rfl, hw⟩
  have F' : C2 w w6 bx yb (.float .f32 (pt a)) (.float .f32 (pt b)) := F.step hw
  clear x0 x1 y0 y1 z1 z2
  clear hw F
  have F := F'
  clear F'
  have x0 := F.x0
  have x1 := F.x1
  have y0 := F.y0
  have y1 := F.y1
  have z1 := F.s1
  have z2 := F.s2
  go_wp2_with fail
  refine (K5.out _).mono ?_
  rintro e w10 ⟨rfl, hw⟩
  have F' : C2 w w10 bx yb (.float .f32 (pt a)) (.float .f32 (pt b)) := F.step hw
  clear x0 x1 y0 y1 z1 z2
  clear hw F
  have F : C2 w (w10.alloc (.cells #[.float .f32 (w32 r0), .float .f32 (w32 r1)] 28)) bx yb (.float .f32 (pt a)) (.float .f32 (pt b)) := F'.step (below_alloc1 _ _)
  clear F'
  have x0 := F.x0
  have x1 := F.x1
  have y0 := F.y0
  have y1 := F.y1
  have z1 := F.s1
  have z2 := F.s2
  go_wp2_with fail
  refine (K6.out _).mono ?_
  rintro e w11 ⟨rfl, hw⟩
  have F' : C2 w w11 bx yb (.float .f32 (pt a)) (.float .f32 (pt b)) := F.step hw
  clear x0 x1 y0 y1 z1 z2
  clear hw F
  have F : C2 w (w11.alloc (.cells #[.float .f32 (w32 u0), .float .f32 (w32 u1)] 28)) bx yb (.float .f32 (pt a)) (.float .f32 (pt b)) := F'.step (below_alloc1 _ _)
  clear F'
  have x0 := F.x0
  have x1 := F.x1
  have y0 := F.y0
  have y1 := F.y1
  have z1 := F.s1
  have z2 := F.s2
  go_wp2_with fail
  refine (u_in na rv.1 rv.2.1 rv.2.2.1 rv.2.2.2.1 rv.2.2.2.2.1 rv.2.2.2.2.2 _).mono ?_
  rintro e w12 ⟨rfl, hw⟩
  have F' : C2 w w12 bx yb (.float .f32 (pt a)) (.float .f32 (pt b)) := F.step hw
  clear x0 x1 y0 y1 z1 z2
  clear hw F
  have F := F'
  clear F'
  have x0 := F.x0
  have x1 := F.x1
  have y0 := F.y0
  have y1 := F.y1
  have z1 := F.s1
  have z2 := F.s2
  go_wp2_with fail
  go_ret
  exact ⟨rfl, F.bl⟩

set_option maxHeartbeats 1000000 in
set_option maxRecDepth 100000 in
theorem und_nn (a b : Nat) (ha : a < 4294967296) (hb : b < 4294967296) (h0 : i32 (pt b) ≠ 0) (hx : i32 (pt a) < 0) (w : World) :
    Calls Try.prog 6 #[.int .u32 a, .int .u32 b] w fun e w' => e = .returned (.bool true) ∧ Below w.heap.size w w' := by
  obtain ⟨na, a1, a2⟩ := pt_num ha
  obtain ⟨nb, b1, b2⟩ := pt_num hb
  have va := pt_iv ha
  have vb := pt_iv hb
  have hs := nb_add a1 a2 b1 b2
  have l1 := und_add_lo a1 a2 b1 b2
  have l2 := und_add_hi a1 a2 b1 b2
  obtain ⟨s0, es0⟩ : ∃ s0, s0 = addD (i32 (pt a)) (i32 (pt b)) := ⟨_, rfl⟩
  obtain ⟨s1, es1⟩ : ∃ s1, s1 = addU (i32 (pt a)) (i32 (pt b)) := ⟨_, rfl⟩
  rw [← es0] at hs l1
  rw [← es1] at hs l2
  have k1 := hadd_ok va vb
  rw [← es0, ← es1] at k1
  have K1 : Hid _ := k1
  clear k1 es0 es1
  have rd := addD_range s0 (-i32 (pt b))
  have ru := addU_range s1 (-i32 (pt b))
  obtain ⟨d0, ed0⟩ : ∃ d0, d0 = addD s0 (-i32 (pt b)) := ⟨_, rfl⟩
  obtain ⟨d1, ed1⟩ : ∃ d1, d1 = addU s1 (-i32 (pt b)) := ⟨_, rfl⟩
  have k2 := u_sub hs vb
  rw [← ed0, ← ed1] at k2
  rw [← ed0] at rd l1
  rw [← ed1] at ru l2
  have K2 : Hid _ := k2
  clear k2 ed0 ed1
  have o1 := ne0_yes nb h0
  have hq := nb_div a1 a2 h0 b1 b2
  have m1 := und_div_lo a1 a2 h0 b1 b2
  have m2 := und_div_hi a1 a2 h0 b1 b2
  obtain ⟨q0, eq0⟩ : ∃ q0, q0 = divD (i32 (pt a)) (i32 (pt b)) := ⟨_, rfl⟩
  obtain ⟨q1, eq1⟩ : ∃ q1, q1 = divU (i32 (pt a)) (i32 (pt b)) := ⟨_, rfl⟩
  rw [← eq0, ← eq1] at hq m1 m2
  have k3 := hdiv_pt va vb h0
  rw [← eq0, ← eq1] at k3
  have K3 : Hid _ := k3
  clear k3 eq0 eq1
  have k4 := u_mul hq vb
  have g0 := mulD_range q0 (i32 (pt b))
  have g1 := mulD_range q1 (i32 (pt b))
  have g2 := mulU_range q0 (i32 (pt b))
  have g3 := mulU_range q1 (i32 (pt b))
  obtain ⟨p0, ep0⟩ : ∃ p0, p0 = min4 (mulD q0 (i32 (pt b))) (mulD q0 (i32 (pt b))) (mulD q1 (i32 (pt b))) (mulD q1 (i32 (pt b))) := ⟨_, rfl⟩
  obtain ⟨p1, ep1⟩ : ∃ p1, p1 = max4 (mulU q0 (i32 (pt b))) (mulU q0 (i32 (pt b))) (mulU q1 (i32 (pt b))) (mulU q1 (i32 (pt b))) := ⟨_, rfl⟩
  rw [← ep0, ← ep1] at k4
  have K4 : Hid _ := k4
  have rp : -I ≤ p0 ∧ p0 ≤ I ∧ -I ≤ p1 ∧ p1 ≤ I ∧ p0 ≤ i32 (pt a) ∧ i32 (pt a) ≤ p1 := by
    unfold min4 at ep0; unfold max4 at ep1; omega
  clear k4 ep0 ep1 g0 g1 g2 g3 m1 m2
  have o2 := o32_lt na n_zero (by rw [i_zero]; exact hx)
  go_enter Try.func6, Try.ntmps6
  go_wp2_with fail
  refine (point_calls a ha _).mono ?_
  rintro e w1 ⟨rfl, hw1⟩
  go_wp2_with fail
  refine (point_calls b hb _).mono ?_
  rintro e w2 ⟨rfl, hw2⟩
  have F := C2.init w w1 w2 (.float .f32 (pt a)) (.float .f32 (pt b)) 28 28 hw1 hw2
  clear hw1 hw2
  obtain ⟨W, hW⟩ : ∃ W, W = w2.alloc (.cells #[(.float .f32 (pt b)), (.float .f32 (pt b))] 28) := ⟨_, rfl⟩
  obtain ⟨bx, hbx⟩ : ∃ bx, bx = w1.heap.size := ⟨_, rfl⟩
  obtain ⟨yb, hyb⟩ : ∃ yb, yb = w2.heap.size := ⟨_, rfl⟩
  have x0 := F.x0
  have x1 := F.x1
  have y0 := F.y0
  have y1 := F.y1
  have z1 := F.s1
  have z2 := F.s2
  go_wp2_with fail
  rw [← hW, ← hbx, ← hyb]
  clear x0 x1 y0 y1 z1 z2
  rw [← hW, ← hbx, ← hyb] at F
  clear hW hbx hyb
  refine (K1.out _).mono ?_
  rintro e w3 ⟨rfl, hw⟩
  have F' : C2 w w3 bx yb (.float .f32 (pt a)) (.float .f32 (pt b)) := F.step hw
  clear hw F
  have F : C2 w (w3.alloc (.cells #[.float .f32 (w32 s0), .float .f32 (w32 s1)] 28)) bx yb (.float .f32 (pt a)) (.float .f32 (pt b)) := F'.step (below_alloc1 _ _)
  clear F'
  have x0 := F.x0
  have x1 := F.x1
  have y0 := F.y0
  have y1 := F.y1
  have z1 := F.s1
  have z2 := F.s2
  go_wp2_with fail
  refine (K2.out _).mono ?_
  rintro e w4 ⟨rfl, hw⟩
  have F' : C2 w w4 bx yb (.float .f32 (pt a)) (.float .f32 (pt b)) := F.step hw
  clear x0 x1 y0 y1 z1 z2
  clear hw F
  have F : C2 w (w4.alloc (.cells #[.float .f32 (w32 d0), .float .f32 (w32 d1)] 28)) bx yb (.float .f32 (pt a)) (.float .f32 (pt b)) := F'.step (below_alloc1 _ _)
  clear F'
  have x0 := F.x0
  have x1 := F.x1
  have y0 := F.y0
  have y1 := F.y1
  have z1 := F.s1
  have z2 := F.s2
  go_wp2_with fail
  refine (u_in na rd.1 rd.2 ru.1 ru.2 l1 l2 _).mono ?_
  rintro e w5 ⟨rfl, hw⟩
  have F' : C2 w w5 bx yb (.float .f32 (pt a)) (.float .f32 (pt b)) := F.step hw
  clear x0 x1 y0 y1 z1 z2
  clear hw F
  have F := F'
  clear F'
  have x0 := F.x0
  have x1 := F.x1
  have y0 := F.y0
  have y1 := F.y1
  have z1 := F.s1
  have z2 := F.s2
  go_wp2_with fail
  refine (known_calls _).mono ?_
  rintro e w6 ⟨rfl, hw⟩
  have F' : C2 w w6 bx yb (.float .f32 (pt a)) (.float .f32 (pt b)) := F.step hw
  clear x0 x1 y0 y1 z1 z2
  clear hw F
  have F := F'
  clear F'
  have x0 := F.x0
  have x1 := F.x1
  have y0 := F.y0
  have y1 := F.y1
  have z1 := F.s1
  have z2 := F.s2
  go_wp2_with fail
  refine (K3.out _).mono ?_
  rintro e w7 ⟨rfl, hw⟩
  have F' : C2 w w7 bx yb (.float .f32 (pt a)) (.float .f32 (pt b)) := F.step hw
  clear x0 x1 y0 y1 z1 z2
  clear hw F
  have F : C2 w (w7.alloc (.cells #[.float .f32 (w32 q0), .float .f32 (w32 q1)] 28)) bx yb (.float .f32 (pt a)) (.float .f32 (pt b)) := F'.step (below_alloc1 _ _)
  clear F'
  have x0 := F.x0
  have x1 := F.x1
  have y0 := F.y0
  have y1 := F.y1
  have z1 := F.s1
  have z2 := F.s2
  go_wp2_with fail
  refine (K4.out _).mono ?_
  rintro e w8 ⟨rfl, hw⟩
  have F' : C2 w w8 bx yb (.float .f32 (pt a)) (.float .f32 (pt b)) := F.step hw
  clear x0 x1 y0 y1 z1 z2
  clear hw F
  have F : C2 w (w8.alloc (.cells #[.float .f32 (w32 p0), .float .f32 (w32 p1)] 28)) bx yb (.float .f32 (pt a)) (.float .f32 (pt b)) := F'.step (below_alloc1 _ _)
  clear F'
  have x0 := F.x0
  have x1 := F.x1
  have y0 := F.y0
  have y1 := F.y1
  have z1 := F.s1
  have z2 := F.s2
  go_wp2_with fail
  refine (u_in na rp.1 rp.2.1 rp.2.2.1 rp.2.2.2.1 rp.2.2.2.2.1 rp.2.2.2.2.2 _).mono ?_
  rintro e w9 ⟨rfl, hw⟩
  have F' : C2 w w9 bx yb (.float .f32 (pt a)) (.float .f32 (pt b)) := F.step hw
  clear x0 x1 y0 y1 z1 z2
  clear hw F
  have F := F'
  clear F'
  have x0 := F.x0
  have x1 := F.x1
  have y0 := F.y0
  have y1 := F.y1
  have z1 := F.s1
  have z2 := F.s2
  go_wp2_with fail
  go_ret
  exact ⟨rfl, F.bl⟩

set_option maxHeartbeats 1000000 in
set_option maxRecDepth 100000 in
theorem und_np (a b : Nat) (ha : a < 4294967296) (hb : b < 4294967296) (h0 : i32 (pt b) ≠ 0) (hx : 0 ≤ i32 (pt a)) (w : World) :
    Calls Try.prog 6 #[.int .u32 a, .int .u32 b] w fun e w' => e = .returned (.bool true) ∧ Below w.heap.size w w' := by
  obtain ⟨na, a1, a2⟩ := pt_num ha
  obtain ⟨nb, b1, b2⟩ := pt_num hb
  have va := pt_iv ha
  have vb := pt_iv hb
  have hs := nb_add a1 a2 b1 b2
  have l1 := und_add_lo a1 a2 b1 b2
  have l2 := und_add_hi a1 a2 b1 b2
  obtain ⟨s0, es0⟩ : ∃ s0, s0 = addD (i32 (pt a)) (i32 (pt b)) := ⟨_, rfl⟩
  obtain ⟨s1, es1⟩ : ∃ s1, s1 = addU (i32 (pt a)) (i32 (pt b)) := ⟨_, rfl⟩
  rw [← es0] at hs l1
  rw [← es1] at hs l2
  have k1 := hadd_ok va vb
  rw [← es0, ← es1] at k1
  have K1 : Hid _ := k1
  clear k1 es0 es1
  have rd := addD_range s0 (-i32 (pt b))
  have ru := addU_range s1 (-i32 (pt b))
  obtain ⟨d0, ed0⟩ : ∃ d0, d0 = addD s0 (-i32 (pt b)) := ⟨_, rfl⟩
  obtain ⟨d1, ed1⟩ : ∃ d1, d1 = addU s1 (-i32 (pt b)) := ⟨_, rfl⟩
  have k2 := u_sub hs vb
  rw [← ed0, ← ed1] at k2
  rw [← ed0] at rd l1
  rw [← ed1] at ru l2
  have K2 : Hid _ := k2
  clear k2 ed0 ed1
  have o1 := ne0_yes nb h0
  have hq := nb_div a1 a2 h0 b1 b2
  have m1 := und_div_lo a1 a2 h0 b1 b2
  have m2 := und_div_hi a1 a2 h0 b1 b2
  obtain ⟨q0, eq0⟩ : ∃ q0, q0 = divD (i32 (pt a)) (i32 (pt b)) := ⟨_, rfl⟩
  obtain ⟨q1, eq1⟩ : ∃ q1, q1 = divU (i32 (pt a)) (i32 (pt b)) := ⟨_, rfl⟩
  rw [← eq0, ← eq1] at hq m1 m2
  have k3 := hdiv_pt va vb h0
  rw [← eq0, ← eq1] at k3
  have K3 : Hid _ := k3
  clear k3 eq0 eq1
  have k4 := u_mul hq vb
  have g0 := mulD_range q0 (i32 (pt b))
  have g1 := mulD_range q1 (i32 (pt b))
  have g2 := mulU_range q0 (i32 (pt b))
  have g3 := mulU_range q1 (i32 (pt b))
  obtain ⟨p0, ep0⟩ : ∃ p0, p0 = min4 (mulD q0 (i32 (pt b))) (mulD q0 (i32 (pt b))) (mulD q1 (i32 (pt b))) (mulD q1 (i32 (pt b))) := ⟨_, rfl⟩
  obtain ⟨p1, ep1⟩ : ∃ p1, p1 = max4 (mulU q0 (i32 (pt b))) (mulU q0 (i32 (pt b))) (mulU q1 (i32 (pt b))) (mulU q1 (i32 (pt b))) := ⟨_, rfl⟩
  rw [← ep0, ← ep1] at k4
  have K4 : Hid _ := k4
  have rp : -I ≤ p0 ∧ p0 ≤ I ∧ -I ≤ p1 ∧ p1 ≤ I ∧ p0 ≤ i32 (pt a) ∧ i32 (pt a) ≤ p1 := by
    unfold min4 at ep0; unfold max4 at ep1; omega
  clear k4 ep0 ep1 g0 g1 g2 g3 m1 m2
  have o2 := ltB_no na hx
  have hr := (nb_sqrt hx a2).1
  have t1 := und_sqrt_lo hx a2
  have t2 := und_sqrt_hi hx a2
  obtain ⟨r0, er0⟩ : ∃ r0, r0 = sqD (i32 (pt a)) := ⟨_, rfl⟩
  obtain ⟨r1, er1⟩ : ∃ r1, r1 = sqU (i32 (pt a)) := ⟨_, rfl⟩
  rw [← er0, ← er1] at hr
  rw [← er0] at t1
  rw [← er1] at t2
  have k5 := hsqrt_pt va hx
  rw [← er0, ← er1] at k5
  have K5 : Hid _ := k5
  clear k5 er0 er1
  have k6 := u_sq hr
  have g0 := mulD_range r0 r0
  have g1 := mulD_range r0 r1
  have g2 := mulD_range r1 r0
  have g3 := mulD_range r1 r1
  have g4 := mulU_range r0 r0
  have g5 := mulU_range r0 r1
  have g6 := mulU_range r1 r0
  have g7 := mulU_range r1 r1
  obtain ⟨u0, eu0⟩ : ∃ u0, u0 = min4 (mulD r0 r0) (mulD r0 r1) (mulD r1 r0) (mulD r1 r1) := ⟨_, rfl⟩
  obtain ⟨u1, eu1⟩ : ∃ u1, u1 = max4 (mulU r0 r0) (mulU r0 r1) (mulU r1 r0) (mulU r1 r1) := ⟨_, rfl⟩
  rw [← eu0, ← eu1] at k6
  have K6 : Hid _ := k6
  have rv : -I ≤ u0 ∧ u0 ≤ I ∧ -I ≤ u1 ∧ u1 ≤ I ∧ u0 ≤ i32 (pt a) ∧ i32 (pt a) ≤ u1 := by
    unfold min4 at eu0; unfold max4 at eu1; omega
  clear k6 eu0 eu1 g0 g1 g2 g3 g4 g5 g6 g7 t1 t2
  go_enter Try.func6, Try.ntmps6
  go_wp2_with fail
  refine (point_calls a ha _).mono ?_
  rintro e w1 ⟨rfl, hw1⟩
  go_wp2_with fail
  refine (point_calls b hb _).mono ?_
  rintro e w2 ⟨rfl, hw2⟩
  have F := C2.init w w1 w2 (.float .f32 (pt a)) (.float .f32 (pt b)) 28 28 hw1 hw2
  clear hw1 hw2
  obtain ⟨W, hW⟩ : ∃ W, W = w2.alloc (.cells #[(.float .f32 (pt b)), (.float .f32 (pt b))] 28) := ⟨_, rfl⟩
  obtain ⟨bx, hbx⟩ : ∃ bx, bx = w1.heap.size := ⟨_, rfl⟩
  obtain ⟨yb, hyb⟩ : ∃ yb, yb = w2.heap.size := ⟨_, rfl⟩
  have x0 := F.x0
  have x1 := F.x1
  have y0 := F.y0
  have y1 := F.y1
  have z1 := F.s1
  have z2 := F.s2
  go_wp2_with fail
  rw [← hW, ← hbx, ← hyb]
  clear x0 x1 y0 y1 z1 z2
  rw [← hW, ← hbx, ← hyb] at F
  clear hW hbx hyb
  refine (K1.out _).mono ?_
  rintro e w3 ⟨rfl, hw⟩
  have F' : C2 w w3 bx yb (.float .f32 (pt a)) (.float .f32 (pt b)) := F.step hw
  clear hw F
  have F : C2 w (w3.alloc (.cells #[.float .f32 (w32 s0), .float .f32 (w32 s1)] 28)) bx yb (.float .f32 (pt a)) (.float .f32 (pt b)) := F'.step (below_alloc1 _ _)
  clear F'
  have x0 := F.x0
  have x1 := F.x1
  have y0 := F.y0
  have y1 := F.y1
  have z1 := F.s1
  have z2 := F.s2
  go_wp2_with fail
  refine (K2.out _).mono ?_
  rintro e w4 ⟨rfl, hw⟩
  have F' : C2 w w4 bx yb (.float .f32 (pt a)) (.float .f32 (pt b)) := F.step hw
  clear x0 x1 y0 y1 z1 z2
  clear hw F
  have F : C2 w (w4.alloc (.cells #[.float .f32 (w32 d0), .float .f32 (w32 d1)] 28)) bx yb (.float .f32 (pt a)) (.float .f32 (pt b)) := F'.step (below_alloc1 _ _)
  clear F'
  have x0 := F.x0
  have x1 := F.x1
  have y0 := F.y0
  have y1 := F.y1
  have z1 := F.s1
  have z2 := F.s2
  go_wp2_with fail
  refine (u_in na rd.1 rd.2 ru.1 ru.2 l1 l2 _).mono ?_
  rintro e w5 ⟨rfl, hw⟩
  have F' : C2 w w5 bx yb (.float .f32 (pt a)) (.float .f32 (pt b)) := F.step hw
  clear x0 x1 y0 y1 z1 z2
  clear hw F
  have F := F'
  clear F'
  have x0 := F.x0
  have x1 := F.x1
  have y0 := F.y0
  have y1 := F.y1
  have z1 := F.s1
  have z2 := F.s2
  go_wp2_with fail
  refine (known_calls _).mono ?_
  rintro e w6 ⟨rfl, hw⟩
  have F' : C2 w w6 bx yb (.float .f32 (pt a)) (.float .f32 (pt b)) := F.step hw
  clear x0 x1 y0 y1 z1 z2
  clear hw F
  have F := F'
  clear F'
  have x0 := F.x0
  have x1 := F.x1
  have y0 := F.y0
  have y1 := F.y1
  have z1 := F.s1
  have z2 := F.s2
  go_wp2_with fail
  refine (K3.out _).mono ?_
  rintro e w7 ⟨rfl, hw⟩
  have F' : C2 w w7 bx yb (.float .f32 (pt a)) (.float .f32 (pt b)) := F.step hw
  clear x0 x1 y0 y1 z1 z2
  clear hw F
  have F : C2 w (w7.alloc (.cells #[.float .f32 (w32 q0), .float .f32 (w32 q1)] 28)) bx yb (.float .f32 (pt a)) (.float .f32 (pt b)) := F'.step (below_alloc1 _ _)
  clear F'
  have x0 := F.x0
  have x1 := F.x1
  have y0 := F.y0
  have y1 := F.y1
  have z1 := F.s1
  have z2 := F.s2
  go_wp2_with fail
  refine (K4.out _).mono ?_
  rintro e w8 ⟨rfl, hw⟩
  have F' : C2 w w8 bx yb (.float .f32 (pt a)) (.float .f32 (pt b)) := F.step hw
  clear x0 x1 y0 y1 z1 z2
  clear hw F
  have F : C2 w (w8.alloc (.cells #[.float .f32 (w32 p0), .float .f32 (w32 p1)] 28)) bx yb (.float .f32 (pt a)) (.float .f32 (pt b)) := F'.step (below_alloc1 _ _)
  clear F'
  have x0 := F.x0
  have x1 := F.x1
  have y0 := F.y0
  have y1 := F.y1
  have z1 := F.s1
  have z2 := F.s2
  go_wp2_with fail
  refine (u_in na rp.1 rp.2.1 rp.2.2.1 rp.2.2.2.1 rp.2.2.2.2.1 rp.2.2.2.2.2 _).mono ?_
  rintro e w9 ⟨rfl, hw⟩
  have F' : C2 w w9 bx yb (.float .f32 (pt a)) (.float .f32 (pt b)) := F.step hw
  clear x0 x1 y0 y1 z1 z2
  clear hw F
  have F := F'
  clear F'
  have x0 := F.x0
  have x1 := F.x1
  have y0 := F.y0
  have y1 := F.y1
  have z1 := F.s1
  have z2 := F.s2
  go_wp2_with fail
  refine (K5.out _).mono ?_
  rintro e w10 ⟨rfl, hw⟩
  have F' : C2 w w10 bx yb (.float .f32 (pt a)) (.float .f32 (pt b)) := F.step hw
  clear x0 x1 y0 y1 z1 z2
  clear hw F
  have F : C2 w (w10.alloc (.cells #[.float .f32 (w32 r0), .float .f32 (w32 r1)] 28)) bx yb (.float .f32 (pt a)) (.float .f32 (pt b)) := F'.step (below_alloc1 _ _)
  clear F'
  have x0 := F.x0
  have x1 := F.x1
  have y0 := F.y0
  have y1 := F.y1
  have z1 := F.s1
  have z2 := F.s2
  go_wp2_with fail
  refine (K6.out _).mono ?_
  rintro e w11 ⟨rfl, hw⟩
  have F' : C2 w w11 bx yb (.float .f32 (pt a)) (.float .f32 (pt b)) := F.step hw
  clear x0 x1 y0 y1 z1 z2
  clear hw F
  have F : C2 w (w11.alloc (.cells #[.float .f32 (w32 u0), .float .f32 (w32 u1)] 28)) bx yb (.float .f32 (pt a)) (.float .f32 (pt b)) := F'.step (below_alloc1 _ _)
  clear F'
  have x0 := F.x0
  have x1 := F.x1
  have y0 := F.y0
  have y1 := F.y1
  have z1 := F.s1
  have z2 := F.s2
  go_wp2_with fail
  refine (u_in na rv.1 rv.2.1 rv.2.2.1 rv.2.2.2.1 rv.2.2.2.2.1 rv.2.2.2.2.2 _).mono ?_
  rintro e w12 ⟨rfl, hw⟩
  have F' : C2 w w12 bx yb (.float .f32 (pt a)) (.float .f32 (pt b)) := F.step hw
  clear x0 x1 y0 y1 z1 z2
  clear hw F
  have F := F'
  clear F'
  have x0 := F.x0
  have x1 := F.x1
  have y0 := F.y0
  have y1 := F.y1
  have z1 := F.s1
  have z2 := F.s2
  go_wp2_with fail
  go_ret
  exact ⟨rfl, F.bl⟩

theorem undone_walk (a b : Nat) (ha : a < 4294967296) (hb : b < 4294967296) (w : World) :
    Calls Try.prog 6 #[.int .u32 a, .int .u32 b] w fun e w' => e = .returned (.bool true) ∧ Below w.heap.size w w' := by
  by_cases h0 : i32 (pt b) = 0 <;> by_cases hx : i32 (pt a) < 0
  · exact und_zn a b ha hb h0 hx w
  · exact und_zp a b ha hb h0 (by omega) w
  · exact und_nn a b ha hb h0 hx w
  · exact und_np a b ha hb h0 (by omega) w
end Go.Proofs.Ytakpfdhopodleaa
