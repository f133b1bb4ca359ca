import Derived.Test.YtakpfdhopodleaaKeepC
namespace Go.Proofs.Ytakpfdhopodleaa
open Go.ChangeShapes Go.WideShapes Go.ChangeAt Go.RowKit Hedge
set_option linter.unusedSimpArgs false
set_option linter.unusedVariables false

theorem min4_self (a : Int) : min4 a a a a = a := by unfold min4; omega
theorem max4_self (a : Int) : max4 a a a a = a := by unfold max4; omega
theorem nb_iv {k k' : Int} (h : Nb k k') : Iv (w32 k) (w32 k') := by
  obtain ⟨a, b, c, d, e⟩ := h
  have q1 := i32_w32 a (by omega)
  have q2 := i32_w32 (by omega) b
  exact ⟨num_w32 a (by omega), num_w32 (by omega) b, by omega, by omega, by omega⟩


theorem hmul_pt {a b : Nat} (ha : Iv a a) (hb : Iv b b) (w : World) :
    Calls Try.prog 14 #[.agg #[.float .f32 a, .float .f32 a], .agg #[.float .f32 b, .float .f32 b]] w fun e w' =>
      e = .returned (.tuple #[.agg #[.float .f32 (w32 (mulD (i32 a) (i32 b))), .float .f32 (w32 (mulU (i32 a) (i32 b)))], .int .i64 0]) ∧ Below w.heap.size w w' := by
  have h := hmul_ok ha hb w
  rw [min4_self, max4_self] at h; exact h
theorem hdiv_pt {a b : Nat} (ha : Iv a a) (hb : Iv b b) (h0 : i32 b ≠ 0) (w : World) :
    Calls Try.prog 15 #[.agg #[.float .f32 a, .float .f32 a], .agg #[.float .f32 b, .float .f32 b]] w fun e w' =>
      e = .returned (.tuple #[.agg #[.float .f32 (w32 (divD (i32 a) (i32 b))), .float .f32 (w32 (divU (i32 a) (i32 b)))], .int .i64 0]) ∧ Below w.heap.size w w' := by
  have h := hdiv_ok ha hb (by omega) w
  rw [min4_self, max4_self] at h; exact h
theorem hsqrt_pt {a : Nat} (ha : Iv a a) (h0 : 0 ≤ i32 a) (w : World) :
    Calls Try.prog 16 #[.agg #[.float .f32 a, .float .f32 a]] w fun e w' =>
      e = .returned (.tuple #[.agg #[.float .f32 (w32 (sqD (i32 a))), .float .f32 (w32 (sqU (i32 a)))], .int .i64 0]) ∧ Below w.heap.size w w' := by
  have h := hsqrt_ok ha h0 w
  rw [Int.min_self, Int.max_self] at h; exact h
theorem step0 (w : World) : Calls Try.prog 18 #[.agg #[.float .f32 0, .float .f32 0]] w fun e w' => e = .returned (.bool true) ∧ Below w.heap.size w w' := by
  have h := step_calls nb_zero.lo nb_zero.hi nb_zero.eq w
  rw [show w32 0 = 0 by decide] at h; exact h
theorem iv0 : Iv 0 0 := by
  have h := nb_iv nb_zero
  rw [show w32 0 = 0 by decide] at h; exact h

set_option maxRecDepth 100000 in
theorem near_add (d : Int) (a b : Nat) (hd1 : -9223372036854775808 ≤ d) (hd2 : d ≤ 9223372036854775807) (ha : a < 4294967296) (hb : b < 4294967296) (hp : pick5 d = 0) (w : World) :
    Calls Try.prog 5 #[.int .i64 d, .int .u32 a, .int .u32 b] w fun e w' => e = .returned (.bool true) ∧ Below w.heap.size w w' := by
  obtain ⟨na, a1, a2⟩ := pt_num ha
  obtain ⟨nb, b1, b2⟩ := pt_num hb
  have va := pt_iv ha
  have vb := pt_iv hb
  have hnb := nb_add a1 a2 b1 b2
  have hiv := nb_iv hnb
  have HP : Hid (pick5 d = 0) := hp
  clear hp
  go_enter Try.func5, Try.ntmps5
  go_wp2_with fail
  refine (point_calls a ha _).mono ?_
  rintro e w1 ⟨rfl, hw1⟩
  go_wp2_with fail
  refine (point_calls b hb _).mono ?_
  rintro e w2 ⟨rfl, hw2⟩
  have F := C3.init w w1 w2 (.float .f32 (pt a)) (.float .f32 (pt b)) 28 28 28 hw1 hw2
  clear hw1 hw2
  obtain ⟨W, hW⟩ : ∃ W, W = (w2.alloc (.cells #[(.float .f32 (pt b)), (.float .f32 (pt b))] 28)).alloc (.cells #[(.float .f32 0), (.float .f32 0)] 28) := ⟨_, rfl⟩
  rw [← hW] at F
  obtain ⟨bx, hbx⟩ : ∃ bx, bx = w1.heap.size := ⟨_, rfl⟩
  obtain ⟨yb, hyb⟩ : ∃ yb, yb = w2.heap.size := ⟨_, rfl⟩
  rw [← hbx, ← hyb] at F
  go_wp2_with fail
  rw [← hW, ← hbx, ← hyb]
  clear hW hbx hyb
  refine (pick_calls d hd1 hd2 _).mono ?_
  rintro e w3 ⟨rfl, rfl⟩
  rw [HP.out]
  obtain ⟨x0, x1, y0, y1, i0, i1, f0, f1, s1, s2, s3, n1, n2, lo, bl⟩ := F
  go_wp2_with fail
  refine (hadd_ok va vb _).mono ?_
  rintro e w4 ⟨rfl, hw4⟩
  have F : C3 w w4 bx yb (yb + 1) (.float .f32 (pt a)) (.float .f32 (pt b)) (.float .f32 0) (.float .f32 0) := C3.step ⟨x0, x1, y0, y1, i0, i1, f0, f1, s1, s2, s3, n1, n2, lo, bl⟩ hw4
  clear hw4 x0 x1 y0 y1 i0 i1 f0 f1 s1 s2 s3 n1 n2 lo bl
  have G := F.put (.float .f32 (w32 (addD (i32 (pt a)) (i32 (pt b))))) (.float .f32 (w32 (addU (i32 (pt a)) (i32 (pt b)))))
  obtain ⟨x0, x1, y0, y1, i0, i1, f0, f1, s1, s2, s3, n1, n2, lo, bl⟩ := F
  go_wp2_with fail
  clear x0 x1 y0 y1 i0 i1 f0 f1 s1 s2 s3 n1 n2 lo bl
  obtain ⟨x0, x1, y0, y1, i0, i1, f0, f1, s1, s2, s3, n1, n2, lo, bl⟩ := G
  refine (known_calls _).mono ?_
  rintro e w5 ⟨rfl, hw5⟩
  have F : C3 w w5 bx yb (yb + 1) (.float .f32 (pt a)) (.float .f32 (pt b)) (.float .f32 (w32 (addD (i32 (pt a)) (i32 (pt b))))) (.float .f32 (w32 (addU (i32 (pt a)) (i32 (pt b))))) := C3.step ⟨x0, x1, y0, y1, i0, i1, f0, f1, s1, s2, s3, n1, n2, lo, bl⟩ hw5
  clear hw5 x0 x1 y0 y1 i0 i1 f0 f1 s1 s2 s3 n1 n2 lo bl
  obtain ⟨x0, x1, y0, y1, i0, i1, f0, f1, s1, s2, s3, n1, n2, lo, bl⟩ := F
  go_wp2_with fail
  refine (step_calls hnb.lo hnb.hi hnb.eq _).mono ?_
  rintro e w6 ⟨rfl, hw6⟩
  have F : C3 w w6 bx yb (yb + 1) (.float .f32 (pt a)) (.float .f32 (pt b)) (.float .f32 (w32 (addD (i32 (pt a)) (i32 (pt b))))) (.float .f32 (w32 (addU (i32 (pt a)) (i32 (pt b))))) := C3.step ⟨x0, x1, y0, y1, i0, i1, f0, f1, s1, s2, s3, n1, n2, lo, bl⟩ hw6
  clear hw6 x0 x1 y0 y1 i0 i1 f0 f1 s1 s2 s3 n1 n2 lo bl
  obtain ⟨x0, x1, y0, y1, i0, i1, f0, f1, s1, s2, s3, n1, n2, lo, bl⟩ := F
  go_wp2_with fail
  refine (kis_calls hiv _).mono ?_
  rintro e w7 ⟨rfl, hw7⟩
  have F : C3 w w7 bx yb (yb + 1) (.float .f32 (pt a)) (.float .f32 (pt b)) (.float .f32 (w32 (addD (i32 (pt a)) (i32 (pt b))))) (.float .f32 (w32 (addU (i32 (pt a)) (i32 (pt b))))) := C3.step ⟨x0, x1, y0, y1, i0, i1, f0, f1, s1, s2, s3, n1, n2, lo, bl⟩ hw7
  clear hw7 x0 x1 y0 y1 i0 i1 f0 f1 s1 s2 s3 n1 n2 lo bl
  obtain ⟨x0, x1, y0, y1, i0, i1, f0, f1, s1, s2, s3, n1, n2, lo, bl⟩ := F
  go_wp2_with fail
  refine (pick_calls d hd1 hd2 _).mono ?_
  rintro e w8 ⟨rfl, rfl⟩
  rw [HP.out]
  go_wp2_with (go_at_call 11; refine (pick_calls d hd1 hd2 _).mono ?_; rintro e w9 ⟨rfl, rfl⟩; rw [HP.out])
  go_ret
  exact ⟨rfl, bl⟩

set_option maxRecDepth 100000 in
theorem near_sub (d : Int) (a b : Nat) (hd1 : -9223372036854775808 ≤ d) (hd2 : d ≤ 9223372036854775807) (ha : a < 4294967296) (hb : b < 4294967296) (hp : pick5 d = 1) (w : World) :
    Calls Try.prog 5 #[.int .i64 d, .int .u32 a, .int .u32 b] w fun e w' => e = .returned (.bool true) ∧ Below w.heap.size w w' := by
  obtain ⟨na, a1, a2⟩ := pt_num ha
  obtain ⟨nb, b1, b2⟩ := pt_num hb
  have va := pt_iv ha
  have vb := pt_iv hb
  have hnb := nb_add a1 a2 (j := -i32 (pt b)) (by omega) (by omega)
  have hiv := nb_iv hnb
  have HP : Hid (pick5 d = 1) := hp
  clear hp
  go_enter Try.func5, Try.ntmps5
  go_wp2_with fail
  refine (point_calls a ha _).mono ?_
  rintro e w1 ⟨rfl, hw1⟩
  go_wp2_with fail
  refine (point_calls b hb _).mono ?_
  rintro e w2 ⟨rfl, hw2⟩
  have F := C3.init w w1 w2 (.float .f32 (pt a)) (.float .f32 (pt b)) 28 28 28 hw1 hw2
  clear hw1 hw2
  obtain ⟨W, hW⟩ : ∃ W, W = (w2.alloc (.cells #[(.float .f32 (pt b)), (.float .f32 (pt b))] 28)).alloc (.cells #[(.float .f32 0), (.float .f32 0)] 28) := ⟨_, rfl⟩
  rw [← hW] at F
  obtain ⟨bx, hbx⟩ : ∃ bx, bx = w1.heap.size := ⟨_, rfl⟩
  obtain ⟨yb, hyb⟩ : ∃ yb, yb = w2.heap.size := ⟨_, rfl⟩
  rw [← hbx, ← hyb] at F
  go_wp2_with fail
  rw [← hW, ← hbx, ← hyb]
  clear hW hbx hyb
  refine (pick_calls d hd1 hd2 _).mono ?_
  rintro e w3 ⟨rfl, rfl⟩
  rw [HP.out]
  obtain ⟨x0, x1, y0, y1, i0, i1, f0, f1, s1, s2, s3, n1, n2, lo, bl⟩ := F
  go_wp2_with fail
  refine (hsub_ok va vb _).mono ?_
  rintro e w4 ⟨rfl, hw4⟩
  have F : C3 w w4 bx yb (yb + 1) (.float .f32 (pt a)) (.float .f32 (pt b)) (.float .f32 0) (.float .f32 0) := C3.step ⟨x0, x1, y0, y1, i0, i1, f0, f1, s1, s2, s3, n1, n2, lo, bl⟩ hw4
  clear hw4 x0 x1 y0 y1 i0 i1 f0 f1 s1 s2 s3 n1 n2 lo bl
  have G := F.put (.float .f32 (w32 (addD (i32 (pt a)) (-(i32 (pt b)))))) (.float .f32 (w32 (addU (i32 (pt a)) (-(i32 (pt b))))))
  obtain ⟨x0, x1, y0, y1, i0, i1, f0, f1, s1, s2, s3, n1, n2, lo, bl⟩ := F
  go_wp2_with fail
  clear x0 x1 y0 y1 i0 i1 f0 f1 s1 s2 s3 n1 n2 lo bl
  obtain ⟨x0, x1, y0, y1, i0, i1, f0, f1, s1, s2, s3, n1, n2, lo, bl⟩ := G
  refine (known_calls _).mono ?_
  rintro e w5 ⟨rfl, hw5⟩
  have F : C3 w w5 bx yb (yb + 1) (.float .f32 (pt a)) (.float .f32 (pt b)) (.float .f32 (w32 (addD (i32 (pt a)) (-(i32 (pt b)))))) (.float .f32 (w32 (addU (i32 (pt a)) (-(i32 (pt b)))))) := C3.step ⟨x0, x1, y0, y1, i0, i1, f0, f1, s1, s2, s3, n1, n2, lo, bl⟩ hw5
  clear hw5 x0 x1 y0 y1 i0 i1 f0 f1 s1 s2 s3 n1 n2 lo bl
  obtain ⟨x0, x1, y0, y1, i0, i1, f0, f1, s1, s2, s3, n1, n2, lo, bl⟩ := F
  go_wp2_with fail
  refine (step_calls hnb.lo hnb.hi hnb.eq _).mono ?_
  rintro e w6 ⟨rfl, hw6⟩
  have F : C3 w w6 bx yb (yb + 1) (.float .f32 (pt a)) (.float .f32 (pt b)) (.float .f32 (w32 (addD (i32 (pt a)) (-(i32 (pt b)))))) (.float .f32 (w32 (addU (i32 (pt a)) (-(i32 (pt b)))))) := C3.step ⟨x0, x1, y0, y1, i0, i1, f0, f1, s1, s2, s3, n1, n2, lo, bl⟩ hw6
  clear hw6 x0 x1 y0 y1 i0 i1 f0 f1 s1 s2 s3 n1 n2 lo bl
  obtain ⟨x0, x1, y0, y1, i0, i1, f0, f1, s1, s2, s3, n1, n2, lo, bl⟩ := F
  go_wp2_with fail
  refine (kis_calls hiv _).mono ?_
  rintro e w7 ⟨rfl, hw7⟩
  have F : C3 w w7 bx yb (yb + 1) (.float .f32 (pt a)) (.float .f32 (pt b)) (.float .f32 (w32 (addD (i32 (pt a)) (-(i32 (pt b)))))) (.float .f32 (w32 (addU (i32 (pt a)) (-(i32 (pt b)))))) := C3.step ⟨x0, x1, y0, y1, i0, i1, f0, f1, s1, s2, s3, n1, n2, lo, bl⟩ hw7
  clear hw7 x0 x1 y0 y1 i0 i1 f0 f1 s1 s2 s3 n1 n2 lo bl
  obtain ⟨x0, x1, y0, y1, i0, i1, f0, f1, s1, s2, s3, n1, n2, lo, bl⟩ := F
  go_wp2_with fail
  refine (pick_calls d hd1 hd2 _).mono ?_
  rintro e w8 ⟨rfl, rfl⟩
  rw [HP.out]
  go_wp2_with (go_at_call 11; refine (pick_calls d hd1 hd2 _).mono ?_; rintro e w9 ⟨rfl, rfl⟩; rw [HP.out])
  go_ret
  exact ⟨rfl, bl⟩

set_option maxRecDepth 100000 in
theorem near_mul (d : Int) (a b : Nat) (hd1 : -9223372036854775808 ≤ d) (hd2 : d ≤ 9223372036854775807) (ha : a < 4294967296) (hb : b < 4294967296) (hp : pick5 d = 2) (w : World) :
    Calls Try.prog 5 #[.int .i64 d, .int .u32 a, .int .u32 b] w fun e w' => e = .returned (.bool true) ∧ Below w.heap.size w w' := by
  obtain ⟨na, a1, a2⟩ := pt_num ha
  obtain ⟨nb, b1, b2⟩ := pt_num hb
  have va := pt_iv ha
  have vb := pt_iv hb
  have hnb := nb_mul a1 a2 b1 b2
  have hiv := nb_iv hnb
  have HP : Hid (pick5 d = 2) := hp
  clear hp
  go_enter Try.func5, Try.ntmps5
  go_wp2_with fail
  refine (point_calls a ha _).mono ?_
  rintro e w1 ⟨rfl, hw1⟩
  go_wp2_with fail
  refine (point_calls b hb _).mono ?_
  rintro e w2 ⟨rfl, hw2⟩
  have F := C3.init w w1 w2 (.float .f32 (pt a)) (.float .f32 (pt b)) 28 28 28 hw1 hw2
  clear hw1 hw2
  obtain ⟨W, hW⟩ : ∃ W, W = (w2.alloc (.cells #[(.float .f32 (pt b)), (.float .f32 (pt b))] 28)).alloc (.cells #[(.float .f32 0), (.float .f32 0)] 28) := ⟨_, rfl⟩
  rw [← hW] at F
  obtain ⟨bx, hbx⟩ : ∃ bx, bx = w1.heap.size := ⟨_, rfl⟩
  obtain ⟨yb, hyb⟩ : ∃ yb, yb = w2.heap.size := ⟨_, rfl⟩
  rw [← hbx, ← hyb] at F
  go_wp2_with fail
  rw [← hW, ← hbx, ← hyb]
  clear hW hbx hyb
  refine (pick_calls d hd1 hd2 _).mono ?_
  rintro e w3 ⟨rfl, rfl⟩
  rw [HP.out]
  obtain ⟨x0, x1, y0, y1, i0, i1, f0, f1, s1, s2, s3, n1, n2, lo, bl⟩ := F
  go_wp2_with fail
  refine (hmul_pt va vb _).mono ?_
  rintro e w4 ⟨rfl, hw4⟩
  have F : C3 w w4 bx yb (yb + 1) (.float .f32 (pt a)) (.float .f32 (pt b)) (.float .f32 0) (.float .f32 0) := C3.step ⟨x0, x1, y0, y1, i0, i1, f0, f1, s1, s2, s3, n1, n2, lo, bl⟩ hw4
  clear hw4 x0 x1 y0 y1 i0 i1 f0 f1 s1 s2 s3 n1 n2 lo bl
  have G := F.put (.float .f32 (w32 (mulD (i32 (pt a)) (i32 (pt b))))) (.float .f32 (w32 (mulU (i32 (pt a)) (i32 (pt b)))))
  obtain ⟨x0, x1, y0, y1, i0, i1, f0, f1, s1, s2, s3, n1, n2, lo, bl⟩ := F
  go_wp2_with fail
  clear x0 x1 y0 y1 i0 i1 f0 f1 s1 s2 s3 n1 n2 lo bl
  obtain ⟨x0, x1, y0, y1, i0, i1, f0, f1, s1, s2, s3, n1, n2, lo, bl⟩ := G
  refine (known_calls _).mono ?_
  rintro e w5 ⟨rfl, hw5⟩
  have F : C3 w w5 bx yb (yb + 1) (.float .f32 (pt a)) (.float .f32 (pt b)) (.float .f32 (w32 (mulD (i32 (pt a)) (i32 (pt b))))) (.float .f32 (w32 (mulU (i32 (pt a)) (i32 (pt b))))) := C3.step ⟨x0, x1, y0, y1, i0, i1, f0, f1, s1, s2, s3, n1, n2, lo, bl⟩ hw5
  clear hw5 x0 x1 y0 y1 i0 i1 f0 f1 s1 s2 s3 n1 n2 lo bl
  obtain ⟨x0, x1, y0, y1, i0, i1, f0, f1, s1, s2, s3, n1, n2, lo, bl⟩ := F
  go_wp2_with fail
  refine (step_calls hnb.lo hnb.hi hnb.eq _).mono ?_
  rintro e w6 ⟨rfl, hw6⟩
  have F : C3 w w6 bx yb (yb + 1) (.float .f32 (pt a)) (.float .f32 (pt b)) (.float .f32 (w32 (mulD (i32 (pt a)) (i32 (pt b))))) (.float .f32 (w32 (mulU (i32 (pt a)) (i32 (pt b))))) := C3.step ⟨x0, x1, y0, y1, i0, i1, f0, f1, s1, s2, s3, n1, n2, lo, bl⟩ hw6
  clear hw6 x0 x1 y0 y1 i0 i1 f0 f1 s1 s2 s3 n1 n2 lo bl
  obtain ⟨x0, x1, y0, y1, i0, i1, f0, f1, s1, s2, s3, n1, n2, lo, bl⟩ := F
  go_wp2_with fail
  refine (kis_calls hiv _).mono ?_
  rintro e w7 ⟨rfl, hw7⟩
  have F : C3 w w7 bx yb (yb + 1) (.float .f32 (pt a)) (.float .f32 (pt b)) (.float .f32 (w32 (mulD (i32 (pt a)) (i32 (pt b))))) (.float .f32 (w32 (mulU (i32 (pt a)) (i32 (pt b))))) := C3.step ⟨x0, x1, y0, y1, i0, i1, f0, f1, s1, s2, s3, n1, n2, lo, bl⟩ hw7
  clear hw7 x0 x1 y0 y1 i0 i1 f0 f1 s1 s2 s3 n1 n2 lo bl
  obtain ⟨x0, x1, y0, y1, i0, i1, f0, f1, s1, s2, s3, n1, n2, lo, bl⟩ := F
  go_wp2_with fail
  refine (pick_calls d hd1 hd2 _).mono ?_
  rintro e w8 ⟨rfl, rfl⟩
  rw [HP.out]
  go_wp2_with (go_at_call 11; refine (pick_calls d hd1 hd2 _).mono ?_; rintro e w9 ⟨rfl, rfl⟩; rw [HP.out])
  go_ret
  exact ⟨rfl, bl⟩

set_option maxRecDepth 100000 in
theorem near_div (d : Int) (a b : Nat) (hd1 : -9223372036854775808 ≤ d) (hd2 : d ≤ 9223372036854775807) (ha : a < 4294967296) (hb : b < 4294967296) (hp : pick5 d = 3) (h0 : i32 (pt b) ≠ 0) (w : World) :
    Calls Try.prog 5 #[.int .i64 d, .int .u32 a, .int .u32 b] w fun e w' => e = .returned (.bool true) ∧ Below w.heap.size w w' := by
  obtain ⟨na, a1, a2⟩ := pt_num ha
  obtain ⟨nb, b1, b2⟩ := pt_num hb
  have va := pt_iv ha
  have vb := pt_iv hb
  have hnb := nb_div a1 a2 h0 b1 b2
  have hiv := nb_iv hnb
  have o1 := ne0_order nb h0
  have HP : Hid (pick5 d = 3) := hp
  clear hp
  go_enter Try.func5, Try.ntmps5
  go_wp2_with fail
  refine (point_calls a ha _).mono ?_
  rintro e w1 ⟨rfl, hw1⟩
  go_wp2_with fail
  refine (point_calls b hb _).mono ?_
  rintro e w2 ⟨rfl, hw2⟩
  have F := C3.init w w1 w2 (.float .f32 (pt a)) (.float .f32 (pt b)) 28 28 28 hw1 hw2
  clear hw1 hw2
  obtain ⟨W, hW⟩ : ∃ W, W = (w2.alloc (.cells #[(.float .f32 (pt b)), (.float .f32 (pt b))] 28)).alloc (.cells #[(.float .f32 0), (.float .f32 0)] 28) := ⟨_, rfl⟩
  rw [← hW] at F
  obtain ⟨bx, hbx⟩ : ∃ bx, bx = w1.heap.size := ⟨_, rfl⟩
  obtain ⟨yb, hyb⟩ : ∃ yb, yb = w2.heap.size := ⟨_, rfl⟩
  rw [← hbx, ← hyb] at F
  go_wp2_with fail
  rw [← hW, ← hbx, ← hyb]
  clear hW hbx hyb
  refine (pick_calls d hd1 hd2 _).mono ?_
  rintro e w3 ⟨rfl, rfl⟩
  rw [HP.out]
  obtain ⟨x0, x1, y0, y1, i0, i1, f0, f1, s1, s2, s3, n1, n2, lo, bl⟩ := F
  go_wp2_with fail
  refine (hdiv_pt va vb h0 _).mono ?_
  rintro e w4 ⟨rfl, hw4⟩
  have F : C3 w w4 bx yb (yb + 1) (.float .f32 (pt a)) (.float .f32 (pt b)) (.float .f32 0) (.float .f32 0) := C3.step ⟨x0, x1, y0, y1, i0, i1, f0, f1, s1, s2, s3, n1, n2, lo, bl⟩ hw4
  clear hw4 x0 x1 y0 y1 i0 i1 f0 f1 s1 s2 s3 n1 n2 lo bl
  have G := F.put (.float .f32 (w32 (divD (i32 (pt a)) (i32 (pt b))))) (.float .f32 (w32 (divU (i32 (pt a)) (i32 (pt b)))))
  obtain ⟨x0, x1, y0, y1, i0, i1, f0, f1, s1, s2, s3, n1, n2, lo, bl⟩ := F
  go_wp2_with fail
  clear x0 x1 y0 y1 i0 i1 f0 f1 s1 s2 s3 n1 n2 lo bl
  obtain ⟨x0, x1, y0, y1, i0, i1, f0, f1, s1, s2, s3, n1, n2, lo, bl⟩ := G
  refine (known_calls _).mono ?_
  rintro e w5 ⟨rfl, hw5⟩
  have F : C3 w w5 bx yb (yb + 1) (.float .f32 (pt a)) (.float .f32 (pt b)) (.float .f32 (w32 (divD (i32 (pt a)) (i32 (pt b))))) (.float .f32 (w32 (divU (i32 (pt a)) (i32 (pt b))))) := C3.step ⟨x0, x1, y0, y1, i0, i1, f0, f1, s1, s2, s3, n1, n2, lo, bl⟩ hw5
  clear hw5 x0 x1 y0 y1 i0 i1 f0 f1 s1 s2 s3 n1 n2 lo bl
  obtain ⟨x0, x1, y0, y1, i0, i1, f0, f1, s1, s2, s3, n1, n2, lo, bl⟩ := F
  go_wp2_with fail
  refine (step_calls hnb.lo hnb.hi hnb.eq _).mono ?_
  rintro e w6 ⟨rfl, hw6⟩
  have F : C3 w w6 bx yb (yb + 1) (.float .f32 (pt a)) (.float .f32 (pt b)) (.float .f32 (w32 (divD (i32 (pt a)) (i32 (pt b))))) (.float .f32 (w32 (divU (i32 (pt a)) (i32 (pt b))))) := C3.step ⟨x0, x1, y0, y1, i0, i1, f0, f1, s1, s2, s3, n1, n2, lo, bl⟩ hw6
  clear hw6 x0 x1 y0 y1 i0 i1 f0 f1 s1 s2 s3 n1 n2 lo bl
  obtain ⟨x0, x1, y0, y1, i0, i1, f0, f1, s1, s2, s3, n1, n2, lo, bl⟩ := F
  go_wp2_with fail
  refine (kis_calls hiv _).mono ?_
  rintro e w7 ⟨rfl, hw7⟩
  have F : C3 w w7 bx yb (yb + 1) (.float .f32 (pt a)) (.float .f32 (pt b)) (.float .f32 (w32 (divD (i32 (pt a)) (i32 (pt b))))) (.float .f32 (w32 (divU (i32 (pt a)) (i32 (pt b))))) := C3.step ⟨x0, x1, y0, y1, i0, i1, f0, f1, s1, s2, s3, n1, n2, lo, bl⟩ hw7
  clear hw7 x0 x1 y0 y1 i0 i1 f0 f1 s1 s2 s3 n1 n2 lo bl
  obtain ⟨x0, x1, y0, y1, i0, i1, f0, f1, s1, s2, s3, n1, n2, lo, bl⟩ := F
  go_wp2_with fail
  refine (pick_calls d hd1 hd2 _).mono ?_
  rintro e w8 ⟨rfl, rfl⟩
  rw [HP.out]
  go_wp2_with (go_at_call 11; refine (pick_calls d hd1 hd2 _).mono ?_; rintro e w9 ⟨rfl, rfl⟩; rw [HP.out])
  go_ret
  exact ⟨rfl, bl⟩

set_option maxRecDepth 100000 in
theorem near_div0 (d : Int) (a b : Nat) (hd1 : -9223372036854775808 ≤ d) (hd2 : d ≤ 9223372036854775807) (ha : a < 4294967296) (hb : b < 4294967296) (hp : pick5 d = 3) (h0 : i32 (pt b) = 0) (w : World) :
    Calls Try.prog 5 #[.int .i64 d, .int .u32 a, .int .u32 b] w fun e w' => e = .returned (.bool true) ∧ Below w.heap.size w w' := by
  obtain ⟨na, a1, a2⟩ := pt_num ha
  obtain ⟨nb, b1, b2⟩ := pt_num hb
  have va := pt_iv ha
  have vb := pt_iv hb
  have hiv := iv0
  have o1 := o32_eq nb n_zero (by rw [i_zero]; exact h0)
  have hz : i32 (pt b) ≤ 0 ∧ 0 ≤ i32 (pt b) := by omega
  clear h0
  have HP : Hid (pick5 d = 3) := hp
  clear hp
  go_enter Try.func5, Try.ntmps5
  go_wp2_with fail
  refine (point_calls a ha _).mono ?_
  rintro e w1 ⟨rfl, hw1⟩
  go_wp2_with fail
  refine (point_calls b hb _).mono ?_
  rintro e w2 ⟨rfl, hw2⟩
  have F := C3.init w w1 w2 (.float .f32 (pt a)) (.float .f32 (pt b)) 28 28 28 hw1 hw2
  clear hw1 hw2
  obtain ⟨W, hW⟩ : ∃ W, W = (w2.alloc (.cells #[(.float .f32 (pt b)), (.float .f32 (pt b))] 28)).alloc (.cells #[(.float .f32 0), (.float .f32 0)] 28) := ⟨_, rfl⟩
  rw [← hW] at F
  obtain ⟨bx, hbx⟩ : ∃ bx, bx = w1.heap.size := ⟨_, rfl⟩
  obtain ⟨yb, hyb⟩ : ∃ yb, yb = w2.heap.size := ⟨_, rfl⟩
  rw [← hbx, ← hyb] at F
  go_wp2_with fail
  rw [← hW, ← hbx, ← hyb]
  clear hW hbx hyb
  refine (pick_calls d hd1 hd2 _).mono ?_
  rintro e w3 ⟨rfl, rfl⟩
  rw [HP.out]
  obtain ⟨x0, x1, y0, y1, i0, i1, f0, f1, s1, s2, s3, n1, n2, lo, bl⟩ := F
  go_wp2_with fail
  refine (hdiv_zero va vb hz _).mono ?_
  rintro e w4 ⟨rfl, hw4⟩
  have F : C3 w w4 bx yb (yb + 1) (.float .f32 (pt a)) (.float .f32 (pt b)) (.float .f32 0) (.float .f32 0) := C3.step ⟨x0, x1, y0, y1, i0, i1, f0, f1, s1, s2, s3, n1, n2, lo, bl⟩ hw4
  clear hw4 x0 x1 y0 y1 i0 i1 f0 f1 s1 s2 s3 n1 n2 lo bl
  have G := F.put (.float .f32 0) (.float .f32 0)
  obtain ⟨x0, x1, y0, y1, i0, i1, f0, f1, s1, s2, s3, n1, n2, lo, bl⟩ := F
  go_wp2_with fail
  clear x0 x1 y0 y1 i0 i1 f0 f1 s1 s2 s3 n1 n2 lo bl
  obtain ⟨x0, x1, y0, y1, i0, i1, f0, f1, s1, s2, s3, n1, n2, lo, bl⟩ := G
  refine (known_calls _).mono ?_
  rintro e w5 ⟨rfl, hw5⟩
  have F : C3 w w5 bx yb (yb + 1) (.float .f32 (pt a)) (.float .f32 (pt b)) (.float .f32 0) (.float .f32 0) := C3.step ⟨x0, x1, y0, y1, i0, i1, f0, f1, s1, s2, s3, n1, n2, lo, bl⟩ hw5
  clear hw5 x0 x1 y0 y1 i0 i1 f0 f1 s1 s2 s3 n1 n2 lo bl
  obtain ⟨x0, x1, y0, y1, i0, i1, f0, f1, s1, s2, s3, n1, n2, lo, bl⟩ := F
  go_wp2_with fail
  refine (step0 _).mono ?_
  rintro e w6 ⟨rfl, hw6⟩
  have F : C3 w w6 bx yb (yb + 1) (.float .f32 (pt a)) (.float .f32 (pt b)) (.float .f32 0) (.float .f32 0) := C3.step ⟨x0, x1, y0, y1, i0, i1, f0, f1, s1, s2, s3, n1, n2, lo, bl⟩ hw6
  clear hw6 x0 x1 y0 y1 i0 i1 f0 f1 s1 s2 s3 n1 n2 lo bl
  obtain ⟨x0, x1, y0, y1, i0, i1, f0, f1, s1, s2, s3, n1, n2, lo, bl⟩ := F
  go_wp2_with fail
  refine (kis_calls hiv _).mono ?_
  rintro e w7 ⟨rfl, hw7⟩
  have F : C3 w w7 bx yb (yb + 1) (.float .f32 (pt a)) (.float .f32 (pt b)) (.float .f32 0) (.float .f32 0) := C3.step ⟨x0, x1, y0, y1, i0, i1, f0, f1, s1, s2, s3, n1, n2, lo, bl⟩ hw7
  clear hw7 x0 x1 y0 y1 i0 i1 f0 f1 s1 s2 s3 n1 n2 lo bl
  obtain ⟨x0, x1, y0, y1, i0, i1, f0, f1, s1, s2, s3, n1, n2, lo, bl⟩ := F
  go_wp2_with fail
  refine (pick_calls d hd1 hd2 _).mono ?_
  rintro e w8 ⟨rfl, rfl⟩
  rw [HP.out]
  go_wp2_with (go_at_call 11; refine (pick_calls d hd1 hd2 _).mono ?_; rintro e w9 ⟨rfl, rfl⟩; rw [HP.out])
  go_ret
  exact ⟨rfl, bl⟩

set_option maxRecDepth 100000 in
theorem near_sqrt (d : Int) (a b : Nat) (hd1 : -9223372036854775808 ≤ d) (hd2 : d ≤ 9223372036854775807) (ha : a < 4294967296) (hb : b < 4294967296) (hp : pick5 d = 4) (h0 : 0 ≤ i32 (pt a)) (w : World) :
    Calls Try.prog 5 #[.int .i64 d, .int .u32 a, .int .u32 b] w fun e w' => e = .returned (.bool true) ∧ Below w.heap.size w w' := by
  obtain ⟨na, a1, a2⟩ := pt_num ha
  obtain ⟨nb, b1, b2⟩ := pt_num hb
  have va := pt_iv ha
  have vb := pt_iv hb
  have hnb := (nb_sqrt h0 a2).1
  have hiv := nb_iv hnb
  have o1 := ltB_no na h0
  have HP : Hid (pick5 d = 4) := hp
  clear hp
  go_enter Try.func5, Try.ntmps5
  go_wp2_with fail
  refine (point_calls a ha _).mono ?_
  rintro e w1 ⟨rfl, hw1⟩
  go_wp2_with fail
  refine (point_calls b hb _).mono ?_
  rintro e w2 ⟨rfl, hw2⟩
  have F := C3.init w w1 w2 (.float .f32 (pt a)) (.float .f32 (pt b)) 28 28 28 hw1 hw2
  clear hw1 hw2
  obtain ⟨W, hW⟩ : ∃ W, W = (w2.alloc (.cells #[(.float .f32 (pt b)), (.float .f32 (pt b))] 28)).alloc (.cells #[(.float .f32 0), (.float .f32 0)] 28) := ⟨_, rfl⟩
  rw [← hW] at F
  obtain ⟨bx, hbx⟩ : ∃ bx, bx = w1.heap.size := ⟨_, rfl⟩
  obtain ⟨yb, hyb⟩ : ∃ yb, yb = w2.heap.size := ⟨_, rfl⟩
  rw [← hbx, ← hyb] at F
  go_wp2_with fail
  rw [← hW, ← hbx, ← hyb]
  clear hW hbx hyb
  refine (pick_calls d hd1 hd2 _).mono ?_
  rintro e w3 ⟨rfl, rfl⟩
  rw [HP.out]
  obtain ⟨x0, x1, y0, y1, i0, i1, f0, f1, s1, s2, s3, n1, n2, lo, bl⟩ := F
  go_wp2_with fail
  refine (hsqrt_pt va h0 _).mono ?_
  rintro e w4 ⟨rfl, hw4⟩
  have F : C3 w w4 bx yb (yb + 1) (.float .f32 (pt a)) (.float .f32 (pt b)) (.float .f32 0) (.float .f32 0) := C3.step ⟨x0, x1, y0, y1, i0, i1, f0, f1, s1, s2, s3, n1, n2, lo, bl⟩ hw4
  clear hw4 x0 x1 y0 y1 i0 i1 f0 f1 s1 s2 s3 n1 n2 lo bl
  have G := F.put (.float .f32 (w32 (sqD (i32 (pt a))))) (.float .f32 (w32 (sqU (i32 (pt a)))))
  obtain ⟨x0, x1, y0, y1, i0, i1, f0, f1, s1, s2, s3, n1, n2, lo, bl⟩ := F
  go_wp2_with fail
  clear x0 x1 y0 y1 i0 i1 f0 f1 s1 s2 s3 n1 n2 lo bl
  obtain ⟨x0, x1, y0, y1, i0, i1, f0, f1, s1, s2, s3, n1, n2, lo, bl⟩ := G
  refine (known_calls _).mono ?_
  rintro e w5 ⟨rfl, hw5⟩
  have F : C3 w w5 bx yb (yb + 1) (.float .f32 (pt a)) (.float .f32 (pt b)) (.float .f32 (w32 (sqD (i32 (pt a))))) (.float .f32 (w32 (sqU (i32 (pt a))))) := C3.step ⟨x0, x1, y0, y1, i0, i1, f0, f1, s1, s2, s3, n1, n2, lo, bl⟩ hw5
  clear hw5 x0 x1 y0 y1 i0 i1 f0 f1 s1 s2 s3 n1 n2 lo bl
  obtain ⟨x0, x1, y0, y1, i0, i1, f0, f1, s1, s2, s3, n1, n2, lo, bl⟩ := F
  go_wp2_with fail
  refine (step_calls hnb.lo hnb.hi hnb.eq _).mono ?_
  rintro e w6 ⟨rfl, hw6⟩
  have F : C3 w w6 bx yb (yb + 1) (.float .f32 (pt a)) (.float .f32 (pt b)) (.float .f32 (w32 (sqD (i32 (pt a))))) (.float .f32 (w32 (sqU (i32 (pt a))))) := C3.step ⟨x0, x1, y0, y1, i0, i1, f0, f1, s1, s2, s3, n1, n2, lo, bl⟩ hw6
  clear hw6 x0 x1 y0 y1 i0 i1 f0 f1 s1 s2 s3 n1 n2 lo bl
  obtain ⟨x0, x1, y0, y1, i0, i1, f0, f1, s1, s2, s3, n1, n2, lo, bl⟩ := F
  go_wp2_with fail
  refine (kis_calls hiv _).mono ?_
  rintro e w7 ⟨rfl, hw7⟩
  have F : C3 w w7 bx yb (yb + 1) (.float .f32 (pt a)) (.float .f32 (pt b)) (.float .f32 (w32 (sqD (i32 (pt a))))) (.float .f32 (w32 (sqU (i32 (pt a))))) := C3.step ⟨x0, x1, y0, y1, i0, i1, f0, f1, s1, s2, s3, n1, n2, lo, bl⟩ hw7
  clear hw7 x0 x1 y0 y1 i0 i1 f0 f1 s1 s2 s3 n1 n2 lo bl
  obtain ⟨x0, x1, y0, y1, i0, i1, f0, f1, s1, s2, s3, n1, n2, lo, bl⟩ := F
  go_wp2_with fail
  refine (pick_calls d hd1 hd2 _).mono ?_
  rintro e w8 ⟨rfl, rfl⟩
  rw [HP.out]
  go_wp2_with (go_at_call 11; refine (pick_calls d hd1 hd2 _).mono ?_; rintro e w9 ⟨rfl, rfl⟩; rw [HP.out])
  go_ret
  exact ⟨rfl, bl⟩

set_option maxRecDepth 100000 in
theorem near_sqrt0 (d : Int) (a b : Nat) (hd1 : -9223372036854775808 ≤ d) (hd2 : d ≤ 9223372036854775807) (ha : a < 4294967296) (hb : b < 4294967296) (hp : pick5 d = 4) (h0 : i32 (pt a) < 0) (w : World) :
    Calls Try.prog 5 #[.int .i64 d, .int .u32 a, .int .u32 b] w fun e w' => e = .returned (.bool true) ∧ Below w.heap.size w w' := by
  obtain ⟨na, a1, a2⟩ := pt_num ha
  obtain ⟨nb, b1, b2⟩ := pt_num hb
  have va := pt_iv ha
  have vb := pt_iv hb
  have hiv := iv0
  have o1 := o32_lt na n_zero (by rw [i_zero]; exact h0)
  have HP : Hid (pick5 d = 4) := hp
  clear hp
  go_enter Try.func5, Try.ntmps5
  go_wp2_with fail
  refine (point_calls a ha _).mono ?_
  rintro e w1 ⟨rfl, hw1⟩
  go_wp2_with fail
  refine (point_calls b hb _).mono ?_
  rintro e w2 ⟨rfl, hw2⟩
  have F := C3.init w w1 w2 (.float .f32 (pt a)) (.float .f32 (pt b)) 28 28 28 hw1 hw2
  clear hw1 hw2
  obtain ⟨W, hW⟩ : ∃ W, W = (w2.alloc (.cells #[(.float .f32 (pt b)), (.float .f32 (pt b))] 28)).alloc (.cells #[(.float .f32 0), (.float .f32 0)] 28) := ⟨_, rfl⟩
  rw [← hW] at F
  obtain ⟨bx, hbx⟩ : ∃ bx, bx = w1.heap.size := ⟨_, rfl⟩
  obtain ⟨yb, hyb⟩ : ∃ yb, yb = w2.heap.size := ⟨_, rfl⟩
  rw [← hbx, ← hyb] at F
  go_wp2_with fail
  rw [← hW, ← hbx, ← hyb]
  clear hW hbx hyb
  refine (pick_calls d hd1 hd2 _).mono ?_
  rintro e w3 ⟨rfl, rfl⟩
  rw [HP.out]
  obtain ⟨x0, x1, y0, y1, i0, i1, f0, f1, s1, s2, s3, n1, n2, lo, bl⟩ := F
  go_wp2_with fail
  refine (hsqrt_below va h0 _).mono ?_
  rintro e w4 ⟨rfl, hw4⟩
  have F : C3 w w4 bx yb (yb + 1) (.float .f32 (pt a)) (.float .f32 (pt b)) (.float .f32 0) (.float .f32 0) := C3.step ⟨x0, x1, y0, y1, i0, i1, f0, f1, s1, s2, s3, n1, n2, lo, bl⟩ hw4
  clear hw4 x0 x1 y0 y1 i0 i1 f0 f1 s1 s2 s3 n1 n2 lo bl
  have G := F.put (.float .f32 0) (.float .f32 0)
  obtain ⟨x0, x1, y0, y1, i0, i1, f0, f1, s1, s2, s3, n1, n2, lo, bl⟩ := F
  go_wp2_with fail
  clear x0 x1 y0 y1 i0 i1 f0 f1 s1 s2 s3 n1 n2 lo bl
  obtain ⟨x0, x1, y0, y1, i0, i1, f0, f1, s1, s2, s3, n1, n2, lo, bl⟩ := G
  refine (known_calls _).mono ?_
  rintro e w5 ⟨rfl, hw5⟩
  have F : C3 w w5 bx yb (yb + 1) (.float .f32 (pt a)) (.float .f32 (pt b)) (.float .f32 0) (.float .f32 0) := C3.step ⟨x0, x1, y0, y1, i0, i1, f0, f1, s1, s2, s3, n1, n2, lo, bl⟩ hw5
  clear hw5 x0 x1 y0 y1 i0 i1 f0 f1 s1 s2 s3 n1 n2 lo bl
  obtain ⟨x0, x1, y0, y1, i0, i1, f0, f1, s1, s2, s3, n1, n2, lo, bl⟩ := F
  go_wp2_with fail
  refine (step0 _).mono ?_
  rintro e w6 ⟨rfl, hw6⟩
  have F : C3 w w6 bx yb (yb + 1) (.float .f32 (pt a)) (.float .f32 (pt b)) (.float .f32 0) (.float .f32 0) := C3.step ⟨x0, x1, y0, y1, i0, i1, f0, f1, s1, s2, s3, n1, n2, lo, bl⟩ hw6
  clear hw6 x0 x1 y0 y1 i0 i1 f0 f1 s1 s2 s3 n1 n2 lo bl
  obtain ⟨x0, x1, y0, y1, i0, i1, f0, f1, s1, s2, s3, n1, n2, lo, bl⟩ := F
  go_wp2_with fail
  refine (kis_calls hiv _).mono ?_
  rintro e w7 ⟨rfl, hw7⟩
  have F : C3 w w7 bx yb (yb + 1) (.float .f32 (pt a)) (.float .f32 (pt b)) (.float .f32 0) (.float .f32 0) := C3.step ⟨x0, x1, y0, y1, i0, i1, f0, f1, s1, s2, s3, n1, n2, lo, bl⟩ hw7
  clear hw7 x0 x1 y0 y1 i0 i1 f0 f1 s1 s2 s3 n1 n2 lo bl
  obtain ⟨x0, x1, y0, y1, i0, i1, f0, f1, s1, s2, s3, n1, n2, lo, bl⟩ := F
  go_wp2_with fail
  refine (pick_calls d hd1 hd2 _).mono ?_
  rintro e w8 ⟨rfl, rfl⟩
  rw [HP.out]
  go_wp2_with (go_at_call 11; refine (pick_calls d hd1 hd2 _).mono ?_; rintro e w9 ⟨rfl, rfl⟩; rw [HP.out])
  go_ret
  exact ⟨rfl, bl⟩

theorem near_walk (d : Int) (a b : Nat) (hd1 : -9223372036854775808 ≤ d) (hd2 : d ≤ 9223372036854775807) (ha : a < 4294967296) (hb : b < 4294967296) (w : World) :
    Calls Try.prog 5 #[.int .i64 d, .int .u32 a, .int .u32 b] w fun e w' => e = .returned (.bool true) ∧ Below w.heap.size w w' := by
  obtain ⟨p0, p4⟩ := pick5_range d
  by_cases h0 : pick5 d = 0
  · exact near_add d a b hd1 hd2 ha hb h0 w
  by_cases h1 : pick5 d = 1
  · exact near_sub d a b hd1 hd2 ha hb h1 w
  by_cases h2 : pick5 d = 2
  · exact near_mul d a b hd1 hd2 ha hb h2 w
  by_cases h3 : pick5 d = 3
  · by_cases hz : i32 (pt b) = 0
    · exact near_div0 d a b hd1 hd2 ha hb h3 hz w
    · exact near_div d a b hd1 hd2 ha hb h3 hz w
  have h4 : pick5 d = 4 := by omega
  by_cases hz : i32 (pt a) < 0
  · exact near_sqrt0 d a b hd1 hd2 ha hb h4 hz w
  · exact near_sqrt d a b hd1 hd2 ha hb h4 (by omega) w
end Go.Proofs.Ytakpfdhopodleaa
