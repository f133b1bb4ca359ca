import Derived.Test.YtakpfdhopodleaaCodeJ
namespace Go.Proofs.Ytakpfdhopodleaa
open Go.ChangeShapes Go.WideShapes Go.ChangeAt Go.RowKit Hedge
set_option linter.unusedSimpArgs false
set_option linter.unusedVariables false

theorem below6 (w : World) (A B C D E F : Obj) : Below w.heap.size w ((((((w.alloc A).alloc B).alloc C).alloc D).alloc E).alloc F) := (below5 w A B C D E).alloc (by simp; omega) _

theorem sdiv_zero {a b c d : Nat} (h1 : Iv a b) (h2 : Iv c d) (hz : i32 c ≤ 0 ∧ 0 ≤ i32 d) (w : World) :
    Calls Try.prog 30 #[.agg #[.float .f32 a, .float .f32 b], .agg #[.float .f32 c, .float .f32 d]] w fun e w' =>
      e = .returned (.tuple #[.agg #[.float .f32 0, .float .f32 0], .int .i64 2]) ∧ Below w.heap.size w w' := by
  obtain ⟨c1, d1, _, cl, dh⟩ := h2
  clear h1
  go_enter Try.func30, Try.ntmps30
  go_wp2_with (go_at_call 45; refine (hz_yes c1 d1 hz.1 hz.2 _).mono ?_; rintro e w1 ⟨rfl, rfl⟩)
  refine bodyPost_ret (v := .tuple #[.agg #[.float .f32 0, .float .f32 0], .int .i64 2]) (by simp [results, Try.results30, go_sem]) rfl ⟨rfl, ?_⟩
  exact below4 w _ _ _ _

theorem keep6 (w : World) (fa fb fc fd : Value) (T1 T2 : TypeId) (C D E F : Obj) :
    ((((((w.alloc (.cells #[fa, fb] T1)).alloc (.cells #[fc, fd] T2)).alloc C).alloc D).alloc E).alloc F).drew.cell? ⟨w.heap.size, 0, none⟩ = some fa ∧
    ((((((w.alloc (.cells #[fa, fb] T1)).alloc (.cells #[fc, fd] T2)).alloc C).alloc D).alloc E).alloc F).drew.cell? ⟨w.heap.size, 1, none⟩ = some fb ∧
    ((((((w.alloc (.cells #[fa, fb] T1)).alloc (.cells #[fc, fd] T2)).alloc C).alloc D).alloc E).alloc F).drew.cell? ⟨w.heap.size + 1, 0, none⟩ = some fc ∧
    ((((((w.alloc (.cells #[fa, fb] T1)).alloc (.cells #[fc, fd] T2)).alloc C).alloc D).alloc E).alloc F).drew.cell? ⟨w.heap.size + 1, 1, none⟩ = some fd := by
  obtain ⟨c1, c2, c3, c4⟩ := cells4 w fa fb fc fd T1 T2
  have hb := (below4 ((w.alloc (.cells #[fa, fb] T1)).alloc (.cells #[fc, fd] T2)) C D E F).drew
  refine ⟨?_, ?_, ?_, ?_⟩
  · rw [hb.cell (by simp; omega)]; exact c1
  · rw [hb.cell (by simp; omega)]; exact c2
  · rw [hb.cell (by simp)]; exact c3
  · rw [hb.cell (by simp)]; exact c4

theorem keep4 (w : World) (fa fb fc fd : Value) (T1 T2 : TypeId) (C D : Obj) :
    ((((w.alloc (.cells #[fa, fb] T1)).alloc (.cells #[fc, fd] T2)).alloc C).alloc D).cell? ⟨w.heap.size, 0, none⟩ = some fa ∧
    ((((w.alloc (.cells #[fa, fb] T1)).alloc (.cells #[fc, fd] T2)).alloc C).alloc D).cell? ⟨w.heap.size, 1, none⟩ = some fb ∧
    ((((w.alloc (.cells #[fa, fb] T1)).alloc (.cells #[fc, fd] T2)).alloc C).alloc D).cell? ⟨w.heap.size + 1, 0, none⟩ = some fc ∧
    ((((w.alloc (.cells #[fa, fb] T1)).alloc (.cells #[fc, fd] T2)).alloc C).alloc D).cell? ⟨w.heap.size + 1, 1, none⟩ = some fd := by
  obtain ⟨c1, c2, c3, c4⟩ := cells4 w fa fb fc fd T1 T2
  have hb := below2 ((w.alloc (.cells #[fa, fb] T1)).alloc (.cells #[fc, fd] T2)) C D
  refine ⟨?_, ?_, ?_, ?_⟩
  · rw [hb.cell (by simp; omega)]; exact c1
  · rw [hb.cell (by simp; omega)]; exact c2
  · rw [hb.cell (by simp)]; exact c3
  · rw [hb.cell (by simp)]; exact c4
theorem keepR (w : World) (x y : Value) (T : TypeId) (D : Obj) :
    ((w.alloc (.cells #[x, y] T)).alloc D).cell? ⟨w.heap.size, 0, none⟩ = some x ∧ ((w.alloc (.cells #[x, y] T)).alloc D).cell? ⟨w.heap.size, 1, none⟩ = some y ∧
    ((w.alloc (.cells #[x, y] T)).alloc D).frozen? ⟨w.heap.size, 0, none⟩ = false ∧ ((w.alloc (.cells #[x, y] T)).alloc D).frozen? ⟨w.heap.size, 1, none⟩ = false := by
  have hb := (Below.refl _ (w.alloc (.cells #[x, y] T))).alloc (Nat.le_refl _) D
  refine ⟨?_, ?_, ?_, ?_⟩
  · rw [hb.cell (by simp)]; simp [go_sem]
  · rw [hb.cell (by simp)]; simp [go_sem]
  · rw [hb.frozen (by simp)]; simp [go_sem]
  · rw [hb.frozen (by simp)]; simp [go_sem]

set_option maxHeartbeats 1000000 in
theorem sdiv_calls {a b c d : Nat} (h1 : Iv a b) (h2 : Iv c d) (hz : 0 < i32 c ∨ i32 d < 0) (w : World) :
    Calls Try.prog 30 #[.agg #[.float .f32 a, .float .f32 b], .agg #[.float .f32 c, .float .f32 d]] w fun e w' =>
      e = .returned (.tuple #[.agg #[.float .f32 (w32 (min4 (divD (i32 a) (i32 c)) (divD (i32 a) (i32 d)) (divD (i32 b) (i32 c)) (divD (i32 b) (i32 d)))),
        .float .f32 (w32 (max4 (divU (i32 a) (i32 c)) (divU (i32 a) (i32 d)) (divU (i32 b) (i32 c)) (divU (i32 b) (i32 d))))], .int .i64 0]) ∧ Below w.heap.size w w' := by
  obtain ⟨a1, b1, _, al, bh⟩ := h1
  obtain ⟨c1, d1, le, cl, dh⟩ := h2
  have c0 : i32 c ≠ 0 := by omega
  have d0 : i32 d ≠ 0 := by omega
  clear al bh cl dh le
  go_enter Try.func30, Try.ntmps30
  go_wp2_with fail
  refine (hz_no c1 d1 hz _).mono ?_
  rintro e w1 ⟨rfl, hw1⟩
  obtain ⟨k0, k1, k2, k3⟩ := keep4 w (.float .f32 a) (.float .f32 b) (.float .f32 c) (.float .f32 d) 28 28 (.cells #[.float .f32 0, .float .f32 0] 28) (.cells #[.float .f32 c, .float .f32 d] 28)
  obtain ⟨r0, r1, r2, r3⟩ := keepR ((w.alloc (.cells #[.float .f32 a, .float .f32 b] 28)).alloc (.cells #[.float .f32 c, .float .f32 d] 28)) (.float .f32 0) (.float .f32 0) 28 (.cells #[.float .f32 c, .float .f32 d] 28)
  have hbl := below4 w (.cells #[.float .f32 a, .float .f32 b] 28) (.cells #[.float .f32 c, .float .f32 d] 28) (.cells #[.float .f32 0, .float .f32 0] 28) (.cells #[.float .f32 c, .float .f32 d] 28)
  have hsz : w.heap.size + 3 < w1.heap.size := by rw [hw1]; simp
  rw [← hw1] at k0 k1 k2 k3 r0 r1 r2 r3 hbl
  simp only [World.size_alloc] at r0 r1 r2 r3
  have R0 : ∀ X Y : Obj, ((w1.alloc X).alloc Y).cell? ⟨w.heap.size + 1 + 1, 0, none⟩ = some (.float .f32 0) := fun X Y => by rw [(below2 w1 X Y).cell (by simp; omega)]; exact r0
  have R1 : ∀ X Y : Obj, ((w1.alloc X).alloc Y).cell? ⟨w.heap.size + 1 + 1, 1, none⟩ = some (.float .f32 0) := fun X Y => by rw [(below2 w1 X Y).cell (by simp; omega)]; exact r1
  have R2 : ∀ X Y : Obj, ((w1.alloc X).alloc Y).frozen? ⟨w.heap.size + 1 + 1, 0, none⟩ = false := fun X Y => by rw [(below2 w1 X Y).frozen (by simp; omega)]; exact r2
  have R3 : ∀ X Y : Obj, ((w1.alloc X).alloc Y).frozen? ⟨w.heap.size + 1 + 1, 1, none⟩ = false := fun X Y => by rw [(below2 w1 X Y).frozen (by simp; omega)]; exact r3
  clear hw1 r0 r1 r2 r3
  have ne1 : ¬ (w.heap.size = w.heap.size + 1 + 1) := by omega
  have ne2 : ¬ (w.heap.size + 1 + 1 = w.heap.size) := by omega
  go_wp2_with fail
  go_region_held3 (fun w' => w'.cell? ⟨w.heap.size, 0, none⟩ = some (.float .f32 a) ∧ w'.cell? ⟨w.heap.size, 1, none⟩ = some (.float .f32 b) ∧ w'.cell? ⟨w.heap.size + 1, 0, none⟩ = some (.float .f32 c) ∧ w'.cell? ⟨w.heap.size + 1, 1, none⟩ = some (.float .f32 d)) (go_keep)
    (first
      | (go_at_call_of 46 (Value.float FloatKind.f32 a); go_at_call_of 46 (Value.float FloatKind.f32 c); refine (quotient_hid a1 c1 c0 _).mono ?_; rintro e w' ⟨p1, rfl, n1, l1, u1, rfl⟩)
      | (go_at_call_of 46 (Value.float FloatKind.f32 a); go_at_call_of 46 (Value.float FloatKind.f32 d); refine (quotient_hid a1 d1 d0 _).mono ?_; rintro e w' ⟨p2, rfl, n2, l2, u2, rfl⟩)
      | (go_at_call_of 46 (Value.float FloatKind.f32 b); go_at_call_of 46 (Value.float FloatKind.f32 c); refine (quotient_hid b1 c1 c0 _).mono ?_; rintro e w' ⟨p3, rfl, n3, l3, u3, rfl⟩)
      | (go_at_call_of 46 (Value.float FloatKind.f32 b); go_at_call_of 46 (Value.float FloatKind.f32 d); refine (quotient_hid b1 d1 d0 _).mono ?_; rintro e w' ⟨p4, rfl, n4, l4, u4, rfl⟩)
      | (go_at_call 43; refine (around3 n1 n2 n3 n4 ?_ ?_ ?_).mono ?_; (simp [go_sem]); (simp [go_sem]); (simp [go_sem]); rintro e w' ⟨rfl, rfl⟩))
  go_wp2
  refine bodyPost_ret (v := .tuple #[.agg #[.float .f32 (w32 (dn64 (minL p1 [p2, p3, p4]))), .float .f32 (w32 (up64 (maxL p1 [p2, p3, p4])))], .int .i64 0]) (by simp [results, Try.results30, go_sem, R0, R1]) rfl ⟨?_, ?_⟩
  · rw [dn_min4 n1 n2 n3 n4, up_max4 n1 n2 n3 n4, l1.out, l2.out, l3.out, l4.out, u1.out, u2.out, u3.out, u4.out]
  · exact ((((hbl.alloc (by omega) _).alloc (by simp; omega) _).setCell (p := ⟨w.heap.size + 1 + 1, 0, none⟩) (by show w.heap.size ≤ w.heap.size + 1 + 1; omega) _).setCell (p := ⟨w.heap.size + 1 + 1, 1, none⟩) (by show w.heap.size ≤ w.heap.size + 1 + 1; omega) _).drew

theorem ssqrt_below {a b : Nat} (h1 : Iv a b) (hz : i32 a < 0) (w : World) :
    Calls Try.prog 31 #[.agg #[.float .f32 a, .float .f32 b]] w fun e w' =>
      e = .returned (.tuple #[.agg #[.float .f32 0, .float .f32 0], .int .i64 3]) ∧ Below w.heap.size w w' := by
  have o1 := o32_lt h1.n1 n_zero (by rw [i_zero]; exact hz)
  clear h1 hz
  go_enter Try.func31, Try.ntmps31
  go_wp2
  refine bodyPost_ret (v := .tuple #[.agg #[.float .f32 0, .float .f32 0], .int .i64 3]) (by simp [results, Try.results31, go_sem]) rfl ⟨rfl, ?_⟩
  exact below2 w _ _

theorem ltB_no {x : Nat} (h : Num32 x) (h0 : 0 ≤ i32 x) : (F32.order x 0 == some .lt) = false := by
  rcases Int.lt_or_eq_of_le h0 with h1 | h1
  · rw [o32_gt h n_zero (by rw [i_zero]; exact h1)]; rfl
  · rw [o32_eq h n_zero (by rw [i_zero]; exact h1.symm)]; rfl

theorem keepS (w : World) (fa fb : Value) (T1 : TypeId) (C D E : Obj) :
    ((((w.alloc (.cells #[fa, fb] T1)).alloc C).alloc D).alloc E).drew.cell? ⟨w.heap.size, 0, none⟩ = some fa ∧
    ((((w.alloc (.cells #[fa, fb] T1)).alloc C).alloc D).alloc E).drew.cell? ⟨w.heap.size, 1, none⟩ = some fb := by
  have hb := (below3 (w.alloc (.cells #[fa, fb] T1)) C D E).drew
  refine ⟨?_, ?_⟩
  · rw [hb.cell (by simp)]; simp [go_sem]
  · rw [hb.cell (by simp)]; simp [go_sem]

set_option maxHeartbeats 1000000 in
theorem ssqrt_calls {a b : Nat} (h1 : Iv a b) (hz : 0 ≤ i32 a) (w : World) :
    Calls Try.prog 31 #[.agg #[.float .f32 a, .float .f32 b]] w fun e w' =>
      e = .returned (.tuple #[.agg #[.float .f32 (w32 (min (sqD (i32 a)) (sqD (i32 b)))), .float .f32 (w32 (max (sqU (i32 a)) (sqU (i32 b))))], .int .i64 0]) ∧ Below w.heap.size w w' := by
  obtain ⟨a1, b1, le, al, bh⟩ := h1
  have o1 := ltB_no a1 hz
  have hb0 : 0 ≤ i32 b := by omega
  clear le al bh
  go_enter Try.func31, Try.ntmps31
  go_wp2_with fail
  go_region_held3 (fun w' => w'.cell? ⟨w.heap.size, 0, none⟩ = some (.float .f32 a) ∧ w'.cell? ⟨w.heap.size, 1, none⟩ = some (.float .f32 b)) (first | (go_keep; done) | exact keepS _ _ _ _ _ _ _)
    (first
      | (go_at_call_of 47 (Value.float FloatKind.f32 a); refine (root_hid a1 hz _).mono ?_; rintro e w' ⟨p1, rfl, n1, l1, u1, rfl⟩)
      | (go_at_call_of 47 (Value.float FloatKind.f32 b); refine (root_hid b1 hb0 _).mono ?_; rintro e w' ⟨p2, rfl, n2, l2, u2, rfl⟩)
      | (go_at_call 43; refine (around1 n1 n2 ?_).mono ?_; (simp [go_sem]); rintro e w' ⟨rfl, rfl⟩))
  go_wp2
  refine bodyPost_ret (v := .tuple #[.agg #[.float .f32 (w32 (dn64 (minL p1 [p2]))), .float .f32 (w32 (up64 (maxL p1 [p2])))], .int .i64 0]) (by simp [results, Try.results31, go_sem]) rfl ⟨?_, ?_⟩
  · rw [dn_min1 n1 n2, up_max1 n1 n2, l1.out, l2.out, u1.out, u2.out]
  · exact (below4 w _ _ _ _).drew
end Go.Proofs.Ytakpfdhopodleaa
