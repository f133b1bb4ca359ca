import Derived.Test.YtakpfdhopodleaaCodeI
namespace Go.Proofs.Ytakpfdhopodleaa
open Go.ChangeShapes Go.WideShapes Go.ChangeAt Go.RowKit Hedge
set_option linter.unusedSimpArgs false
set_option linter.unusedVariables false

theorem dn64_mono {i j : Int} (h : i ≤ j) (h1 : -J ≤ i) (h2 : j ≤ J) : dn64 i ≤ dn64 j := by
  obtain ⟨a, b, c⟩ := dn64_spec i
  obtain ⟨a', b', c'⟩ := dn64_spec j
  apply (c' _ a b).1
  have := (c _ a b).2 (Int.le_refl _)
  rcases this with h3 | h3 | ⟨h3, h4, h5⟩
  · exact Or.inl h3
  · exact Or.inr (Or.inl (by omega))
  · by_cases hj : j = J
    · exact Or.inr (Or.inl hj)
    · exact Or.inr (Or.inr ⟨h3, by omega, Int.le_trans h5 (v64_le.2 h)⟩)
theorem up64_mono {i j : Int} (h : i ≤ j) (h1 : -J ≤ i) (h2 : j ≤ J) : up64 i ≤ up64 j := by
  have := dn64_mono (i := -j) (j := -i) (by omega) (by omega) (by omega)
  unfold up64; omega

def min4 (a b c d : Int) : Int := min (min (min a b) c) d
def max4 (a b c d : Int) : Int := max (max (max a b) c) d
theorem dn_min2 {i j : Int} (h1 : -J ≤ i) (h2 : i ≤ J) (h3 : -J ≤ j) (h4 : j ≤ J) : dn64 (min i j) = min (dn64 i) (dn64 j) := by
  rcases Int.le_total i j with h | h
  · have := dn64_mono h h1 h4; rw [Int.min_eq_left h, Int.min_eq_left this]
  · have := dn64_mono h h3 h2; rw [Int.min_eq_right h, Int.min_eq_right this]
theorem up_max2 {i j : Int} (h1 : -J ≤ i) (h2 : i ≤ J) (h3 : -J ≤ j) (h4 : j ≤ J) : up64 (max i j) = max (up64 i) (up64 j) := by
  rcases Int.le_total i j with h | h
  · have := up64_mono h h1 h4; rw [Int.max_eq_right h, Int.max_eq_right this]
  · have := up64_mono h h3 h2; rw [Int.max_eq_left h, Int.max_eq_left this]
theorem dn_min4 {a p q r : Nat} (ha : Num64 a) (hp : Num64 p) (hq : Num64 q) (hr : Num64 r) : dn64 (minL a [p, q, r]) = min4 (dn64 (i64 a)) (dn64 (i64 p)) (dn64 (i64 q)) (dn64 (i64 r)) := by
  obtain ⟨a1, a2⟩ := i64_range ha
  obtain ⟨p1, p2⟩ := i64_range hp
  obtain ⟨q1, q2⟩ := i64_range hq
  obtain ⟨r1, r2⟩ := i64_range hr
  show dn64 (min (min (min (i64 a) (i64 p)) (i64 q)) (i64 r)) = _
  unfold min4
  rw [dn_min2 (by omega) (by omega) r1 r2, dn_min2 (by omega) (by omega) q1 q2, dn_min2 a1 a2 p1 p2]
theorem up_max4 {a p q r : Nat} (ha : Num64 a) (hp : Num64 p) (hq : Num64 q) (hr : Num64 r) : up64 (maxL a [p, q, r]) = max4 (up64 (i64 a)) (up64 (i64 p)) (up64 (i64 q)) (up64 (i64 r)) := by
  obtain ⟨a1, a2⟩ := i64_range ha
  obtain ⟨p1, p2⟩ := i64_range hp
  obtain ⟨q1, q2⟩ := i64_range hq
  obtain ⟨r1, r2⟩ := i64_range hr
  show up64 (max (max (max (i64 a) (i64 p)) (i64 q)) (i64 r)) = _
  unfold max4
  rw [up_max2 (by omega) (by omega) r1 r2, up_max2 (by omega) (by omega) q1 q2, up_max2 a1 a2 p1 p2]
theorem dn_min1 {a p : Nat} (ha : Num64 a) (hp : Num64 p) : dn64 (minL a [p]) = min (dn64 (i64 a)) (dn64 (i64 p)) := by
  obtain ⟨a1, a2⟩ := i64_range ha
  obtain ⟨p1, p2⟩ := i64_range hp
  exact dn_min2 a1 a2 p1 p2
theorem up_max1 {a p : Nat} (ha : Num64 a) (hp : Num64 p) : up64 (maxL a [p]) = max (up64 (i64 a)) (up64 (i64 p)) := by
  obtain ⟨a1, a2⟩ := i64_range ha
  obtain ⟨p1, p2⟩ := i64_range hp
  exact up_max2 a1 a2 p1 p2

theorem product_hid {x y : Nat} (hx : Num32 x) (hy : Num32 y) (w : World) :
    Calls Try.prog 44 #[.float .f32 x, .float .f32 y] w fun r w' => ∃ p, r = .returned (.float .f64 p) ∧ Num64 p ∧ Hid (dn64 (i64 p) = mulD (i32 x) (i32 y)) ∧ Hid (up64 (i64 p) = mulU (i32 x) (i32 y)) ∧ w' = w := product_calls hx hy w
theorem quotient_hid {x y : Nat} (hx : Num32 x) (hy : Num32 y) (hy0 : i32 y ≠ 0) (w : World) :
    Calls Try.prog 46 #[.float .f32 x, .float .f32 y] w fun r w' => ∃ p, r = .returned (.float .f64 p) ∧ Num64 p ∧ Hid (dn64 (i64 p) = divD (i32 x) (i32 y)) ∧ Hid (up64 (i64 p) = divU (i32 x) (i32 y)) ∧ w' = w := quotient_calls hx hy hy0 w
theorem root_hid {x : Nat} (hx : Num32 x) (hx0 : 0 ≤ i32 x) (w : World) :
    Calls Try.prog 47 #[.float .f32 x] w fun r w' => ∃ p, r = .returned (.float .f64 p) ∧ Num64 p ∧ Hid (dn64 (i64 p) = sqD (i32 x)) ∧ Hid (up64 (i64 p) = sqU (i32 x)) ∧ w' = w := root_calls hx hx0 w

theorem below_up (w : World) (C D E : Obj) : Below w.heap.size w ((((w.alloc C).alloc D).alloc E).drew) := (below3 w C D E).drew
theorem cells4 (w : World) (fa fb fc fd : Value) (T1 T2 : TypeId) :
    ((w.alloc (.cells #[fa, fb] T1)).alloc (.cells #[fc, fd] T2)).cell? ⟨w.heap.size, 0, none⟩ = some fa ∧ ((w.alloc (.cells #[fa, fb] T1)).alloc (.cells #[fc, fd] T2)).cell? ⟨w.heap.size, 1, none⟩ = some fb ∧
    ((w.alloc (.cells #[fa, fb] T1)).alloc (.cells #[fc, fd] T2)).cell? ⟨w.heap.size + 1, 0, none⟩ = some fc ∧ ((w.alloc (.cells #[fa, fb] T1)).alloc (.cells #[fc, fd] T2)).cell? ⟨w.heap.size + 1, 1, none⟩ = some fd := by
  refine ⟨by simp [go_sem], by simp [go_sem], by simp [go_sem], by simp [go_sem]⟩
theorem keep5 (w : World) (fa fb fc fd : Value) (T1 T2 : TypeId) (C D E : Obj) :
    (((((w.alloc (.cells #[fa, fb] T1)).alloc (.cells #[fc, fd] T2)).alloc C).alloc D).alloc E).drew.cell? ⟨w.heap.size, 0, none⟩ = some fa ∧
    (((((w.alloc (.cells #[fa, fb] T1)).alloc (.cells #[fc, fd] T2)).alloc C).alloc D).alloc E).drew.cell? ⟨w.heap.size, 1, none⟩ = some fb ∧
    (((((w.alloc (.cells #[fa, fb] T1)).alloc (.cells #[fc, fd] T2)).alloc C).alloc D).alloc E).drew.cell? ⟨w.heap.size + 1, 0, none⟩ = some fc ∧
    (((((w.alloc (.cells #[fa, fb] T1)).alloc (.cells #[fc, fd] T2)).alloc C).alloc D).alloc E).drew.cell? ⟨w.heap.size + 1, 1, none⟩ = some fd := by
  obtain ⟨c1, c2, c3, c4⟩ := cells4 w fa fb fc fd T1 T2
  have hb := below_up ((w.alloc (.cells #[fa, fb] T1)).alloc (.cells #[fc, fd] T2)) C D E
  refine ⟨?_, ?_, ?_, ?_⟩
  · rw [hb.cell (by simp; omega)]; exact c1
  · rw [hb.cell (by simp; omega)]; exact c2
  · rw [hb.cell (by simp)]; exact c3
  · rw [hb.cell (by simp)]; exact c4

set_option maxHeartbeats 1000000 in
theorem smul_calls {a b c d : Nat} (h1 : Iv a b) (h2 : Iv c d) (w : World) :
    Calls Try.prog 29 #[.agg #[.float .f32 a, .float .f32 b], .agg #[.float .f32 c, .float .f32 d]] w fun e w' =>
      e = .returned (.agg #[.float .f32 (w32 (min4 (mulD (i32 a) (i32 c)) (mulD (i32 a) (i32 d)) (mulD (i32 b) (i32 c)) (mulD (i32 b) (i32 d)))),
        .float .f32 (w32 (max4 (mulU (i32 a) (i32 c)) (mulU (i32 a) (i32 d)) (mulU (i32 b) (i32 c)) (mulU (i32 b) (i32 d))))]) ∧ Below w.heap.size w w' := by
  obtain ⟨a1, b1, _, al, bh⟩ := h1
  obtain ⟨c1, d1, _, cl, dh⟩ := h2
  clear al bh cl dh
  go_enter Try.func29, Try.ntmps29
  go_wp2_with fail
  go_region_held3 (fun w' => w'.cell? ⟨w.heap.size, 0, none⟩ = some (.float .f32 a) ∧ w'.cell? ⟨w.heap.size, 1, none⟩ = some (.float .f32 b) ∧ w'.cell? ⟨w.heap.size + 1, 0, none⟩ = some (.float .f32 c) ∧ w'.cell? ⟨w.heap.size + 1, 1, none⟩ = some (.float .f32 d)) (first | (go_keep; done) | exact keep5 _ _ _ _ _ _ _ _ _ _)
    (first
      | (go_at_call_of 44 (Value.float FloatKind.f32 a); go_at_call_of 44 (Value.float FloatKind.f32 c); refine (product_hid a1 c1 _).mono ?_; rintro e w' ⟨p1, rfl, n1, l1, u1, rfl⟩)
      | (go_at_call_of 44 (Value.float FloatKind.f32 a); go_at_call_of 44 (Value.float FloatKind.f32 d); refine (product_hid a1 d1 _).mono ?_; rintro e w' ⟨p2, rfl, n2, l2, u2, rfl⟩)
      | (go_at_call_of 44 (Value.float FloatKind.f32 b); go_at_call_of 44 (Value.float FloatKind.f32 c); refine (product_hid b1 c1 _).mono ?_; rintro e w' ⟨p3, rfl, n3, l3, u3, rfl⟩)
      | (go_at_call_of 44 (Value.float FloatKind.f32 b); go_at_call_of 44 (Value.float FloatKind.f32 d); refine (product_hid b1 d1 _).mono ?_; rintro e w' ⟨p4, rfl, n4, l4, u4, rfl⟩)
      | (go_at_call 43; refine (around3 n1 n2 n3 n4 ?_ ?_ ?_).mono ?_; (simp [go_sem]); (simp [go_sem]); (simp [go_sem]); rintro e w' ⟨rfl, rfl⟩))
  go_wp2
  refine bodyPost_ret (v := .agg #[.float .f32 (w32 (dn64 (minL p1 [p2, p3, p4]))), .float .f32 (w32 (up64 (maxL p1 [p2, p3, p4])))]) (by simp [results, Try.results29, go_sem]) rfl ⟨?_, ?_⟩
  · rw [dn_min4 n1 n2 n3 n4, up_max4 n1 n2 n3 n4, l1.out, l2.out, l3.out, l4.out, u1.out, u2.out, u3.out, u4.out]
  · exact (below5 w _ _ _ _ _).drew

theorem hz_yes {c d : Nat} (c1 : Num32 c) (d1 : Num32 d) (h1 : i32 c ≤ 0) (h2 : 0 ≤ i32 d) (w : World) :
    Calls Try.prog 45 #[.agg #[.float .f32 c, .float .f32 d]] w fun e w' => e = .returned (.bool true) ∧ w' = w.alloc (.cells #[.float .f32 c, .float .f32 d] 28) := by
  have o1 := leB c1 n_zero (by rw [i_zero]; exact h1)
  have o2 := geB d1 n_zero (by rw [i_zero]; exact h2)
  go_enter Try.func45, Try.ntmps45
  go_wp2
  go_ret
  exact ⟨rfl, rfl⟩
theorem hz_no {c d : Nat} (c1 : Num32 c) (d1 : Num32 d) (h : 0 < i32 c ∨ i32 d < 0) (w : World) :
    Calls Try.prog 45 #[.agg #[.float .f32 c, .float .f32 d]] w fun e w' => e = .returned (.bool false) ∧ w' = w.alloc (.cells #[.float .f32 c, .float .f32 d] 28) := by
  by_cases hc : 0 < i32 c
  · have o1 := o32_gt c1 n_zero (by rw [i_zero]; exact hc)
    go_enter Try.func45, Try.ntmps45
    go_wp2
    go_ret
    exact ⟨rfl, rfl⟩
  · have o1 := leB c1 n_zero (by rw [i_zero]; omega)
    have o2 := o32_lt d1 n_zero (by rw [i_zero]; omega)
    clear h hc
    go_enter Try.func45, Try.ntmps45
    go_wp2
    go_ret
    exact ⟨rfl, rfl⟩
end Go.Proofs.Ytakpfdhopodleaa
