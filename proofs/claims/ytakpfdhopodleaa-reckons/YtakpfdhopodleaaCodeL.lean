import Derived.Test.YtakpfdhopodleaaCodeK
namespace Go.Proofs.Ytakpfdhopodleaa
open Go.ChangeShapes Go.WideShapes Go.ChangeAt Go.RowKit Hedge
set_option linter.unusedSimpArgs false
set_option linter.unusedVariables false

/-- The frame of a call with two intervals: both lie boxed, the result's block behind them. -/
structure Fr (w w1 : World) (fa fb fc fd : Value) : Prop where
  k0 : w1.cell? ⟨w.heap.size, 0, none⟩ = some fa
  k1 : w1.cell? ⟨w.heap.size, 1, none⟩ = some fb
  k2 : w1.cell? ⟨w.heap.size + 1, 0, none⟩ = some fc
  k3 : w1.cell? ⟨w.heap.size + 1, 1, none⟩ = some fd
  r0 : w1.cell? ⟨w.heap.size + 1 + 1, 0, none⟩ = some (.float .f32 0)
  r1 : w1.cell? ⟨w.heap.size + 1 + 1, 1, none⟩ = some (.float .f32 0)
  f0 : w1.frozen? ⟨w.heap.size + 1 + 1, 0, none⟩ = false
  f1 : w1.frozen? ⟨w.heap.size + 1 + 1, 1, none⟩ = false
  sz : w.heap.size + 2 < w1.heap.size
  bl : Below w.heap.size w w1

theorem Fr.init (w : World) (fa fb fc fd : Value) (T1 T2 T3 : TypeId) : Fr w (((w.alloc (.cells #[fa, fb] T1)).alloc (.cells #[fc, fd] T2)).alloc (.cells #[.float .f32 0, .float .f32 0] T3)) fa fb fc fd := by
  obtain ⟨c1, c2, c3, c4⟩ := cells4 w fa fb fc fd T1 T2
  have hb := (Below.refl _ ((w.alloc (.cells #[fa, fb] T1)).alloc (.cells #[fc, fd] T2))).alloc (Nat.le_refl _) (.cells #[.float .f32 0, .float .f32 0] T3)
  refine ⟨?_, ?_, ?_, ?_, by simp [go_sem], by simp [go_sem], by simp [go_sem], by simp [go_sem], by simp, below3 w _ _ _⟩
  · rw [hb.cell (by simp; omega)]; exact c1
  · rw [hb.cell (by simp; omega)]; exact c2
  · rw [hb.cell (by simp)]; exact c3
  · rw [hb.cell (by simp)]; exact c4

theorem Fr.step {w w1 w2 : World} {fa fb fc fd : Value} (h : Fr w w1 fa fb fc fd) (hb : Below w1.heap.size w1 w2) : Fr w w2 fa fb fc fd := by
  have hs := h.sz
  have hz := hb.size
  refine ⟨?_, ?_, ?_, ?_, ?_, ?_, ?_, ?_, by omega, h.bl.trans (hb.mono (by omega))⟩
  · rw [hb.cell (by show w.heap.size < _; omega)]; exact h.k0
  · rw [hb.cell (by show w.heap.size < _; omega)]; exact h.k1
  · rw [hb.cell (by show w.heap.size + 1 < _; omega)]; exact h.k2
  · rw [hb.cell (by show w.heap.size + 1 < _; omega)]; exact h.k3
  · rw [hb.cell (by show w.heap.size + 1 + 1 < _; omega)]; exact h.r0
  · rw [hb.cell (by show w.heap.size + 1 + 1 < _; omega)]; exact h.r1
  · rw [hb.frozen (by show w.heap.size + 1 + 1 < _; omega)]; exact h.f0
  · rw [hb.frozen (by show w.heap.size + 1 + 1 < _; omega)]; exact h.f1

theorem Fr.put {w w1 : World} {fa fb fc fd : Value} (h : Fr w w1 fa fb fc fd) (x y : Value) : Below w.heap.size w ((w1.setCell ⟨w.heap.size + 1 + 1, 0, none⟩ x).setCell ⟨w.heap.size + 1 + 1, 1, none⟩ y) :=
  (h.bl.setCell (p := ⟨w.heap.size + 1 + 1, 0, none⟩) (by show w.heap.size ≤ w.heap.size + 1 + 1; omega) _).setCell (p := ⟨w.heap.size + 1 + 1, 1, none⟩) (by show w.heap.size ≤ w.heap.size + 1 + 1; omega) _

theorem below_alloc1 (w : World) (A : Obj) : Below w.heap.size w (w.alloc A) := (Below.refl _ _).alloc (Nat.le_refl _) _

theorem hadd_ok {a b c d : Nat} (h1 : Iv a b) (h2 : Iv c d) (w : World) :
    Calls Try.prog 12 #[.agg #[.float .f32 a, .float .f32 b], .agg #[.float .f32 c, .float .f32 d]] w fun e w' =>
      e = .returned (.tuple #[.agg #[.float .f32 (w32 (addD (i32 a) (i32 c))), .float .f32 (w32 (addU (i32 b) (i32 d)))], .int .i64 0]) ∧ Below w.heap.size w w' := by
  go_enter Try.func12, Try.ntmps12
  go_wp2_with fail
  refine (is_yes h1 _).mono ?_
  rintro e w1 ⟨rfl, hw1⟩
  have F1 : Fr w w1 (.float .f32 a) (.float .f32 b) (.float .f32 c) (.float .f32 d) := (Fr.init w _ _ _ _ 28 28 28).step (by rw [hw1]; exact below_alloc1 _ _)
  clear hw1
  obtain ⟨k0, k1, k2, k3, r0, r1, f0, f1, sz, bl⟩ := F1
  go_wp2_with fail
  refine (is_yes h2 _).mono ?_
  rintro e w2 ⟨rfl, hw2⟩
  have F2 : Fr w w2 (.float .f32 a) (.float .f32 b) (.float .f32 c) (.float .f32 d) := Fr.step ⟨k0, k1, k2, k3, r0, r1, f0, f1, sz, bl⟩ (by rw [hw2]; exact below_alloc1 _ _)
  clear hw2 k0 k1 k2 k3 r0 r1 f0 f1 sz bl
  obtain ⟨k0, k1, k2, k3, r0, r1, f0, f1, sz, bl⟩ := F2
  go_wp2_with fail
  refine (sadd_calls h1 h2 _).mono ?_
  rintro e w3 ⟨rfl, hw3⟩
  have F3 : Fr w w3 (.float .f32 a) (.float .f32 b) (.float .f32 c) (.float .f32 d) := Fr.step ⟨k0, k1, k2, k3, r0, r1, f0, f1, sz, bl⟩ hw3
  clear hw3 k0 k1 k2 k3 r0 r1 f0 f1 sz bl
  have F4 := F3
  obtain ⟨k0, k1, k2, k3, r0, r1, f0, f1, sz, bl⟩ := F3
  go_wp2_with fail
  exact bodyPost_ret (v := .tuple #[.agg #[.float .f32 (w32 (addD (i32 a) (i32 c))), .float .f32 (w32 (addU (i32 b) (i32 d)))], .int .i64 0]) (by simp [results, Try.results12, go_sem, r0, r1]) rfl ⟨rfl, F4.put _ _⟩
theorem hsub_ok {a b c d : Nat} (h1 : Iv a b) (h2 : Iv c d) (w : World) :
    Calls Try.prog 13 #[.agg #[.float .f32 a, .float .f32 b], .agg #[.float .f32 c, .float .f32 d]] w fun e w' =>
      e = .returned (.tuple #[.agg #[.float .f32 (w32 (addD (i32 a) (-i32 d))), .float .f32 (w32 (addU (i32 b) (-i32 c)))], .int .i64 0]) ∧ Below w.heap.size w w' := by
  go_enter Try.func13, Try.ntmps13
  go_wp2_with fail
  refine (is_yes h1 _).mono ?_
  rintro e w1 ⟨rfl, hw1⟩
  have F1 : Fr w w1 (.float .f32 a) (.float .f32 b) (.float .f32 c) (.float .f32 d) := (Fr.init w _ _ _ _ 28 28 28).step (by rw [hw1]; exact below_alloc1 _ _)
  clear hw1
  obtain ⟨k0, k1, k2, k3, r0, r1, f0, f1, sz, bl⟩ := F1
  go_wp2_with fail
  refine (is_yes h2 _).mono ?_
  rintro e w2 ⟨rfl, hw2⟩
  have F2 : Fr w w2 (.float .f32 a) (.float .f32 b) (.float .f32 c) (.float .f32 d) := Fr.step ⟨k0, k1, k2, k3, r0, r1, f0, f1, sz, bl⟩ (by rw [hw2]; exact below_alloc1 _ _)
  clear hw2 k0 k1 k2 k3 r0 r1 f0 f1 sz bl
  obtain ⟨k0, k1, k2, k3, r0, r1, f0, f1, sz, bl⟩ := F2
  go_wp2_with fail
  refine (ssub_calls h1 h2 _).mono ?_
  rintro e w3 ⟨rfl, hw3⟩
  have F3 : Fr w w3 (.float .f32 a) (.float .f32 b) (.float .f32 c) (.float .f32 d) := Fr.step ⟨k0, k1, k2, k3, r0, r1, f0, f1, sz, bl⟩ hw3
  clear hw3 k0 k1 k2 k3 r0 r1 f0 f1 sz bl
  have F4 := F3
  obtain ⟨k0, k1, k2, k3, r0, r1, f0, f1, sz, bl⟩ := F3
  go_wp2_with fail
  exact bodyPost_ret (v := .tuple #[.agg #[.float .f32 (w32 (addD (i32 a) (-i32 d))), .float .f32 (w32 (addU (i32 b) (-i32 c)))], .int .i64 0]) (by simp [results, Try.results13, go_sem, r0, r1]) rfl ⟨rfl, F4.put _ _⟩
theorem hmul_ok {a b c d : Nat} (h1 : Iv a b) (h2 : Iv c d) (w : World) :
    Calls Try.prog 14 #[.agg #[.float .f32 a, .float .f32 b], .agg #[.float .f32 c, .float .f32 d]] w fun e w' =>
      e = .returned (.tuple #[.agg #[.float .f32 (w32 (min4 (mulD (i32 a) (i32 c)) (mulD (i32 a) (i32 d)) (mulD (i32 b) (i32 c)) (mulD (i32 b) (i32 d)))), .float .f32 (w32 (max4 (mulU (i32 a) (i32 c)) (mulU (i32 a) (i32 d)) (mulU (i32 b) (i32 c)) (mulU (i32 b) (i32 d))))], .int .i64 0]) ∧ Below w.heap.size w w' := by
  go_enter Try.func14, Try.ntmps14
  go_wp2_with fail
  refine (is_yes h1 _).mono ?_
  rintro e w1 ⟨rfl, hw1⟩
  have F1 : Fr w w1 (.float .f32 a) (.float .f32 b) (.float .f32 c) (.float .f32 d) := (Fr.init w _ _ _ _ 28 28 28).step (by rw [hw1]; exact below_alloc1 _ _)
  clear hw1
  obtain ⟨k0, k1, k2, k3, r0, r1, f0, f1, sz, bl⟩ := F1
  go_wp2_with fail
  refine (is_yes h2 _).mono ?_
  rintro e w2 ⟨rfl, hw2⟩
  have F2 : Fr w w2 (.float .f32 a) (.float .f32 b) (.float .f32 c) (.float .f32 d) := Fr.step ⟨k0, k1, k2, k3, r0, r1, f0, f1, sz, bl⟩ (by rw [hw2]; exact below_alloc1 _ _)
  clear hw2 k0 k1 k2 k3 r0 r1 f0 f1 sz bl
  obtain ⟨k0, k1, k2, k3, r0, r1, f0, f1, sz, bl⟩ := F2
  go_wp2_with fail
  refine (smul_calls h1 h2 _).mono ?_
  rintro e w3 ⟨rfl, hw3⟩
  have F3 : Fr w w3 (.float .f32 a) (.float .f32 b) (.float .f32 c) (.float .f32 d) := Fr.step ⟨k0, k1, k2, k3, r0, r1, f0, f1, sz, bl⟩ hw3
  clear hw3 k0 k1 k2 k3 r0 r1 f0 f1 sz bl
  have F4 := F3
  obtain ⟨k0, k1, k2, k3, r0, r1, f0, f1, sz, bl⟩ := F3
  go_wp2_with fail
  exact bodyPost_ret (v := .tuple #[.agg #[.float .f32 (w32 (min4 (mulD (i32 a) (i32 c)) (mulD (i32 a) (i32 d)) (mulD (i32 b) (i32 c)) (mulD (i32 b) (i32 d)))), .float .f32 (w32 (max4 (mulU (i32 a) (i32 c)) (mulU (i32 a) (i32 d)) (mulU (i32 b) (i32 c)) (mulU (i32 b) (i32 d))))], .int .i64 0]) (by simp [results, Try.results14, go_sem, r0, r1]) rfl ⟨rfl, F4.put _ _⟩
theorem hdiv_ok {a b c d : Nat} (h1 : Iv a b) (h2 : Iv c d) (hz : 0 < i32 c ∨ i32 d < 0) (w : World) :
    Calls Try.prog 15 #[.agg #[.float .f32 a, .float .f32 b], .agg #[.float .f32 c, .float .f32 d]] w fun e w' =>
      e = .returned (.tuple #[.agg #[.float .f32 (w32 (min4 (divD (i32 a) (i32 c)) (divD (i32 a) (i32 d)) (divD (i32 b) (i32 c)) (divD (i32 b) (i32 d)))), .float .f32 (w32 (max4 (divU (i32 a) (i32 c)) (divU (i32 a) (i32 d)) (divU (i32 b) (i32 c)) (divU (i32 b) (i32 d))))], .int .i64 0]) ∧ Below w.heap.size w w' := by
  go_enter Try.func15, Try.ntmps15
  go_wp2_with fail
  refine (is_yes h1 _).mono ?_
  rintro e w1 ⟨rfl, hw1⟩
  have F1 : Fr w w1 (.float .f32 a) (.float .f32 b) (.float .f32 c) (.float .f32 d) := (Fr.init w _ _ _ _ 28 28 28).step (by rw [hw1]; exact below_alloc1 _ _)
  clear hw1
  obtain ⟨k0, k1, k2, k3, r0, r1, f0, f1, sz, bl⟩ := F1
  go_wp2_with fail
  refine (is_yes h2 _).mono ?_
  rintro e w2 ⟨rfl, hw2⟩
  have F2 : Fr w w2 (.float .f32 a) (.float .f32 b) (.float .f32 c) (.float .f32 d) := Fr.step ⟨k0, k1, k2, k3, r0, r1, f0, f1, sz, bl⟩ (by rw [hw2]; exact below_alloc1 _ _)
  clear hw2 k0 k1 k2 k3 r0 r1 f0 f1 sz bl
  obtain ⟨k0, k1, k2, k3, r0, r1, f0, f1, sz, bl⟩ := F2
  go_wp2_with fail
  refine (sdiv_calls h1 h2 hz _).mono ?_
  rintro e w3 ⟨rfl, hw3⟩
  have F3 : Fr w w3 (.float .f32 a) (.float .f32 b) (.float .f32 c) (.float .f32 d) := Fr.step ⟨k0, k1, k2, k3, r0, r1, f0, f1, sz, bl⟩ hw3
  clear hw3 k0 k1 k2 k3 r0 r1 f0 f1 sz bl
  have F4 := F3
  obtain ⟨k0, k1, k2, k3, r0, r1, f0, f1, sz, bl⟩ := F3
  go_wp2_with fail
  exact bodyPost_ret (v := .tuple #[.agg #[.float .f32 (w32 (min4 (divD (i32 a) (i32 c)) (divD (i32 a) (i32 d)) (divD (i32 b) (i32 c)) (divD (i32 b) (i32 d)))), .float .f32 (w32 (max4 (divU (i32 a) (i32 c)) (divU (i32 a) (i32 d)) (divU (i32 b) (i32 c)) (divU (i32 b) (i32 d))))], .int .i64 0]) (by simp [results, Try.results15, go_sem, r0, r1]) rfl ⟨rfl, F4.put _ _⟩
theorem hdiv_zero {a b c d : Nat} (h1 : Iv a b) (h2 : Iv c d) (hz : i32 c ≤ 0 ∧ 0 ≤ i32 d) (w : World) :
    Calls Try.prog 15 #[.agg #[.float .f32 a, .float .f32 b], .agg #[.float .f32 c, .float .f32 d]] w fun e w' =>
      e = .returned (.tuple #[.agg #[.float .f32 0, .float .f32 0], (.int .i64 2)]) ∧ Below w.heap.size w w' := by
  go_enter Try.func15, Try.ntmps15
  go_wp2_with fail
  refine (is_yes h1 _).mono ?_
  rintro e w1 ⟨rfl, hw1⟩
  have F1 : Fr w w1 (.float .f32 a) (.float .f32 b) (.float .f32 c) (.float .f32 d) := (Fr.init w _ _ _ _ 28 28 28).step (by rw [hw1]; exact below_alloc1 _ _)
  clear hw1
  obtain ⟨k0, k1, k2, k3, r0, r1, f0, f1, sz, bl⟩ := F1
  go_wp2_with fail
  refine (is_yes h2 _).mono ?_
  rintro e w2 ⟨rfl, hw2⟩
  have F2 : Fr w w2 (.float .f32 a) (.float .f32 b) (.float .f32 c) (.float .f32 d) := Fr.step ⟨k0, k1, k2, k3, r0, r1, f0, f1, sz, bl⟩ (by rw [hw2]; exact below_alloc1 _ _)
  clear hw2 k0 k1 k2 k3 r0 r1 f0 f1 sz bl
  obtain ⟨k0, k1, k2, k3, r0, r1, f0, f1, sz, bl⟩ := F2
  go_wp2_with fail
  refine (sdiv_zero h1 h2 hz _).mono ?_
  rintro e w3 ⟨rfl, hw3⟩
  have F3 : Fr w w3 (.float .f32 a) (.float .f32 b) (.float .f32 c) (.float .f32 d) := Fr.step ⟨k0, k1, k2, k3, r0, r1, f0, f1, sz, bl⟩ hw3
  clear hw3 k0 k1 k2 k3 r0 r1 f0 f1 sz bl
  have F4 := F3
  obtain ⟨k0, k1, k2, k3, r0, r1, f0, f1, sz, bl⟩ := F3
  go_wp2_with fail
  exact bodyPost_ret (v := .tuple #[.agg #[.float .f32 0, .float .f32 0], (.int .i64 2)]) (by simp [results, Try.results15, go_sem, r0, r1]) rfl ⟨rfl, F4.put _ _⟩
theorem hadd_bad {a b c d : Nat} (ha : a < 4294967296) (hb : b < 4294967296) (hc : c < 4294967296) (hd : d < 4294967296) (h : ¬ (Iv a b ∧ Iv c d)) (w : World) :
    Calls Try.prog 12 #[.agg #[.float .f32 a, .float .f32 b], .agg #[.float .f32 c, .float .f32 d]] w fun e w' =>
      e = .returned (.tuple #[.agg #[.float .f32 0, .float .f32 0], .int .i64 1]) ∧ Below w.heap.size w w' := by
  by_cases h1 : Iv a b
  · have h2 : ¬ Iv c d := fun h2 => h ⟨h1, h2⟩
    clear h
    go_enter Try.func12, Try.ntmps12
    go_wp2_with fail
    refine (is_yes h1 _).mono ?_
    rintro e w1 ⟨rfl, hw1⟩
    have F1 : Fr w w1 (.float .f32 a) (.float .f32 b) (.float .f32 c) (.float .f32 d) := (Fr.init w _ _ _ _ 28 28 28).step (by rw [hw1]; exact below_alloc1 _ _)
    clear hw1
    obtain ⟨k0, k1, k2, k3, r0, r1, f0, f1, sz, bl⟩ := F1
    go_wp2_with fail
    refine (is_no hc hd h2 _).mono ?_
    rintro e w2 ⟨rfl, hw2⟩
    have F3 : Fr w w2 (.float .f32 a) (.float .f32 b) (.float .f32 c) (.float .f32 d) := Fr.step ⟨k0, k1, k2, k3, r0, r1, f0, f1, sz, bl⟩ (by rw [hw2]; exact below_alloc1 _ _)
    clear hw2 k0 k1 k2 k3 r0 r1 f0 f1 sz bl
    have F4 := F3
    obtain ⟨k0, k1, k2, k3, r0, r1, f0, f1, sz, bl⟩ := F3
    go_wp2_with fail
    exact bodyPost_ret (v := .tuple #[.agg #[.float .f32 0, .float .f32 0], .int .i64 1]) (by simp [results, Try.results12, go_sem, r0, r1]) rfl ⟨rfl, F4.put _ _⟩
  · clear h
    go_enter Try.func12, Try.ntmps12
    go_wp2_with fail
    refine (is_no ha hb h1 _).mono ?_
    rintro e w1 ⟨rfl, hw1⟩
    have F3 : Fr w w1 (.float .f32 a) (.float .f32 b) (.float .f32 c) (.float .f32 d) := (Fr.init w _ _ _ _ 28 28 28).step (by rw [hw1]; exact below_alloc1 _ _)
    clear hw1
    have F4 := F3
    obtain ⟨k0, k1, k2, k3, r0, r1, f0, f1, sz, bl⟩ := F3
    go_wp2_with fail
    exact bodyPost_ret (v := .tuple #[.agg #[.float .f32 0, .float .f32 0], .int .i64 1]) (by simp [results, Try.results12, go_sem, r0, r1]) rfl ⟨rfl, F4.put _ _⟩

theorem hsub_bad {a b c d : Nat} (ha : a < 4294967296) (hb : b < 4294967296) (hc : c < 4294967296) (hd : d < 4294967296) (h : ¬ (Iv a b ∧ Iv c d)) (w : World) :
    Calls Try.prog 13 #[.agg #[.float .f32 a, .float .f32 b], .agg #[.float .f32 c, .float .f32 d]] w fun e w' =>
      e = .returned (.tuple #[.agg #[.float .f32 0, .float .f32 0], .int .i64 1]) ∧ Below w.heap.size w w' := by
  by_cases h1 : Iv a b
  · have h2 : ¬ Iv c d := fun h2 => h ⟨h1, h2⟩
    clear h
    go_enter Try.func13, Try.ntmps13
    go_wp2_with fail
    refine (is_yes h1 _).mono ?_
    rintro e w1 ⟨rfl, hw1⟩
    have F1 : Fr w w1 (.float .f32 a) (.float .f32 b) (.float .f32 c) (.float .f32 d) := (Fr.init w _ _ _ _ 28 28 28).step (by rw [hw1]; exact below_alloc1 _ _)
    clear hw1
    obtain ⟨k0, k1, k2, k3, r0, r1, f0, f1, sz, bl⟩ := F1
    go_wp2_with fail
    refine (is_no hc hd h2 _).mono ?_
    rintro e w2 ⟨rfl, hw2⟩
    have F3 : Fr w w2 (.float .f32 a) (.float .f32 b) (.float .f32 c) (.float .f32 d) := Fr.step ⟨k0, k1, k2, k3, r0, r1, f0, f1, sz, bl⟩ (by rw [hw2]; exact below_alloc1 _ _)
    clear hw2 k0 k1 k2 k3 r0 r1 f0 f1 sz bl
    have F4 := F3
    obtain ⟨k0, k1, k2, k3, r0, r1, f0, f1, sz, bl⟩ := F3
    go_wp2_with fail
    exact bodyPost_ret (v := .tuple #[.agg #[.float .f32 0, .float .f32 0], .int .i64 1]) (by simp [results, Try.results13, go_sem, r0, r1]) rfl ⟨rfl, F4.put _ _⟩
  · clear h
    go_enter Try.func13, Try.ntmps13
    go_wp2_with fail
    refine (is_no ha hb h1 _).mono ?_
    rintro e w1 ⟨rfl, hw1⟩
    have F3 : Fr w w1 (.float .f32 a) (.float .f32 b) (.float .f32 c) (.float .f32 d) := (Fr.init w _ _ _ _ 28 28 28).step (by rw [hw1]; exact below_alloc1 _ _)
    clear hw1
    have F4 := F3
    obtain ⟨k0, k1, k2, k3, r0, r1, f0, f1, sz, bl⟩ := F3
    go_wp2_with fail
    exact bodyPost_ret (v := .tuple #[.agg #[.float .f32 0, .float .f32 0], .int .i64 1]) (by simp [results, Try.results13, go_sem, r0, r1]) rfl ⟨rfl, F4.put _ _⟩

theorem hmul_bad {a b c d : Nat} (ha : a < 4294967296) (hb : b < 4294967296) (hc : c < 4294967296) (hd : d < 4294967296) (h : ¬ (Iv a b ∧ Iv c d)) (w : World) :
    Calls Try.prog 14 #[.agg #[.float .f32 a, .float .f32 b], .agg #[.float .f32 c, .float .f32 d]] w fun e w' =>
      e = .returned (.tuple #[.agg #[.float .f32 0, .float .f32 0], .int .i64 1]) ∧ Below w.heap.size w w' := by
  by_cases h1 : Iv a b
  · have h2 : ¬ Iv c d := fun h2 => h ⟨h1, h2⟩
    clear h
    go_enter Try.func14, Try.ntmps14
    go_wp2_with fail
    refine (is_yes h1 _).mono ?_
    rintro e w1 ⟨rfl, hw1⟩
    have F1 : Fr w w1 (.float .f32 a) (.float .f32 b) (.float .f32 c) (.float .f32 d) := (Fr.init w _ _ _ _ 28 28 28).step (by rw [hw1]; exact below_alloc1 _ _)
    clear hw1
    obtain ⟨k0, k1, k2, k3, r0, r1, f0, f1, sz, bl⟩ := F1
    go_wp2_with fail
    refine (is_no hc hd h2 _).mono ?_
    rintro e w2 ⟨rfl, hw2⟩
    have F3 : Fr w w2 (.float .f32 a) (.float .f32 b) (.float .f32 c) (.float .f32 d) := Fr.step ⟨k0, k1, k2, k3, r0, r1, f0, f1, sz, bl⟩ (by rw [hw2]; exact below_alloc1 _ _)
    clear hw2 k0 k1 k2 k3 r0 r1 f0 f1 sz bl
    have F4 := F3
    obtain ⟨k0, k1, k2, k3, r0, r1, f0, f1, sz, bl⟩ := F3
    go_wp2_with fail
    exact bodyPost_ret (v := .tuple #[.agg #[.float .f32 0, .float .f32 0], .int .i64 1]) (by simp [results, Try.results14, go_sem, r0, r1]) rfl ⟨rfl, F4.put _ _⟩
  · clear h
    go_enter Try.func14, Try.ntmps14
    go_wp2_with fail
    refine (is_no ha hb h1 _).mono ?_
    rintro e w1 ⟨rfl, hw1⟩
    have F3 : Fr w w1 (.float .f32 a) (.float .f32 b) (.float .f32 c) (.float .f32 d) := (Fr.init w _ _ _ _ 28 28 28).step (by rw [hw1]; exact below_alloc1 _ _)
    clear hw1
    have F4 := F3
    obtain ⟨k0, k1, k2, k3, r0, r1, f0, f1, sz, bl⟩ := F3
    go_wp2_with fail
    exact bodyPost_ret (v := .tuple #[.agg #[.float .f32 0, .float .f32 0], .int .i64 1]) (by simp [results, Try.results14, go_sem, r0, r1]) rfl ⟨rfl, F4.put _ _⟩

theorem hdiv_bad {a b c d : Nat} (ha : a < 4294967296) (hb : b < 4294967296) (hc : c < 4294967296) (hd : d < 4294967296) (h : ¬ (Iv a b ∧ Iv c d)) (w : World) :
    Calls Try.prog 15 #[.agg #[.float .f32 a, .float .f32 b], .agg #[.float .f32 c, .float .f32 d]] w fun e w' =>
      e = .returned (.tuple #[.agg #[.float .f32 0, .float .f32 0], .int .i64 1]) ∧ Below w.heap.size w w' := by
  by_cases h1 : Iv a b
  · have h2 : ¬ Iv c d := fun h2 => h ⟨h1, h2⟩
    clear h
    go_enter Try.func15, Try.ntmps15
    go_wp2_with fail
    refine (is_yes h1 _).mono ?_
    rintro e w1 ⟨rfl, hw1⟩
    have F1 : Fr w w1 (.float .f32 a) (.float .f32 b) (.float .f32 c) (.float .f32 d) := (Fr.init w _ _ _ _ 28 28 28).step (by rw [hw1]; exact below_alloc1 _ _)
    clear hw1
    obtain ⟨k0, k1, k2, k3, r0, r1, f0, f1, sz, bl⟩ := F1
    go_wp2_with fail
    refine (is_no hc hd h2 _).mono ?_
    rintro e w2 ⟨rfl, hw2⟩
    have F3 : Fr w w2 (.float .f32 a) (.float .f32 b) (.float .f32 c) (.float .f32 d) := Fr.step ⟨k0, k1, k2, k3, r0, r1, f0, f1, sz, bl⟩ (by rw [hw2]; exact below_alloc1 _ _)
    clear hw2 k0 k1 k2 k3 r0 r1 f0 f1 sz bl
    have F4 := F3
    obtain ⟨k0, k1, k2, k3, r0, r1, f0, f1, sz, bl⟩ := F3
    go_wp2_with fail
    exact bodyPost_ret (v := .tuple #[.agg #[.float .f32 0, .float .f32 0], .int .i64 1]) (by simp [results, Try.results15, go_sem, r0, r1]) rfl ⟨rfl, F4.put _ _⟩
  · clear h
    go_enter Try.func15, Try.ntmps15
    go_wp2_with fail
    refine (is_no ha hb h1 _).mono ?_
    rintro e w1 ⟨rfl, hw1⟩
    have F3 : Fr w w1 (.float .f32 a) (.float .f32 b) (.float .f32 c) (.float .f32 d) := (Fr.init w _ _ _ _ 28 28 28).step (by rw [hw1]; exact below_alloc1 _ _)
    clear hw1
    have F4 := F3
    obtain ⟨k0, k1, k2, k3, r0, r1, f0, f1, sz, bl⟩ := F3
    go_wp2_with fail
    exact bodyPost_ret (v := .tuple #[.agg #[.float .f32 0, .float .f32 0], .int .i64 1]) (by simp [results, Try.results15, go_sem, r0, r1]) rfl ⟨rfl, F4.put _ _⟩

/-- The frame of a call with one interval. -/
structure Fs (w w1 : World) (fa fb : Value) : Prop where
  k0 : w1.cell? ⟨w.heap.size, 0, none⟩ = some fa
  k1 : w1.cell? ⟨w.heap.size, 1, none⟩ = some fb
  r0 : w1.cell? ⟨w.heap.size + 1, 0, none⟩ = some (.float .f32 0)
  r1 : w1.cell? ⟨w.heap.size + 1, 1, none⟩ = some (.float .f32 0)
  f0 : w1.frozen? ⟨w.heap.size + 1, 0, none⟩ = false
  f1 : w1.frozen? ⟨w.heap.size + 1, 1, none⟩ = false
  sz : w.heap.size + 1 < w1.heap.size
  bl : Below w.heap.size w w1
theorem Fs.init (w : World) (fa fb : Value) (T1 T3 : TypeId) : Fs w ((w.alloc (.cells #[fa, fb] T1)).alloc (.cells #[.float .f32 0, .float .f32 0] T3)) fa fb := by
  obtain ⟨c1, c2, c3, c4⟩ := cells4 w fa fb (.float .f32 0) (.float .f32 0) T1 T3
  exact ⟨c1, c2, c3, c4, by simp [go_sem], by simp [go_sem], by simp, below2 w _ _⟩
theorem Fs.step {w w1 w2 : World} {fa fb : Value} (h : Fs w w1 fa fb) (hb : Below w1.heap.size w1 w2) : Fs w w2 fa fb := by
  have hs := h.sz
  have hz := hb.size
  refine ⟨?_, ?_, ?_, ?_, ?_, ?_, by omega, h.bl.trans (hb.mono (by omega))⟩
  · rw [hb.cell (by show w.heap.size < _; omega)]; exact h.k0
  · rw [hb.cell (by show w.heap.size < _; omega)]; exact h.k1
  · rw [hb.cell (by show w.heap.size + 1 < _; omega)]; exact h.r0
  · rw [hb.cell (by show w.heap.size + 1 < _; omega)]; exact h.r1
  · rw [hb.frozen (by show w.heap.size + 1 < _; omega)]; exact h.f0
  · rw [hb.frozen (by show w.heap.size + 1 < _; omega)]; exact h.f1
theorem Fs.put {w w1 : World} {fa fb : Value} (h : Fs w w1 fa fb) (x y : Value) : Below w.heap.size w ((w1.setCell ⟨w.heap.size + 1, 0, none⟩ x).setCell ⟨w.heap.size + 1, 1, none⟩ y) :=
  (h.bl.setCell (p := ⟨w.heap.size + 1, 0, none⟩) (by show w.heap.size ≤ w.heap.size + 1; omega) _).setCell (p := ⟨w.heap.size + 1, 1, none⟩) (by show w.heap.size ≤ w.heap.size + 1; omega) _

theorem hsqrt_bad {a b : Nat} (ha : a < 4294967296) (hb : b < 4294967296) (h1 : ¬ Iv a b) (w : World) :
    Calls Try.prog 16 #[.agg #[.float .f32 a, .float .f32 b]] w fun e w' =>
      e = .returned (.tuple #[.agg #[.float .f32 0, .float .f32 0], .int .i64 1]) ∧ Below w.heap.size w w' := by
  go_enter Try.func16, Try.ntmps16
  go_wp2_with fail
  refine (is_no ha hb h1 _).mono ?_
  rintro e w1 ⟨rfl, hw1⟩
  have F3 : Fs w w1 (.float .f32 a) (.float .f32 b) := (Fs.init w _ _ 28 28).step (by rw [hw1]; exact below_alloc1 _ _)
  clear hw1
  have F4 := F3
  obtain ⟨k0, k1, r0, r1, f0, f1, sz, bl⟩ := F3
  go_wp2_with fail
  exact bodyPost_ret (v := .tuple #[.agg #[.float .f32 0, .float .f32 0], .int .i64 1]) (by simp [results, Try.results16, go_sem, r0, r1]) rfl ⟨rfl, F4.put _ _⟩
theorem hsqrt_below {a b : Nat} (h1 : Iv a b) (hz : i32 a < 0) (w : World) :
    Calls Try.prog 16 #[.agg #[.float .f32 a, .float .f32 b]] w fun e w' =>
      e = .returned (.tuple #[.agg #[.float .f32 0, .float .f32 0], .int .i64 3]) ∧ Below w.heap.size w w' := by
  go_enter Try.func16, Try.ntmps16
  go_wp2_with fail
  refine (is_yes h1 _).mono ?_
  rintro e w1 ⟨rfl, hw1⟩
  have F1 : Fs w w1 (.float .f32 a) (.float .f32 b) := (Fs.init w _ _ 28 28).step (by rw [hw1]; exact below_alloc1 _ _)
  clear hw1
  obtain ⟨k0, k1, r0, r1, f0, f1, sz, bl⟩ := F1
  go_wp2_with fail
  refine (ssqrt_below h1 hz _).mono ?_
  rintro e w3 ⟨rfl, hw3⟩
  have F3 : Fs w w3 (.float .f32 a) (.float .f32 b) := Fs.step ⟨k0, k1, r0, r1, f0, f1, sz, bl⟩ hw3
  clear hw3 k0 k1 r0 r1 f0 f1 sz bl
  have F4 := F3
  obtain ⟨k0, k1, r0, r1, f0, f1, sz, bl⟩ := F3
  go_wp2_with fail
  exact bodyPost_ret (v := .tuple #[.agg #[.float .f32 0, .float .f32 0], .int .i64 3]) (by simp [results, Try.results16, go_sem, r0, r1]) rfl ⟨rfl, F4.put _ _⟩
theorem hsqrt_ok {a b : Nat} (h1 : Iv a b) (hz : 0 ≤ i32 a) (w : World) :
    Calls Try.prog 16 #[.agg #[.float .f32 a, .float .f32 b]] w fun e w' =>
      e = .returned (.tuple #[.agg #[.float .f32 (w32 (min (sqD (i32 a)) (sqD (i32 b)))), .float .f32 (w32 (max (sqU (i32 a)) (sqU (i32 b))))], .int .i64 0]) ∧ Below w.heap.size w w' := by
  go_enter Try.func16, Try.ntmps16
  go_wp2_with fail
  refine (is_yes h1 _).mono ?_
  rintro e w1 ⟨rfl, hw1⟩
  have F1 : Fs w w1 (.float .f32 a) (.float .f32 b) := (Fs.init w _ _ 28 28).step (by rw [hw1]; exact below_alloc1 _ _)
  clear hw1
  obtain ⟨k0, k1, r0, r1, f0, f1, sz, bl⟩ := F1
  go_wp2_with fail
  refine (ssqrt_calls h1 hz _).mono ?_
  rintro e w3 ⟨rfl, hw3⟩
  have F3 : Fs w w3 (.float .f32 a) (.float .f32 b) := Fs.step ⟨k0, k1, r0, r1, f0, f1, sz, bl⟩ hw3
  clear hw3 k0 k1 r0 r1 f0 f1 sz bl
  have F4 := F3
  obtain ⟨k0, k1, r0, r1, f0, f1, sz, bl⟩ := F3
  go_wp2_with fail
  exact bodyPost_ret (v := .tuple #[.agg #[.float .f32 (w32 (min (sqD (i32 a)) (sqD (i32 b)))), .float .f32 (w32 (max (sqU (i32 a)) (sqU (i32 b))))], .int .i64 0]) (by simp [results, Try.results16, go_sem, r0, r1]) rfl ⟨rfl, F4.put _ _⟩
end Go.Proofs.Ytakpfdhopodleaa
