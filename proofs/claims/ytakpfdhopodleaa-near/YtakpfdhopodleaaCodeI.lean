import Derived.Test.YtakpfdhopodleaaCodeH
import Derived.Deep.RegionHeld3
namespace Go.Proofs.Ytakpfdhopodleaa
open Go.ChangeShapes Go.WideShapes Go.ChangeAt Go.RowKit Hedge
set_option linter.unusedSimpArgs false
set_option linter.unusedVariables false

theorem below2 (w : World) (A B : Obj) : Below w.heap.size w ((w.alloc A).alloc B) := ((Below.refl _ _).alloc (Nat.le_refl _) _).alloc (by simp) _
theorem below3 (w : World) (A B C : Obj) : Below w.heap.size w (((w.alloc A).alloc B).alloc C) := (below2 w A B).alloc (by simp; omega) _
theorem below4 (w : World) (A B C D : Obj) : Below w.heap.size w ((((w.alloc A).alloc B).alloc C).alloc D) := (below3 w A B C).alloc (by simp; omega) _
theorem below5 (w : World) (A B C D E : Obj) : Below w.heap.size w (((((w.alloc A).alloc B).alloc C).alloc D).alloc E) := (below4 w A B C D).alloc (by simp; omega) _

theorem xor_top_lt (x : Nat) (h : x < 2147483648) : x ^^^ 2147483648 = x + 2147483648 := by
  have e : x + 2147483648 = 2 ^ 31 * 1 + x := by omega
  rw [e, Nat.two_pow_add_eq_or_of_lt (by omega)]
  apply Nat.eq_of_testBit_eq
  intro i
  rw [Nat.testBit_xor, Nat.testBit_or, show (2147483648 : Nat) = 2 ^ 31 by rfl, Nat.mul_one, Nat.testBit_two_pow]
  by_cases hi : 31 = i
  · subst hi
    rw [Nat.testBit_lt_two_pow (by omega)]; simp
  · simp [hi]
theorem xor_top_ge (x : Nat) (h : x < 4294967296) (h2 : 2147483648 ≤ x) : x ^^^ 2147483648 = x - 2147483648 := by
  have e := xor_top_lt (x - 2147483648) (by omega)
  rw [Nat.sub_add_cancel h2] at e
  have e2 : ((x - 2147483648) ^^^ 2147483648) ^^^ 2147483648 = x - 2147483648 := by rw [Nat.xor_assoc, Nat.xor_self, Nat.xor_zero]
  rw [e] at e2; exact e2

/-- The word with the other sign. -/
def negW (x : Nat) : Nat := if x < 2147483648 then x + 2147483648 else x - 2147483648
theorem neg_word {x : Nat} (h : Num32 x) : Op.negFloat .f32 x = negW x ∧ Num32 (negW x) ∧ i32 (negW x) = -i32 x := by
  obtain ⟨h1, h2⟩ := h
  have e : Op.negFloat .f32 x = x ^^^ 2147483648 := rfl
  rw [e]; unfold negW
  by_cases hs : x < 2147483648
  · rw [if_pos hs]
    refine ⟨xor_top_lt x hs, by unfold Num32; omega, ?_⟩
    rw [i32_eq x h1, i32_eq _ (by omega), if_pos hs, if_neg (by omega)]; omega
  · rw [if_neg hs]
    refine ⟨xor_top_ge x h1 (by omega), by unfold Num32; omega, ?_⟩
    rw [i32_eq x h1, i32_eq _ (by omega), if_neg hs, if_pos (by omega)]; omega
@[go_sem] theorem unary_neg_float (k : FloatKind) (n : Nat) : Op.unary .neg (.float k n) = pure (.float k (Op.negFloat k n)) := rfl

/-- An interval, by words. -/
structure Iv (lo hi : Nat) : Prop where
  n1 : Num32 lo
  n2 : Num32 hi
  le : i32 lo ≤ i32 hi
  l : i32 lo < I
  h : -I < i32 hi

theorem n_max : Num32 2139095039 := by unfold Num32; omega
theorem n_min : Num32 4286578687 := by unfold Num32; omega
theorem i_max : i32 2139095039 = I - 1 := by decide +kernel
theorem i_min : i32 4286578687 = -(I - 1) := by decide +kernel

theorem leB {x y : Nat} (hx : Num32 x) (hy : Num32 y) (h : i32 x ≤ i32 y) : (F32.order x y == some .lt || F32.order x y == some .eq) = true := by
  rcases Int.lt_or_eq_of_le h with h1 | h1
  · rw [o32_lt hx hy h1]; rfl
  · rw [o32_eq hx hy h1]; rfl
theorem geB {x y : Nat} (hx : Num32 x) (hy : Num32 y) (h : i32 y ≤ i32 x) : (F32.order x y == some .gt || F32.order x y == some .eq) = true := by
  rcases Int.lt_or_eq_of_le h with h1 | h1
  · rw [o32_gt hx hy h1]; rfl
  · rw [o32_eq hx hy h1.symm]; rfl

theorem is_yes {lo hi : Nat} (h : Iv lo hi) (w : World) :
    Calls Try.prog 26 #[.agg #[.float .f32 lo, .float .f32 hi]] w fun e w' => e = .returned (.bool true) ∧ w' = w.alloc (.cells #[.float .f32 lo, .float .f32 hi] 28) := by
  have o1 := leB h.n1 h.n2 h.le
  have o2 := leB h.n1 n_max (by rw [i_max]; have := h.l; omega)
  have o3 := geB h.n2 n_min (by rw [i_min]; have := h.h; omega)
  clear h
  go_enter Try.func26, Try.ntmps26
  go_wp2
  go_ret
  exact ⟨rfl, rfl⟩

theorem is_no {lo hi : Nat} (hlo : lo < 4294967296) (hhi : hi < 4294967296) (h : ¬ Iv lo hi) (w : World) :
    Calls Try.prog 26 #[.agg #[.float .f32 lo, .float .f32 hi]] w fun e w' => e = .returned (.bool false) ∧ w' = w.alloc (.cells #[.float .f32 lo, .float .f32 hi] 28) := by
  by_cases hn : lo % 2147483648 ≤ 2139095040 ∧ hi % 2147483648 ≤ 2139095040
  · have n1 : Num32 lo := ⟨hlo, hn.1⟩
    have n2 : Num32 hi := ⟨hhi, hn.2⟩
    by_cases hle : i32 lo ≤ i32 hi
    · have o1 := leB n1 n2 hle
      by_cases hl : i32 lo < I
      · have o2 := leB n1 n_max (by rw [i_max]; omega)
        have hh : i32 hi < -(I - 1) := by
          apply Int.lt_of_not_ge
          intro hc
          exact h ⟨n1, n2, hle, hl, by omega⟩
        have o3 := o32_lt n2 n_min (by rw [i_min]; exact hh)
        clear hh hl hle hn h
        go_enter Try.func26, Try.ntmps26
        go_wp2
        go_ret
        exact ⟨rfl, rfl⟩
      · have o2 := o32_gt n1 n_max (by rw [i_max]; omega)
        clear hl hle hn h
        go_enter Try.func26, Try.ntmps26
        go_wp2
        go_ret
        exact ⟨rfl, rfl⟩
    · have o1 := o32_gt n1 n2 (by omega)
      clear hle hn h
      go_enter Try.func26, Try.ntmps26
      go_wp2
      go_ret
      exact ⟨rfl, rfl⟩
  · have o1 := order32_nan (x := lo) (y := hi) (by omega)
    clear hn h
    go_enter Try.func26, Try.ntmps26
    go_wp2
    go_ret
    exact ⟨rfl, rfl⟩

theorem sadd_calls {a b c d : Nat} (h1 : Iv a b) (h2 : Iv c d) (w : World) :
    Calls Try.prog 27 #[.agg #[.float .f32 a, .float .f32 b], .agg #[.float .f32 c, .float .f32 d]] w fun e w' =>
      e = .returned (.agg #[.float .f32 (w32 (addD (i32 a) (i32 c))), .float .f32 (w32 (addU (i32 b) (i32 d)))]) ∧ Below w.heap.size w w' := by
  have q1 : ¬ (i32 a = I ∧ i32 c = -I) := by have := h1.l; omega
  have q2 : ¬ (i32 a = -I ∧ i32 c = I) := by have := h2.l; omega
  have q3 : ¬ (i32 b = I ∧ i32 d = -I) := by have := h2.h; omega
  have q4 : ¬ (i32 b = -I ∧ i32 d = I) := by have := h1.h; omega
  obtain ⟨a1, b1, _, _, _⟩ := h1
  obtain ⟨c1, d1, _, _, _⟩ := h2
  go_enter Try.func27, Try.ntmps27
  go_wp2_with fail
  go_region_held3 (fun w' => w'.cell? ⟨w.heap.size, 0, none⟩ = some (.float .f32 a) ∧ w'.cell? ⟨w.heap.size, 1, none⟩ = some (.float .f32 b) ∧ w'.cell? ⟨w.heap.size + 1, 0, none⟩ = some (.float .f32 c) ∧ w'.cell? ⟨w.heap.size + 1, 1, none⟩ = some (.float .f32 d)) (go_keep)
    (first | (go_at_call 41; refine (sumDown_calls a1 c1 q1 q2 _).mono ?_; rintro e w' ⟨rfl, rfl⟩) | (go_at_call 42; refine (sumUp_calls b1 d1 q3 q4 _).mono ?_; rintro e w' ⟨rfl, rfl⟩))
  go_wp2
  refine bodyPost_ret (v := .agg #[.float .f32 (w32 (addD (i32 a) (i32 c))), .float .f32 (w32 (addU (i32 b) (i32 d)))]) (by simp [results, Try.results27, go_sem]) rfl ⟨rfl, ?_⟩
  exact (below3 w _ _ _).drew

theorem ssub_calls {a b c d : Nat} (h1 : Iv a b) (h2 : Iv c d) (w : World) :
    Calls Try.prog 28 #[.agg #[.float .f32 a, .float .f32 b], .agg #[.float .f32 c, .float .f32 d]] w fun e w' =>
      e = .returned (.agg #[.float .f32 (w32 (addD (i32 a) (-i32 d))), .float .f32 (w32 (addU (i32 b) (-i32 c)))]) ∧ Below w.heap.size w w' := by
  obtain ⟨a1, b1, _, al, bh⟩ := h1
  obtain ⟨c1, d1, _, cl, dh⟩ := h2
  obtain ⟨nc1, nc2, nc3⟩ := neg_word c1
  obtain ⟨nd1, nd2, nd3⟩ := neg_word d1
  have q1 : ¬ (i32 a = I ∧ i32 (negW d) = -I) := by omega
  have q2 : ¬ (i32 a = -I ∧ i32 (negW d) = I) := by omega
  have q3 : ¬ (i32 b = I ∧ i32 (negW c) = -I) := by omega
  have q4 : ¬ (i32 b = -I ∧ i32 (negW c) = I) := by omega
  rw [← nd3, ← nc3]
  clear nc3 nd3 al bh cl dh
  go_enter Try.func28, Try.ntmps28
  go_wp2_with fail
  go_region_held3 (fun w' => w'.cell? ⟨w.heap.size, 0, none⟩ = some (.float .f32 a) ∧ w'.cell? ⟨w.heap.size, 1, none⟩ = some (.float .f32 b) ∧ w'.cell? ⟨w.heap.size + 1, 0, none⟩ = some (.float .f32 c) ∧ w'.cell? ⟨w.heap.size + 1, 1, none⟩ = some (.float .f32 d)) (go_keep)
    (first | (go_at_call 41; refine (sumDown_calls a1 nd2 q1 q2 _).mono ?_; rintro e w' ⟨rfl, rfl⟩) | (go_at_call 42; refine (sumUp_calls b1 nc2 q3 q4 _).mono ?_; rintro e w' ⟨rfl, rfl⟩))
  go_wp2
  refine bodyPost_ret (v := .agg #[.float .f32 (w32 (addD (i32 a) (i32 (negW d)))), .float .f32 (w32 (addU (i32 b) (i32 (negW c))))]) (by simp [results, Try.results28, go_sem]) rfl ⟨rfl, ?_⟩
  exact (below3 w _ _ _).drew
end Go.Proofs.Ytakpfdhopodleaa
