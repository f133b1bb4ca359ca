import Derived.Test.YtakpfdhopodleaaCodeF
import Derived.Test.YtakpfdhopodleaaSpecF
namespace Go.Proofs.Ytakpfdhopodleaa
open Go.ChangeShapes Go.WideShapes Go.ChangeAt Go.RowKit Hedge
set_option linter.unusedSimpArgs false
set_option linter.unusedVariables false

theorem ne0_order {x : Nat} (h : Num32 x) (h0 : i32 x ≠ 0) : (F32.order x 0 == some .eq) = false := by
  rcases Int.lt_or_gt_of_ne h0 with h1 | h1
  · rw [o32_lt h n_zero (by rw [i_zero]; exact h1)]; rfl
  · rw [o32_gt h n_zero (by rw [i_zero]; exact h1)]; rfl

theorem product_calls {x y : Nat} (hx : Num32 x) (hy : Num32 y) (w : World) :
    Calls Try.prog 44 #[.float .f32 x, .float .f32 y] w fun r w' => ∃ p, r = .returned (.float .f64 p) ∧ Num64 p ∧ dn64 (i64 p) = mulD (i32 x) (i32 y) ∧ up64 (i64 p) = mulU (i32 x) (i32 y) ∧ w' = w := by
  obtain ⟨x1, x2⟩ := i32_range hx
  obtain ⟨y1, y2⟩ := i32_range hy
  by_cases h0 : i32 x = 0 ∨ i32 y = 0
  · have e1 : mulD (i32 x) (i32 y) = 0 := by unfold mulD; rw [if_pos h0]
    have e2 : mulU (i32 x) (i32 y) = 0 := by unfold mulU mulD; rw [if_pos (by omega)]; rfl
    have E1 : Hid (dn64 (i64 0) = mulD (i32 x) (i32 y)) := by show _ = _; rw [e1, i_zero64, dn64_0]
    have E2 : Hid (up64 (i64 0) = mulU (i32 x) (i32 y)) := by show _ = _; rw [e2, i_zero64, up64_0]
    clear e1 e2
    by_cases hx0 : i32 x = 0
    · have o1 := o32_eq hx n_zero (by rw [i_zero]; exact hx0)
      clear h0 hx0
      go_enter Try.func44, Try.ntmps44
      go_wp2
      go_ret
      exact ⟨0, rfl, n_zero64, E1.out, E2.out, rfl⟩
    · have o1 := ne0_order hx hx0
      have hy0 : i32 y = 0 := by omega
      have o2 := o32_eq hy n_zero (by rw [i_zero]; exact hy0)
      clear h0 hx0 hy0
      go_enter Try.func44, Try.ntmps44
      go_wp2
      go_ret
      exact ⟨0, rfl, n_zero64, E1.out, E2.out, rfl⟩
  · have hx0 : i32 x ≠ 0 := by omega
    have hy0 : i32 y ≠ 0 := by omega
    have o1 := ne0_order hx hx0
    have o2 := ne0_order hy hy0
    obtain ⟨u, u1, u2, u3⟩ := widen hx
    obtain ⟨v, v1, v2, v3⟩ := widen hy
    have d1 := conv_up u1
    have d2 := conv_up v1
    obtain ⟨p, p1, p2, p3, p4⟩ := prod_word u2 v2 u3 v3 hx0 hy0 x1 x2 y1 y2
    have f1 : ∀ t w, (binOp .mul t (.float .f64 u) (.float .f64 v)).run Try.prog w = .ok (.float .f64 p) w := fun t w => run_float_arith w .mul t .f64 u v p p1
    have P3 : Hid (dn64 (i64 p) = mulD (i32 x) (i32 y)) := p3
    have P4 : Hid (up64 (i64 p) = mulU (i32 x) (i32 y)) := p4
    clear h0 hx0 hy0 p1 p3 p4 u1 v1 u3 v3
    go_enter Try.func44, Try.ntmps44
    go_wp2
    go_ret
    exact ⟨p, rfl, p2, P3.out, P4.out, rfl⟩

theorem quotient_calls {x y : Nat} (hx : Num32 x) (hy : Num32 y) (hy0 : i32 y ≠ 0) (w : World) :
    Calls Try.prog 46 #[.float .f32 x, .float .f32 y] w fun r w' => ∃ p, r = .returned (.float .f64 p) ∧ Num64 p ∧ dn64 (i64 p) = divD (i32 x) (i32 y) ∧ up64 (i64 p) = divU (i32 x) (i32 y) ∧ w' = w := by
  have hI := I_pos
  obtain ⟨x1, x2⟩ := i32_range hx
  obtain ⟨y1, y2⟩ := i32_range hy
  obtain ⟨v, v1, v2, v3⟩ := widen hy
  have d2 := conv_up v1
  obtain ⟨q1, q2⟩ := up_J v3
  by_cases hi : i32 y = I ∨ i32 y = -I
  · have e1 : divD (i32 x) (i32 y) = 0 := by unfold divD; rw [if_pos (by omega)]
    have e2 : divU (i32 x) (i32 y) = 0 := by unfold divU divD; rw [if_pos (by omega)]; rfl
    have E1 : Hid (dn64 (i64 0) = divD (i32 x) (i32 y)) := by show _ = _; rw [e1, i_zero64, dn64_0]
    have E2 : Hid (up64 (i64 0) = divU (i32 x) (i32 y)) := by show _ = _; rw [e2, i_zero64, up64_0]
    have hv : i64 v = J ∨ i64 v = -J := by omega
    clear e1 e2 hi q1 q2 v1 v3
    go_enter Try.func46, Try.ntmps46
    go_wp2_with (go_at_call 64; refine (isInf_yes v2 hv _).mono ?_; rintro r w' ⟨rfl, rfl⟩)
    go_ret
    exact ⟨0, rfl, n_zero64, E1.out, E2.out, rfl⟩
  · obtain ⟨u, u1, u2, u3⟩ := widen hx
    have d1 := conv_up u1
    obtain ⟨p, p1, p2, p3, p4⟩ := quot_word u2 v2 u3 v3 hy0 x1 x2 (by omega) (by omega)
    have f1 : ∀ t w, (binOp .quo t (.float .f64 u) (.float .f64 v)).run Try.prog w = .ok (.float .f64 p) w := fun t w => run_float_arith w .quo t .f64 u v p p1
    have P3 : Hid (dn64 (i64 p) = divD (i32 x) (i32 y)) := p3
    have P4 : Hid (up64 (i64 p) = divU (i32 x) (i32 y)) := p4
    obtain ⟨r1, r2⟩ := i64_range v2
    have hv1 : -J < i64 v := by omega
    have hv2 : i64 v < J := by omega
    clear hi q1 q2 p1 p3 p4 u1 v1 u3 v3 r1 r2
    go_enter Try.func46, Try.ntmps46
    go_wp2_with (go_at_call 64; refine (isInf_no v2 hv1 hv2 _).mono ?_; rintro r w' ⟨rfl, rfl⟩)
    go_ret
    exact ⟨p, rfl, p2, P3.out, P4.out, rfl⟩

theorem run_sqrt {x r : Nat} (h : F64.sqrt x = some r) (w : World) : (callFunc 79 #[.float .f64 x]).run Try.prog w = .ok (.value (.float .f64 r)) w := by
  rw [run_callFunc_extern (e := Extern.MathSqrt.sqrt) Try.func79 (by kernel_rfl) (by kernel_rfl) (by kernel_rfl) (by kernel_rfl)]
  have : Extern.MathSqrt.sqrt #[.float .f64 x] = pure (.float .f64 r) := by
    change (match F64.sqrt x with
      | some r => (pure (Value.float .f64 r) : Sem Value)
      | none => (do pure (Value.float .f64 (← choose (.nanBits .f64 x x))))) = _
    rw [h]
  rw [this]; rfl

theorem msqrt_calls {x r : Nat} (h : F64.sqrt x = some r) (w : World) : Calls Try.prog 65 #[.float .f64 x] w fun e w' => e = .returned (.float .f64 r) ∧ w' = w := by
  have h1 := run_sqrt h
  clear h
  go_enter Try.func65, Try.ntmps65
  go_wp2
  go_ret
  exact ⟨rfl, rfl⟩

theorem root_calls {x : Nat} (hx : Num32 x) (hx0 : 0 ≤ i32 x) (w : World) :
    Calls Try.prog 47 #[.float .f32 x] w fun r w' => ∃ p, r = .returned (.float .f64 p) ∧ Num64 p ∧ dn64 (i64 p) = sqD (i32 x) ∧ up64 (i64 p) = sqU (i32 x) ∧ w' = w := by
  obtain ⟨x1, x2⟩ := i32_range hx
  obtain ⟨u, u1, u2, u3⟩ := widen hx
  have d1 := conv_up u1
  obtain ⟨p, p1, p2, p3, p4⟩ := root_word u2 u3 hx0 x2
  have P3 : Hid (dn64 (i64 p) = sqD (i32 x)) := p3
  have P4 : Hid (up64 (i64 p) = sqU (i32 x)) := p4
  clear p3 p4 u1 u3
  go_enter Try.func47, Try.ntmps47
  go_wp2_with (go_at_call 65; refine (msqrt_calls p1 _).mono ?_; rintro r w' ⟨rfl, rfl⟩)
  go_ret
  exact ⟨p, rfl, p2, P3.out, P4.out, rfl⟩
end Go.Proofs.Ytakpfdhopodleaa
