import Derived.Test.YtakpfdhopodleaaBase
import Derived.Test.YtakpfdhopodleaaSpecAB
import Derived.Laws.FloatArith
namespace Go.Proofs.Ytakpfdhopodleaa
open Go.ChangeShapes Go.WideShapes Go.ChangeAt Go.RowKit Hedge
set_option linter.unusedSimpArgs false
set_option linter.unusedVariables false

theorem run_f64from (n : Int) (w : World) : (callFunc 73 #[.int .u64 n]).run Try.prog w = .ok (.value (.float .f64 n.toNat)) w := by
  rw [run_callFunc_extern (e := Extern.MathFloatBits.float64frombits) Try.func73 (by kernel_rfl) (by kernel_rfl) (by kernel_rfl) (by kernel_rfl)]; rfl
theorem run_f64bits (n : Nat) (w : World) : (callFunc 74 #[.float .f64 n]).run Try.prog w = .ok (.value (.int .u64 n)) w := by
  rw [run_callFunc_extern (e := Extern.MathFloatBits.float64bits) Try.func74 (by kernel_rfl) (by kernel_rfl) (by kernel_rfl) (by kernel_rfl)]; rfl
theorem conv_up {x r : Nat} (h : floatToFloatBits .f32 x .f64 = some r) (w : World) : (convert 26 49 (.float .f32 x)).run Try.prog w = .ok (.float .f64 r) w :=
  run_convert_float_float w 26 49 .f32 .f64 x r (by rw [Try.underlying26]; rfl) Try.underlying49 h
theorem conv_dn {x r : Nat} (h : floatToFloatBits .f64 x .f32 = some r) (w : World) : (convert 49 26 (.float .f64 x)).run Try.prog w = .ok (.float .f32 r) w :=
  run_convert_float_float w 49 26 .f64 .f32 x r (by rw [Try.underlying49]; rfl) Try.underlying26 h

theorem inf_pos (w : World) : Calls Try.prog 61 #[.int .i64 1] w fun e w' => e = .returned (.float .f64 9218868437227405312) ∧ w' = w := by
  have h1 := run_f64from
  go_enter Try.func61, Try.ntmps61
  go_wp2
  go_ret
  exact ⟨rfl, rfl⟩
theorem inf_neg (w : World) : Calls Try.prog 61 #[.int .i64 (-1)] w fun e w' => e = .returned (.float .f64 18442240474082181120) ∧ w' = w := by
  have h1 := run_f64from
  go_enter Try.func61, Try.ntmps61
  go_wp2
  go_ret
  exact ⟨rfl, rfl⟩
theorem isNaN_calls {x : Nat} (h : Num64 x) (w : World) : Calls Try.prog 70 #[.float .f64 x] w fun e w' => e = .returned (.bool false) ∧ w' = w := by
  have h1 := o64_eq h h rfl
  go_enter Try.func70, Try.ntmps70
  go_wp2
  go_ret
  exact ⟨rfl, rfl⟩
theorem wm_calls {x : Nat} (h : Num32 x) (w : World) : Calls Try.prog 77 #[.float .f32 x] w fun e w' => e = .returned (.float .f32 (w32 (i32 x))) ∧ w' = w := by
  have n0 : Num32 0 := by unfold Num32; omega
  by_cases h0 : i32 x = 0
  · have h1 := o32_eq h n0 (by rw [h0]; rfl)
    rw [h0]
    go_enter Try.func77, Try.ntmps77
    go_wp2
    go_ret
    exact ⟨rfl, rfl⟩
  · have h2 : x ≠ 2147483648 := by intro e; subst e; exact h0 (by decide +kernel)
    rw [w32_i32 h h2]
    rcases Int.lt_or_gt_of_ne h0 with h3 | h3
    · have h1 := o32_lt h n0 (by show _ < i32 0; rw [show i32 0 = 0 by decide +kernel]; exact h3)
      go_enter Try.func77, Try.ntmps77
      go_wp2
      go_ret
      exact ⟨rfl, rfl⟩
    · have h1 := o32_gt h n0 (by show i32 0 < _; rw [show i32 0 = 0 by decide +kernel]; exact h3)
      go_enter Try.func77, Try.ntmps77
      go_wp2
      go_ret
      exact ⟨rfl, rfl⟩
end Go.Proofs.Ytakpfdhopodleaa
namespace Go.Proofs.Ytakpfdhopodleaa
open Go.ChangeShapes Go.WideShapes Go.ChangeAt Go.RowKit Hedge
set_option linter.unusedSimpArgs false
set_option linter.unusedVariables false

theorem copysign_dn (w : World) : Calls Try.prog 72 #[.float .f64 3936146074321813504, .float .f64 18442240474082181120] w fun e w' => e = .returned (.float .f64 13159518111176589312) ∧ w' = w := by
  have h1 := run_f64from
  have h2 := run_f64bits
  go_enter Try.func72, Try.ntmps72
  go_wp2
  go_ret
  exact ⟨rfl, rfl⟩
theorem copysign_up (w : World) : Calls Try.prog 72 #[.float .f64 3936146074321813504, .float .f64 9218868437227405312] w fun e w' => e = .returned (.float .f64 3936146074321813504) ∧ w' = w := by
  have h1 := run_f64from
  have h2 := run_f64bits
  go_enter Try.func72, Try.ntmps72
  go_wp2
  go_ret
  exact ⟨rfl, rfl⟩
theorem c_one : floatToFloatBits .f32 1 .f64 = some 3936146074321813504 := by decide +kernel
theorem c_mone : floatToFloatBits .f64 13159518111176589312 .f32 = some 2147483649 := by decide +kernel
theorem c_one' : floatToFloatBits .f64 3936146074321813504 .f32 = some 1 := by decide +kernel
theorem c_pinf : floatToFloatBits .f64 9218868437227405312 .f32 = some 2139095040 := by decide +kernel
theorem c_minf : floatToFloatBits .f64 18442240474082181120 .f32 = some 4286578688 := by decide +kernel
theorem c_pinf' : floatToFloatBits .f32 2139095040 .f64 = some 9218868437227405312 := by decide +kernel
theorem c_minf' : floatToFloatBits .f32 4286578688 .f64 = some 18442240474082181120 := by decide +kernel
theorem n_pinf : Num32 2139095040 := by unfold Num32; omega
theorem n_minf : Num32 4286578688 := by unfold Num32; omega
theorem n_zero : Num32 0 := by unfold Num32; omega
theorem i_pinf : i32 2139095040 = I := by decide +kernel
theorem i_minf : i32 4286578688 = -I := by decide +kernel
theorem i_zero : i32 0 = 0 := by decide +kernel
theorem n_pinf64 : Num64 9218868437227405312 := by unfold Num64; omega
theorem n_minf64 : Num64 18442240474082181120 := by unfold Num64; omega
theorem i_pinf64 : i64 9218868437227405312 = J := by decide +kernel
theorem i_minf64 : i64 18442240474082181120 = -J := by decide +kernel

/-- The float32 below. -/
theorem next32_dn {x : Nat} (h : Num32 x) (hn : -I < i32 x) (w : World) :
    Calls Try.prog 76 #[.float .f32 x, .float .f32 4286578688] w fun e w' => e = .returned (.float .f32 (w32 (i32 x - 1))) ∧ w' = w := by
  obtain ⟨r, hr1, hr2, hr3⟩ := widen h
  have cx := conv_up hr1
  have cy := conv_up c_minf'
  have oy := o32_gt h n_minf (by rw [i_minf]; exact hn)
  have oy' := o32_lt n_minf h (by rw [i_minf]; exact hn)
  have hx1 := h.1
  have hx2 := h.2
  rcases Int.lt_trichotomy (i32 x) 0 with h0 | h0 | h0
  · have o0 := o32_lt h n_zero (by rw [i_zero]; exact h0)
    have e : w32 (i32 x - 1) = x + 1 := by
      rw [i32_eq x hx1] at h0 ⊢; unfold w32; split at h0 <;> split <;> (try split) <;> omega
    have hge : 2147483648 ≤ x := by rw [i32_eq x hx1] at h0; split at h0 <;> omega
    rw [e]
    have k1 := run_f32bits
    have k2 := run_f32from
    have hb : (x : Int) + 1 ≤ 4294967295 := by omega
    go_enter Try.func76, Try.ntmps76
    go_wp2_with (go_at_call 70; refine (isNaN_calls (by first | exact hr2 | exact n_minf64) _).mono ?_; rintro e w' ⟨rfl, rfl⟩)
    go_ret
    exact ⟨rfl, rfl⟩
  · have o0 := o32_eq h n_zero (by rw [i_zero]; exact h0)
    rw [h0]
    have k2 := run_f32from
    have d1 := conv_up c_one
    have d2 := conv_dn c_mone
    go_enter Try.func76, Try.ntmps76
    go_wp2_with (first
      | (go_at_call 70; refine (isNaN_calls (by first | exact hr2 | exact n_minf64) _).mono ?_; rintro e w' ⟨rfl, rfl⟩)
      | (go_at_call 72; refine (copysign_dn _).mono ?_; rintro e w' ⟨rfl, rfl⟩))
    go_ret
    exact ⟨rfl, rfl⟩
  · have o0 := o32_gt h n_zero (by rw [i_zero]; exact h0)
    have hlt : x < 2147483648 := by rw [i32_eq x hx1] at h0; split at h0 <;> omega
    have e : w32 (i32 x - 1) = x - 1 := by
      rw [i32_eq x hx1] at h0 ⊢; unfold w32; rw [if_pos hlt] at h0 ⊢; split <;> omega
    have hpos : 1 ≤ x := by rw [i32_eq x hx1, if_pos hlt] at h0; omega
    rw [e]
    have k1 := run_f32bits
    have k2 := run_f32from
    have hb : (1 : Int) ≤ (x : Int) := by omega
    have hb2 : (x : Int) ≤ 4294967295 := by omega
    go_enter Try.func76, Try.ntmps76
    go_wp2_with (go_at_call 70; refine (isNaN_calls (by first | exact hr2 | exact n_minf64) _).mono ?_; rintro e w' ⟨rfl, rfl⟩)
    go_ret
    refine ⟨?_, rfl⟩
    have e2 : ((x : Int) - 1).toNat = x - 1 := by omega
    first | rfl | simp [e2]

/-- The float32 above. -/
theorem next32_up {x : Nat} (h : Num32 x) (hn : i32 x < I) (w : World) :
    Calls Try.prog 76 #[.float .f32 x, .float .f32 2139095040] w fun e w' => e = .returned (.float .f32 (if i32 x = -1 then 2147483648 else w32 (i32 x + 1))) ∧ w' = w := by
  obtain ⟨r, hr1, hr2, hr3⟩ := widen h
  have cx := conv_up hr1
  have cy := conv_up c_pinf'
  have oy := o32_lt h n_pinf (by rw [i_pinf]; exact hn)
  have oy' := o32_gt n_pinf h (by rw [i_pinf]; exact hn)
  have hx1 := h.1
  have hx2 := h.2
  rcases Int.lt_trichotomy (i32 x) 0 with h0 | h0 | h0
  · have o0 := o32_lt h n_zero (by rw [i_zero]; exact h0)
    have hge : 2147483649 ≤ x := by rw [i32_eq x hx1] at h0; split at h0 <;> omega
    have e : (if i32 x = -1 then 2147483648 else w32 (i32 x + 1)) = x - 1 := by
      have hx3 : ¬ x < 2147483648 := by omega
      rw [i32_eq x hx1, if_neg hx3]; unfold w32; split <;> (try split) <;> omega
    rw [e]
    have k1 := run_f32bits
    have k2 := run_f32from
    have hb : (1 : Int) ≤ (x : Int) := by omega
    have hb2 : (x : Int) ≤ 4294967295 := by omega
    go_enter Try.func76, Try.ntmps76
    go_wp2_with (go_at_call 70; refine (isNaN_calls (by first | exact hr2 | exact n_pinf64) _).mono ?_; rintro e w' ⟨rfl, rfl⟩)
    go_ret
    refine ⟨?_, rfl⟩
    have e2 : ((x : Int) - 1).toNat = x - 1 := by omega
    first | rfl | simp [e2]
  · have o0 := o32_eq h n_zero (by rw [i_zero]; exact h0)
    rw [h0]
    have k2 := run_f32from
    have d1 := conv_up c_one
    have d2 := conv_dn c_one'
    go_enter Try.func76, Try.ntmps76
    go_wp2_with (first
      | (go_at_call 70; refine (isNaN_calls (by first | exact hr2 | exact n_pinf64) _).mono ?_; rintro e w' ⟨rfl, rfl⟩)
      | (go_at_call 72; refine (copysign_up _).mono ?_; rintro e w' ⟨rfl, rfl⟩))
    go_ret
    exact ⟨rfl, rfl⟩
  · have o0 := o32_gt h n_zero (by rw [i_zero]; exact h0)
    have hlt : x < 2147483648 := by rw [i32_eq x hx1] at h0; split at h0 <;> omega
    have e : (if i32 x = -1 then 2147483648 else w32 (i32 x + 1)) = x + 1 := by
      rw [i32_eq x hx1, if_pos hlt, if_neg (by omega)]; unfold w32; rw [if_neg (by omega)]; omega
    rw [e]
    have k1 := run_f32bits
    have k2 := run_f32from
    have hb2 : (x : Int) + 1 ≤ 4294967295 := by omega
    go_enter Try.func76, Try.ntmps76
    go_wp2_with (go_at_call 70; refine (isNaN_calls (by first | exact hr2 | exact n_pinf64) _).mono ?_; rintro e w' ⟨rfl, rfl⟩)
    go_ret
    exact ⟨rfl, rfl⟩
end Go.Proofs.Ytakpfdhopodleaa
namespace Go.Proofs.Ytakpfdhopodleaa
open Go.ChangeShapes Go.WideShapes Go.ChangeAt Go.RowKit Hedge
set_option linter.unusedSimpArgs false
set_option linter.unusedVariables false

theorem le_total (i j : Int) : FLe i j ∨ FGe i j := by
  unfold FLe FGe
  by_cases h1 : i = -I
  · exact Or.inl (Or.inl h1)
  by_cases h2 : i = I
  · exact Or.inr (Or.inl h2)
  by_cases h3 : j = J
  · exact Or.inl (Or.inr (Or.inl h3))
  by_cases h4 : j = -J
  · exact Or.inr (Or.inr (Or.inl h4))
  rcases Int.le_total (v32 i * (U : Int)) (v64 j) with h | h
  · exact Or.inl (Or.inr (Or.inr ⟨h2, h4, h⟩))
  · exact Or.inr (Or.inr (Or.inr ⟨h1, h3, h⟩))

theorem up_dn (j : Int) : up64 j ≤ dn64 j + 1 := by
  obtain ⟨a, b, c⟩ := dn64_spec j
  obtain ⟨a', b', c'⟩ := up64_spec j
  by_cases h : dn64 j = I
  · omega
  · rcases le_total (dn64 j + 1) j with h1 | h1
    · have := (c _ (by omega) (by omega)).1 h1; omega
    · exact (c' _ (by omega) (by omega)).1 h1

theorem up_max : Up (I - 1) (i64 5183643170566569984) := by
  have h : Num32 2139095039 := by unfold Num32; omega
  obtain ⟨r, h1, h2, h3⟩ := widen h
  have e : floatToFloatBits .f32 2139095039 .f64 = some 5183643170566569984 := by decide +kernel
  rw [e] at h1; cases h1
  have e2 : i32 2139095039 = I - 1 := by decide +kernel
  rw [e2] at h3; exact h3
theorem up_min : Up (-(I - 1)) (i64 14407015207421345792) := by
  have h : Num32 4286578687 := by unfold Num32; omega
  obtain ⟨r, h1, h2, h3⟩ := widen h
  have e : floatToFloatBits .f32 4286578687 .f64 = some 14407015207421345792 := by decide +kernel
  rw [e] at h1; cases h1
  have e2 : i32 4286578687 = -(I - 1) := by decide +kernel
  rw [e2] at h3; exact h3
theorem n_max64 : Num64 5183643170566569984 := by unfold Num64; omega
theorem n_min64 : Num64 14407015207421345792 := by unfold Num64; omega

theorem nearby_calls {x : Nat} (h : Num64 x) (w : World) :
    Calls Try.prog 75 #[.float .f64 x] w fun e w' => ∃ f, e = .returned (.float .f32 f) ∧ Num32 f ∧ dn64 (i64 x) ≤ i32 f ∧ i32 f ≤ up64 (i64 x) ∧ w' = w := by
  obtain ⟨r1, r2⟩ := i64_range h
  obtain ⟨a, b, c⟩ := dn64_spec (i64 x)
  obtain ⟨a', b', c'⟩ := up64_spec (i64 x)
  obtain ⟨m1, m2⟩ := up_le up_max r1 r2
  obtain ⟨m3, m4⟩ := up_le up_min r1 r2
  have hI := I_pos
  by_cases h1 : i64 5183643170566569984 < i64 x
  · have o1 := o64_gt h n_max64 h1
    have d1 := conv_dn c_pinf
    go_enter Try.func75, Try.ntmps75
    go_wp2_with (go_at_call 61; refine (inf_pos _).mono ?_; rintro e w' ⟨rfl, rfl⟩)
    go_ret
    refine ⟨_, rfl, n_pinf, by rw [i_pinf]; omega, ?_, rfl⟩
    rw [i_pinf]
    apply Int.le_of_not_gt
    intro hc
    have := m2.2 ((c' (I - 1) (by omega) (by omega)).2 (by omega))
    omega
  · have h1' : i64 x ≤ i64 5183643170566569984 := by omega
    have o1 : (F64.order x 5183643170566569984 == some .gt) = false := by
      rcases Int.lt_or_eq_of_le h1' with h2 | h2
      · rw [o64_lt h n_max64 h2]; rfl
      · rw [o64_eq h n_max64 h2]; rfl
    by_cases h3 : i64 x < i64 14407015207421345792
    · have o2 := o64_lt h n_min64 h3
      have d1 := conv_dn c_minf
      go_enter Try.func75, Try.ntmps75
      go_wp2_with (go_at_call 61; refine (inf_neg _).mono ?_; rintro e w' ⟨rfl, rfl⟩)
      go_ret
      refine ⟨_, rfl, n_minf, ?_, by rw [i_minf]; omega, rfl⟩
      rw [i_minf]
      apply Int.le_of_not_gt
      intro hc
      have := m3.2 ((c (-(I - 1)) (by omega) (by omega)).2 (by omega))
      omega
    · have h3' : i64 14407015207421345792 ≤ i64 x := by omega
      have o2 : (F64.order x 14407015207421345792 == some .lt) = false := by
        rcases Int.lt_or_eq_of_le h3' with h2 | h2
        · rw [o64_gt h n_min64 h2]; rfl
        · rw [o64_eq h n_min64 h2.symm]; rfl
      obtain ⟨r, q1, q2, q3, q4, q5, q6⟩ := narrow h (m3.1 h3') (m2.1 h1')
      have d1 := conv_dn q1
      have f1 : dn64 (i64 x) ≤ i32 r := q5 _ a b ((c _ a b).2 (Int.le_refl _))
      have f2 : i32 r ≤ up64 (i64 x) := q6 _ a' b' ((c' _ a' b').2 (Int.le_refl _))
      clear q5 q6 c c' m1 m2 m3 m4
      go_enter Try.func75, Try.ntmps75
      go_wp2_with fail
      go_ret
      exact ⟨_, rfl, q2, f1, f2, rfl⟩

theorem down_calls {x : Nat} (h : Num64 x) (w : World) :
    Calls Try.prog 62 #[.float .f64 x] w fun e w' => e = .returned (.float .f32 (w32 (dn64 (i64 x)))) ∧ w' = w := by
  obtain ⟨r1, r2⟩ := i64_range h
  obtain ⟨a, b, c⟩ := dn64_spec (i64 x)
  have hud := up_dn (i64 x)
  have hI := I_pos
  go_enter Try.func62, Try.ntmps62
  go_wp2_with fail
  refine (nearby_calls h _).mono ?_
  rintro e w1 ⟨f, rfl, hf, h1, h2, rfl⟩
  obtain ⟨u, u1, u2, u3⟩ := widen hf
  obtain ⟨v1, v2⟩ := i32_range hf
  obtain ⟨m1, m2⟩ := up_le u3 r1 r2
  have d1 := conv_up u1
  rw [c _ v1 v2] at m1
  clear c m2
  by_cases hc : i64 x < i64 u
  · have o1 := o64_gt u2 h hc
    have e1 : i32 f = dn64 (i64 x) + 1 := by omega
    have d2 := conv_dn c_minf
    have E : Hid (i32 f - 1 = dn64 (i64 x)) := by show _ = _; omega
    have n1 : Num32 (w32 (i32 f - 1)) := num_w32 (by omega) (by omega)
    have n2 : i32 (w32 (i32 f - 1)) = i32 f - 1 := i32_w32 (by omega) (by omega)
    have N2 : Hid (i32 (w32 (i32 f - 1)) = i32 f - 1) := n2
    clear e1 n2
    go_wp2_with fail
    refine (inf_neg _).mono ?_
    rintro e w2 ⟨rfl, rfl⟩
    go_wp2_with fail
    refine (next32_dn hf (by omega) _).mono ?_
    rintro e w3 ⟨rfl, rfl⟩
    go_wp2_with fail
    refine (wm_calls n1 _).mono ?_
    rintro e w4 ⟨rfl, rfl⟩
    go_wp2_with fail
    go_ret
    refine ⟨?_, rfl⟩
    rw [N2.out, E.out]; rfl
  · have o1 : (F64.order u x == some .gt) = false := by
      rcases Int.lt_or_eq_of_le (Int.not_lt.1 hc) with h2 | h2
      · rw [o64_lt u2 h h2]; rfl
      · rw [o64_eq u2 h h2]; rfl
    have e1 : i32 f = dn64 (i64 x) := by omega
    have E : Hid (i32 f = dn64 (i64 x)) := e1
    clear e1
    go_wp2_with fail
    refine (wm_calls hf _).mono ?_
    rintro e w4 ⟨rfl, rfl⟩
    go_wp2_with fail
    go_ret
    refine ⟨?_, rfl⟩
    rw [E.out]; rfl
end Go.Proofs.Ytakpfdhopodleaa
namespace Go.Proofs.Ytakpfdhopodleaa
open Go.ChangeShapes Go.WideShapes Go.ChangeAt Go.RowKit Hedge
set_option linter.unusedSimpArgs false
set_option linter.unusedVariables false

theorem i32_mzero : i32 2147483648 = 0 := by decide +kernel

theorem upto_calls {x : Nat} (h : Num64 x) (w : World) :
    Calls Try.prog 63 #[.float .f64 x] w fun e w' => e = .returned (.float .f32 (w32 (up64 (i64 x)))) ∧ w' = w := by
  obtain ⟨r1, r2⟩ := i64_range h
  obtain ⟨a, b, c⟩ := up64_spec (i64 x)
  have hud := up_dn (i64 x)
  have hI := I_pos
  go_enter Try.func63, Try.ntmps63
  go_wp2_with fail
  refine (nearby_calls h _).mono ?_
  rintro e w1 ⟨f, rfl, hf, h1, h2, rfl⟩
  obtain ⟨u, u1, u2, u3⟩ := widen hf
  obtain ⟨v1, v2⟩ := i32_range hf
  obtain ⟨m1, m2⟩ := up_le u3 r1 r2
  have d1 := conv_up u1
  rw [c _ v1 v2] at m2
  clear c m1
  by_cases hc : i64 u < i64 x
  · have o1 := o64_lt u2 h hc
    have e1 : i32 f = up64 (i64 x) - 1 := by omega
    have d2 := conv_dn c_pinf
    have E : Hid (i32 f + 1 = up64 (i64 x)) := by show _ = _; omega
    have n1 : Num32 (if i32 f = -1 then 2147483648 else w32 (i32 f + 1)) := by
      split
      · unfold Num32; omega
      · exact num_w32 (by omega) (by omega)
    have n2 : i32 (if i32 f = -1 then 2147483648 else w32 (i32 f + 1)) = i32 f + 1 := by
      split
      · rename_i h; rw [i32_mzero, h]; rfl
      · exact i32_w32 (by omega) (by omega)
    obtain ⟨z, hz⟩ : ∃ z, z = (if i32 f = -1 then 2147483648 else w32 (i32 f + 1)) := ⟨_, rfl⟩
    rw [← hz] at n1 n2
    have N2 : Hid (i32 z = i32 f + 1) := n2
    have HZ : Hid ((if i32 f = -1 then 2147483648 else w32 (i32 f + 1)) = z) := hz.symm
    clear e1 n2 hz
    go_wp2_with fail
    refine (inf_pos _).mono ?_
    rintro e w2 ⟨rfl, rfl⟩
    go_wp2_with fail
    refine (next32_up hf (by omega) _).mono ?_
    rintro e w3 ⟨rfl, rfl⟩
    rw [HZ.out]
    go_wp2_with fail
    refine (wm_calls n1 _).mono ?_
    rintro e w4 ⟨rfl, rfl⟩
    go_wp2_with fail
    go_ret
    refine ⟨?_, rfl⟩
    rw [N2.out, E.out]; rfl
  · have o1 : (F64.order u x == some .lt) = false := by
      rcases Int.lt_or_eq_of_le (Int.not_lt.1 hc) with h2 | h2
      · rw [o64_gt u2 h h2]; rfl
      · rw [o64_eq u2 h h2.symm]; rfl
    have e1 : i32 f = up64 (i64 x) := by omega
    have E : Hid (i32 f = up64 (i64 x)) := e1
    clear e1
    go_wp2_with fail
    refine (wm_calls hf _).mono ?_
    rintro e w4 ⟨rfl, rfl⟩
    go_wp2_with fail
    go_ret
    refine ⟨?_, rfl⟩
    rw [E.out]; rfl

theorem n_zero64 : Num64 0 := by unfold Num64; omega
theorem i_zero64 : i64 0 = 0 := by decide +kernel

theorem copysign64_dn (w : World) : Calls Try.prog 72 #[.float .f64 1, .float .f64 18442240474082181120] w fun e w' => e = .returned (.float .f64 9223372036854775809) ∧ w' = w := by
  have h1 := run_f64from
  have h2 := run_f64bits
  go_enter Try.func72, Try.ntmps72
  go_wp2
  go_ret
  exact ⟨rfl, rfl⟩
theorem copysign64_up (w : World) : Calls Try.prog 72 #[.float .f64 1, .float .f64 9218868437227405312] w fun e w' => e = .returned (.float .f64 1) ∧ w' = w := by
  have h1 := run_f64from
  have h2 := run_f64bits
  go_enter Try.func72, Try.ntmps72
  go_wp2
  go_ret
  exact ⟨rfl, rfl⟩

/-- The float64 below. -/
theorem next64_dn {x : Nat} (h : Num64 x) (hn : -J < i64 x) (w : World) :
    Calls Try.prog 60 #[.float .f64 x, .float .f64 18442240474082181120] w fun e w' => ∃ r, e = .returned (.float .f64 r) ∧ Num64 r ∧ i64 r = i64 x - 1 ∧ w' = w := by
  have oy := o64_gt h n_minf64 (by rw [i_minf64]; exact hn)
  have oy' := o64_lt n_minf64 h (by rw [i_minf64]; exact hn)
  have hx1 := h.1
  have hx2 := h.2
  have hn' := hn
  unfold J at hn'
  rcases Int.lt_trichotomy (i64 x) 0 with h0 | h0 | h0
  · have o0 := o64_lt h n_zero64 (by rw [i_zero64]; exact h0)
    have hge : 9223372036854775808 ≤ x := by rw [i64_eq x hx1] at h0; split at h0 <;> omega
    have hfin : x < 18442240474082181120 := by rw [i64_eq x hx1, if_neg (by omega)] at hn'; omega
    have N : Num64 (x + 1) := by unfold Num64; omega
    have E : Hid (i64 (x + 1) = i64 x - 1) := by
      show _ = _
      rw [i64_eq x hx1, i64_eq (x + 1) (by omega), if_neg (by omega), if_neg (by omega)]; omega
    have k1 := run_f64bits
    have k2 := run_f64from
    have hb : (x : Int) + 1 ≤ 18446744073709551615 := by omega
    clear hn' hx2 hfin hge
    go_enter Try.func60, Try.ntmps60
    go_wp2_with (go_at_call 70; refine (isNaN_calls (by first | exact h | exact n_minf64) _).mono ?_; rintro e w' ⟨rfl, rfl⟩)
    go_ret
    exact ⟨x + 1, rfl, N, E.out, rfl⟩
  · have o0 := o64_eq h n_zero64 (by rw [i_zero64]; exact h0)
    have k2 := run_f64from
    have E : Hid (i64 9223372036854775809 = i64 x - 1) := by
      show _ = _
      rw [h0]; decide +kernel
    clear h0
    go_enter Try.func60, Try.ntmps60
    go_wp2_with (first
      | (go_at_call 70; refine (isNaN_calls (by first | exact h | exact n_minf64) _).mono ?_; rintro e w' ⟨rfl, rfl⟩)
      | (go_at_call 72; refine (copysign64_dn _).mono ?_; rintro e w' ⟨rfl, rfl⟩))
    go_ret
    exact ⟨_, rfl, by unfold Num64; omega, E.out, rfl⟩
  · have o0 := o64_gt h n_zero64 (by rw [i_zero64]; exact h0)
    have hlt : x < 9223372036854775808 := by rw [i64_eq x hx1] at h0; split at h0 <;> omega
    have hpos : 1 ≤ x := by rw [i64_eq x hx1, if_pos hlt] at h0; omega
    have N : Num64 (x - 1) := by unfold Num64; omega
    have E : Hid (i64 (x - 1) = i64 x - 1) := by
      show _ = _
      rw [i64_eq x hx1, i64_eq (x - 1) (by omega), if_pos (by omega), if_pos (by omega)]; omega
    have k1 := run_f64bits
    have k2 := run_f64from
    have hb : (1 : Int) ≤ (x : Int) := by omega
    have hb2 : (x : Int) ≤ 18446744073709551615 := by omega
    clear hn' hx2
    go_enter Try.func60, Try.ntmps60
    go_wp2_with (go_at_call 70; refine (isNaN_calls (by first | exact h | exact n_minf64) _).mono ?_; rintro e w' ⟨rfl, rfl⟩)
    go_ret
    have e2 : ((x : Int) - 1).toNat = x - 1 := by omega
    refine ⟨x - 1, ?_, N, E.out, rfl⟩
    first | rfl | simp [e2]

/-- The float64 above. -/
theorem next64_up {x : Nat} (h : Num64 x) (hn : i64 x < J) (w : World) :
    Calls Try.prog 60 #[.float .f64 x, .float .f64 9218868437227405312] w fun e w' => ∃ r, e = .returned (.float .f64 r) ∧ Num64 r ∧ i64 r = i64 x + 1 ∧ w' = w := by
  have oy := o64_lt h n_pinf64 (by rw [i_pinf64]; exact hn)
  have oy' := o64_gt n_pinf64 h (by rw [i_pinf64]; exact hn)
  have hx1 := h.1
  have hx2 := h.2
  have hn' := hn
  unfold J at hn'
  rcases Int.lt_trichotomy (i64 x) 0 with h0 | h0 | h0
  · have o0 := o64_lt h n_zero64 (by rw [i_zero64]; exact h0)
    have hge : 9223372036854775809 ≤ x := by rw [i64_eq x hx1] at h0; split at h0 <;> omega
    have N : Num64 (x - 1) := by unfold Num64; omega
    have E : Hid (i64 (x - 1) = i64 x + 1) := by
      show _ = _
      rw [i64_eq x hx1, i64_eq (x - 1) (by omega), if_neg (by omega), if_neg (by omega)]; omega
    have k1 := run_f64bits
    have k2 := run_f64from
    have hb : (1 : Int) ≤ (x : Int) := by omega
    have hb2 : (x : Int) ≤ 18446744073709551615 := by omega
    clear hn' hx2 hge
    go_enter Try.func60, Try.ntmps60
    go_wp2_with (go_at_call 70; refine (isNaN_calls (by first | exact h | exact n_pinf64) _).mono ?_; rintro e w' ⟨rfl, rfl⟩)
    go_ret
    have e2 : ((x : Int) - 1).toNat = x - 1 := by omega
    refine ⟨x - 1, ?_, N, E.out, rfl⟩
    first | rfl | simp [e2]
  · have o0 := o64_eq h n_zero64 (by rw [i_zero64]; exact h0)
    have k2 := run_f64from
    have E : Hid (i64 1 = i64 x + 1) := by
      show _ = _
      rw [h0]; decide +kernel
    clear h0
    go_enter Try.func60, Try.ntmps60
    go_wp2_with (first
      | (go_at_call 70; refine (isNaN_calls (by first | exact h | exact n_pinf64) _).mono ?_; rintro e w' ⟨rfl, rfl⟩)
      | (go_at_call 72; refine (copysign64_up _).mono ?_; rintro e w' ⟨rfl, rfl⟩))
    go_ret
    exact ⟨_, rfl, by unfold Num64; omega, E.out, rfl⟩
  · have o0 := o64_gt h n_zero64 (by rw [i_zero64]; exact h0)
    have hlt : x < 9223372036854775808 := by rw [i64_eq x hx1] at h0; split at h0 <;> omega
    have hfin : x < 9218868437227405312 := by rw [i64_eq x hx1, if_pos hlt] at hn'; omega
    have N : Num64 (x + 1) := by unfold Num64; omega
    have E : Hid (i64 (x + 1) = i64 x + 1) := by
      show _ = _
      rw [i64_eq x hx1, i64_eq (x + 1) (by omega), if_pos (by omega), if_pos (by omega)]; omega
    have k1 := run_f64bits
    have k2 := run_f64from
    have hb : (x : Int) + 1 ≤ 18446744073709551615 := by omega
    clear hn' hx2 hfin hlt
    go_enter Try.func60, Try.ntmps60
    go_wp2_with (go_at_call 70; refine (isNaN_calls (by first | exact h | exact n_pinf64) _).mono ?_; rintro e w' ⟨rfl, rfl⟩)
    go_ret
    exact ⟨x + 1, rfl, N, E.out, rfl⟩
end Go.Proofs.Ytakpfdhopodleaa
