import Derived.Test.YtakpfdhopodleaaCodeA
namespace Go.Proofs.Ytakpfdhopodleaa
open Go.ChangeShapes Go.WideShapes Go.ChangeAt Go.RowKit Hedge
set_option linter.unusedSimpArgs false
set_option linter.unusedVariables false

theorem copysign_dn (w : World) : Calls Try.prog 72 #[.float .f64 3936146074321813504, .float .f64 18442240474082181120] w fun e w' => e = .returned (.float .f64 13159518111176589312) ∧ w' = w := by
  have h1 := run_f64from
  have h2 := run_f64bits
  go_enter Try.func72, Try.ntmps72
  go_wp2
  go_ret
  exact ⟨rfl, rfl⟩
theorem copysign_up (w : World) : Calls Try.prog 72 #[.float .f64 3936146074321813504, .float .f64 9218868437227405312] w fun e w' => e = .returned (.float .f64 3936146074321813504) ∧ w' = w := by
  have h1 := run_f64from
  have h2 := run_f64bits
  go_enter Try.func72, Try.ntmps72
  go_wp2
  go_ret
  exact ⟨rfl, rfl⟩
theorem c_one : floatToFloatBits .f32 1 .f64 = some 3936146074321813504 := by decide +kernel
theorem c_mone : floatToFloatBits .f64 13159518111176589312 .f32 = some 2147483649 := by decide +kernel
theorem c_one' : floatToFloatBits .f64 3936146074321813504 .f32 = some 1 := by decide +kernel
theorem c_pinf : floatToFloatBits .f64 9218868437227405312 .f32 = some 2139095040 := by decide +kernel
theorem c_minf : floatToFloatBits .f64 18442240474082181120 .f32 = some 4286578688 := by decide +kernel
theorem c_pinf' : floatToFloatBits .f32 2139095040 .f64 = some 9218868437227405312 := by decide +kernel
theorem c_minf' : floatToFloatBits .f32 4286578688 .f64 = some 18442240474082181120 := by decide +kernel
theorem n_pinf : Num32 2139095040 := by unfold Num32; omega
theorem n_minf : Num32 4286578688 := by unfold Num32; omega
theorem n_zero : Num32 0 := by unfold Num32; omega
theorem i_pinf : i32 2139095040 = I := by decide +kernel
theorem i_minf : i32 4286578688 = -I := by decide +kernel
theorem i_zero : i32 0 = 0 := by decide +kernel
theorem n_pinf64 : Num64 9218868437227405312 := by unfold Num64; omega
theorem n_minf64 : Num64 18442240474082181120 := by unfold Num64; omega
theorem i_pinf64 : i64 9218868437227405312 = J := by decide +kernel
theorem i_minf64 : i64 18442240474082181120 = -J := by decide +kernel

/-- The float32 below. -/
theorem next32_dn {x : Nat} (h : Num32 x) (hn : -I < i32 x) (w : World) :
    Calls Try.prog 76 #[.float .f32 x, .float .f32 4286578688] w fun e w' => e = .returned (.float .f32 (w32 (i32 x - 1))) ∧ w' = w := by
  obtain ⟨r, hr1, hr2, hr3⟩ := widen h
  have cx := conv_up hr1
  have cy := conv_up c_minf'
  have oy := o32_gt h n_minf (by rw [i_minf]; exact hn)
  have oy' := o32_lt n_minf h (by rw [i_minf]; exact hn)
  have hx1 := h.1
  have hx2 := h.2
  rcases Int.lt_trichotomy (i32 x) 0 with h0 | h0 | h0
  · have o0 := o32_lt h n_zero (by rw [i_zero]; exact h0)
    have e : w32 (i32 x - 1) = x + 1 := by
      rw [i32_eq x hx1] at h0 ⊢; unfold w32; split at h0 <;> split <;> (try split) <;> omega
    have hge : 2147483648 ≤ x := by rw [i32_eq x hx1] at h0; split at h0 <;> omega
    rw [e]
    have k1 := run_f32bits
    have k2 := run_f32from
    have hb : (x : Int) + 1 ≤ 4294967295 := by omega
    go_enter Try.func76, Try.ntmps76
    go_wp2_with (go_at_call 70; refine (isNaN_calls (by first | exact hr2 | exact n_minf64) _).mono ?_; rintro e w' ⟨rfl, rfl⟩)
    go_ret
    exact ⟨rfl, rfl⟩
  · have o0 := o32_eq h n_zero (by rw [i_zero]; exact h0)
    rw [h0]
    have k2 := run_f32from
    have d1 := conv_up c_one
    have d2 := conv_dn c_mone
    go_enter Try.func76, Try.ntmps76
    go_wp2_with (first
      | (go_at_call 70; refine (isNaN_calls (by first | exact hr2 | exact n_minf64) _).mono ?_; rintro e w' ⟨rfl, rfl⟩)
      | (go_at_call 72; refine (copysign_dn _).mono ?_; rintro e w' ⟨rfl, rfl⟩))
    go_ret
    exact ⟨rfl, rfl⟩
  · have o0 := o32_gt h n_zero (by rw [i_zero]; exact h0)
    have hlt : x < 2147483648 := by rw [i32_eq x hx1] at h0; split at h0 <;> omega
    have e : w32 (i32 x - 1) = x - 1 := by
      rw [i32_eq x hx1] at h0 ⊢; unfold w32; rw [if_pos hlt] at h0 ⊢; split <;> omega
    have hpos : 1 ≤ x := by rw [i32_eq x hx1, if_pos hlt] at h0; omega
    rw [e]
    have k1 := run_f32bits
    have k2 := run_f32from
    have hb : (1 : Int) ≤ (x : Int) := by omega
    have hb2 : (x : Int) ≤ 4294967295 := by omega
    go_enter Try.func76, Try.ntmps76
    go_wp2_with (go_at_call 70; refine (isNaN_calls (by first | exact hr2 | exact n_minf64) _).mono ?_; rintro e w' ⟨rfl, rfl⟩)
    go_ret
    refine ⟨?_, rfl⟩
    have e2 : ((x : Int) - 1).toNat = x - 1 := by omega
    first | rfl | simp [e2]

/-- The float32 above. -/
theorem next32_up {x : Nat} (h : Num32 x) (hn : i32 x < I) (w : World) :
    Calls Try.prog 76 #[.float .f32 x, .float .f32 2139095040] w fun e w' => e = .returned (.float .f32 (if i32 x = -1 then 2147483648 else w32 (i32 x + 1))) ∧ w' = w := by
  obtain ⟨r, hr1, hr2, hr3⟩ := widen h
  have cx := conv_up hr1
  have cy := conv_up c_pinf'
  have oy := o32_lt h n_pinf (by rw [i_pinf]; exact hn)
  have oy' := o32_gt n_pinf h (by rw [i_pinf]; exact hn)
  have hx1 := h.1
  have hx2 := h.2
  rcases Int.lt_trichotomy (i32 x) 0 with h0 | h0 | h0
  · have o0 := o32_lt h n_zero (by rw [i_zero]; exact h0)
    have hge : 2147483649 ≤ x := by rw [i32_eq x hx1] at h0; split at h0 <;> omega
    have e : (if i32 x = -1 then 2147483648 else w32 (i32 x + 1)) = x - 1 := by
      have hx3 : ¬ x < 2147483648 := by omega
      rw [i32_eq x hx1, if_neg hx3]; unfold w32; split <;> (try split) <;> omega
    rw [e]
    have k1 := run_f32bits
    have k2 := run_f32from
    have hb : (1 : Int) ≤ (x : Int) := by omega
    have hb2 : (x : Int) ≤ 4294967295 := by omega
    go_enter Try.func76, Try.ntmps76
    go_wp2_with (go_at_call 70; refine (isNaN_calls (by first | exact hr2 | exact n_pinf64) _).mono ?_; rintro e w' ⟨rfl, rfl⟩)
    go_ret
    refine ⟨?_, rfl⟩
    have e2 : ((x : Int) - 1).toNat = x - 1 := by omega
    first | rfl | simp [e2]
  · have o0 := o32_eq h n_zero (by rw [i_zero]; exact h0)
    rw [h0]
    have k2 := run_f32from
    have d1 := conv_up c_one
    have d2 := conv_dn c_one'
    go_enter Try.func76, Try.ntmps76
    go_wp2_with (first
      | (go_at_call 70; refine (isNaN_calls (by first | exact hr2 | exact n_pinf64) _).mono ?_; rintro e w' ⟨rfl, rfl⟩)
      | (go_at_call 72; refine (copysign_up _).mono ?_; rintro e w' ⟨rfl, rfl⟩))
    go_ret
    exact ⟨rfl, rfl⟩
  · have o0 := o32_gt h n_zero (by rw [i_zero]; exact h0)
    have hlt : x < 2147483648 := by rw [i32_eq x hx1] at h0; split at h0 <;> omega
    have e : (if i32 x = -1 then 2147483648 else w32 (i32 x + 1)) = x + 1 := by
      rw [i32_eq x hx1, if_pos hlt, if_neg (by omega)]; unfold w32; rw [if_neg (by omega)]; omega
    rw [e]
    have k1 := run_f32bits
    have k2 := run_f32from
    have hb2 : (x : Int) + 1 ≤ 4294967295 := by omega
    go_enter Try.func76, Try.ntmps76
    go_wp2_with (go_at_call 70; refine (isNaN_calls (by first | exact hr2 | exact n_pinf64) _).mono ?_; rintro e w' ⟨rfl, rfl⟩)
    go_ret
    exact ⟨rfl, rfl⟩
end Go.Proofs.Ytakpfdhopodleaa
