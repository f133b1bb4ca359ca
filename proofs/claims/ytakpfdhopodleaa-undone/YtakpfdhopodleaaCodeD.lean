import Derived.Test.YtakpfdhopodleaaCodeC
namespace Go.Proofs.Ytakpfdhopodleaa
open Go.ChangeShapes Go.WideShapes Go.ChangeAt Go.RowKit Hedge
set_option linter.unusedSimpArgs false
set_option linter.unusedVariables false

theorem i32_mzero : i32 2147483648 = 0 := by decide +kernel

theorem upto_calls {x : Nat} (h : Num64 x) (w : World) :
    Calls Try.prog 63 #[.float .f64 x] w fun e w' => e = .returned (.float .f32 (w32 (up64 (i64 x)))) ∧ w' = w := by
  obtain ⟨r1, r2⟩ := i64_range h
  obtain ⟨a, b, c⟩ := up64_spec (i64 x)
  have hud := up_dn (i64 x)
  have hI := I_pos
  go_enter Try.func63, Try.ntmps63
  go_wp2_with fail
  refine (nearby_calls h _).mono ?_
  rintro e w1 ⟨f, rfl, hf, h1, h2, rfl⟩
  obtain ⟨u, u1, u2, u3⟩ := widen hf
  obtain ⟨v1, v2⟩ := i32_range hf
  obtain ⟨m1, m2⟩ := up_le u3 r1 r2
  have d1 := conv_up u1
  rw [c _ v1 v2] at m2
  clear c m1
  by_cases hc : i64 u < i64 x
  · have o1 := o64_lt u2 h hc
    have e1 : i32 f = up64 (i64 x) - 1 := by omega
    have d2 := conv_dn c_pinf
    have E : Hid (i32 f + 1 = up64 (i64 x)) := by show _ = _; omega
    have n1 : Num32 (if i32 f = -1 then 2147483648 else w32 (i32 f + 1)) := by
      split
      · unfold Num32; omega
      · exact num_w32 (by omega) (by omega)
    have n2 : i32 (if i32 f = -1 then 2147483648 else w32 (i32 f + 1)) = i32 f + 1 := by
      split
      · rename_i h; rw [i32_mzero, h]; rfl
      · exact i32_w32 (by omega) (by omega)
    obtain ⟨z, hz⟩ : ∃ z, z = (if i32 f = -1 then 2147483648 else w32 (i32 f + 1)) := ⟨_, rfl⟩
    rw [← hz] at n1 n2
    have N2 : Hid (i32 z = i32 f + 1) := n2
    have HZ : Hid ((if i32 f = -1 then 2147483648 else w32 (i32 f + 1)) = z) := hz.symm
    clear e1 n2 hz
    go_wp2_with fail
    refine (inf_pos _).mono ?_
    rintro e w2 ⟨rfl, rfl⟩
    go_wp2_with fail
    refine (next32_up hf (by omega) _).mono ?_
    rintro e w3 ⟨rfl, rfl⟩
    rw [HZ.out]
    go_wp2_with fail
    refine (wm_calls n1 _).mono ?_
    rintro e w4 ⟨rfl, rfl⟩
    go_wp2_with fail
    go_ret
    refine ⟨?_, rfl⟩
    rw [N2.out, E.out]; rfl
  · have o1 : (F64.order u x == some .lt) = false := by
      rcases Int.lt_or_eq_of_le (Int.not_lt.1 hc) with h2 | h2
      · rw [o64_gt u2 h h2]; rfl
      · rw [o64_eq u2 h h2.symm]; rfl
    have e1 : i32 f = up64 (i64 x) := by omega
    have E : Hid (i32 f = up64 (i64 x)) := e1
    clear e1
    go_wp2_with fail
    refine (wm_calls hf _).mono ?_
    rintro e w4 ⟨rfl, rfl⟩
    go_wp2_with fail
    go_ret
    refine ⟨?_, rfl⟩
    rw [E.out]; rfl

theorem n_zero64 : Num64 0 := by unfold Num64; omega
theorem i_zero64 : i64 0 = 0 := by decide +kernel

theorem copysign64_dn (w : World) : Calls Try.prog 72 #[.float .f64 1, .float .f64 18442240474082181120] w fun e w' => e = .returned (.float .f64 9223372036854775809) ∧ w' = w := by
  have h1 := run_f64from
  have h2 := run_f64bits
  go_enter Try.func72, Try.ntmps72
  go_wp2
  go_ret
  exact ⟨rfl, rfl⟩
theorem copysign64_up (w : World) : Calls Try.prog 72 #[.float .f64 1, .float .f64 9218868437227405312] w fun e w' => e = .returned (.float .f64 1) ∧ w' = w := by
  have h1 := run_f64from
  have h2 := run_f64bits
  go_enter Try.func72, Try.ntmps72
  go_wp2
  go_ret
  exact ⟨rfl, rfl⟩

/-- The float64 below. -/
theorem next64_dn {x : Nat} (h : Num64 x) (hn : -J < i64 x) (w : World) :
    Calls Try.prog 60 #[.float .f64 x, .float .f64 18442240474082181120] w fun e w' => ∃ r, e = .returned (.float .f64 r) ∧ Num64 r ∧ i64 r = i64 x - 1 ∧ w' = w := by
  have oy := o64_gt h n_minf64 (by rw [i_minf64]; exact hn)
  have oy' := o64_lt n_minf64 h (by rw [i_minf64]; exact hn)
  have hx1 := h.1
  have hx2 := h.2
  have hn' := hn
  unfold J at hn'
  rcases Int.lt_trichotomy (i64 x) 0 with h0 | h0 | h0
  · have o0 := o64_lt h n_zero64 (by rw [i_zero64]; exact h0)
    have hge : 9223372036854775808 ≤ x := by rw [i64_eq x hx1] at h0; split at h0 <;> omega
    have hfin : x < 18442240474082181120 := by rw [i64_eq x hx1, if_neg (by omega)] at hn'; omega
    have N : Num64 (x + 1) := by unfold Num64; omega
    have E : Hid (i64 (x + 1) = i64 x - 1) := by
      show _ = _
      rw [i64_eq x hx1, i64_eq (x + 1) (by omega), if_neg (by omega), if_neg (by omega)]; omega
    have k1 := run_f64bits
    have k2 := run_f64from
    have hb : (x : Int) + 1 ≤ 18446744073709551615 := by omega
    clear hn' hx2 hfin hge
    go_enter Try.func60, Try.ntmps60
    go_wp2_with (go_at_call 70; refine (isNaN_calls (by first | exact h | exact n_minf64) _).mono ?_; rintro e w' ⟨rfl, rfl⟩)
    go_ret
    exact ⟨x + 1, rfl, N, E.out, rfl⟩
  · have o0 := o64_eq h n_zero64 (by rw [i_zero64]; exact h0)
    have k2 := run_f64from
    have E : Hid (i64 9223372036854775809 = i64 x - 1) := by
      show _ = _
      rw [h0]; decide +kernel
    clear h0
    go_enter Try.func60, Try.ntmps60
    go_wp2_with (first
      | (go_at_call 70; refine (isNaN_calls (by first | exact h | exact n_minf64) _).mono ?_; rintro e w' ⟨rfl, rfl⟩)
      | (go_at_call 72; refine (copysign64_dn _).mono ?_; rintro e w' ⟨rfl, rfl⟩))
    go_ret
    exact ⟨_, rfl, by unfold Num64; omega, E.out, rfl⟩
  · have o0 := o64_gt h n_zero64 (by rw [i_zero64]; exact h0)
    have hlt : x < 9223372036854775808 := by rw [i64_eq x hx1] at h0; split at h0 <;> omega
    have hpos : 1 ≤ x := by rw [i64_eq x hx1, if_pos hlt] at h0; omega
    have N : Num64 (x - 1) := by unfold Num64; omega
    have E : Hid (i64 (x - 1) = i64 x - 1) := by
      show _ = _
      rw [i64_eq x hx1, i64_eq (x - 1) (by omega), if_pos (by omega), if_pos (by omega)]; omega
    have k1 := run_f64bits
    have k2 := run_f64from
    have hb : (1 : Int) ≤ (x : Int) := by omega
    have hb2 : (x : Int) ≤ 18446744073709551615 := by omega
    clear hn' hx2
    go_enter Try.func60, Try.ntmps60
    go_wp2_with (go_at_call 70; refine (isNaN_calls (by first | exact h | exact n_minf64) _).mono ?_; rintro e w' ⟨rfl, rfl⟩)
    go_ret
    have e2 : ((x : Int) - 1).toNat = x - 1 := by omega
    refine ⟨x - 1, ?_, N, E.out, rfl⟩
    first | rfl | simp [e2]

/-- The float64 above. -/
theorem next64_up {x : Nat} (h : Num64 x) (hn : i64 x < J) (w : World) :
    Calls Try.prog 60 #[.float .f64 x, .float .f64 9218868437227405312] w fun e w' => ∃ r, e = .returned (.float .f64 r) ∧ Num64 r ∧ i64 r = i64 x + 1 ∧ w' = w := by
  have oy := o64_lt h n_pinf64 (by rw [i_pinf64]; exact hn)
  have oy' := o64_gt n_pinf64 h (by rw [i_pinf64]; exact hn)
  have hx1 := h.1
  have hx2 := h.2
  have hn' := hn
  unfold J at hn'
  rcases Int.lt_trichotomy (i64 x) 0 with h0 | h0 | h0
  · have o0 := o64_lt h n_zero64 (by rw [i_zero64]; exact h0)
    have hge : 9223372036854775809 ≤ x := by rw [i64_eq x hx1] at h0; split at h0 <;> omega
    have N : Num64 (x - 1) := by unfold Num64; omega
    have E : Hid (i64 (x - 1) = i64 x + 1) := by
      show _ = _
      rw [i64_eq x hx1, i64_eq (x - 1) (by omega), if_neg (by omega), if_neg (by omega)]; omega
    have k1 := run_f64bits
    have k2 := run_f64from
    have hb : (1 : Int) ≤ (x : Int) := by omega
    have hb2 : (x : Int) ≤ 18446744073709551615 := by omega
    clear hn' hx2 hge
    go_enter Try.func60, Try.ntmps60
    go_wp2_with (go_at_call 70; refine (isNaN_calls (by first | exact h | exact n_pinf64) _).mono ?_; rintro e w' ⟨rfl, rfl⟩)
    go_ret
    have e2 : ((x : Int) - 1).toNat = x - 1 := by omega
    refine ⟨x - 1, ?_, N, E.out, rfl⟩
    first | rfl | simp [e2]
  · have o0 := o64_eq h n_zero64 (by rw [i_zero64]; exact h0)
    have k2 := run_f64from
    have E : Hid (i64 1 = i64 x + 1) := by
      show _ = _
      rw [h0]; decide +kernel
    clear h0
    go_enter Try.func60, Try.ntmps60
    go_wp2_with (first
      | (go_at_call 70; refine (isNaN_calls (by first | exact h | exact n_pinf64) _).mono ?_; rintro e w' ⟨rfl, rfl⟩)
      | (go_at_call 72; refine (copysign64_up _).mono ?_; rintro e w' ⟨rfl, rfl⟩))
    go_ret
    exact ⟨_, rfl, by unfold Num64; omega, E.out, rfl⟩
  · have o0 := o64_gt h n_zero64 (by rw [i_zero64]; exact h0)
    have hlt : x < 9223372036854775808 := by rw [i64_eq x hx1] at h0; split at h0 <;> omega
    have hfin : x < 9218868437227405312 := by rw [i64_eq x hx1, if_pos hlt] at hn'; omega
    have N : Num64 (x + 1) := by unfold Num64; omega
    have E : Hid (i64 (x + 1) = i64 x + 1) := by
      show _ = _
      rw [i64_eq x hx1, i64_eq (x + 1) (by omega), if_pos (by omega), if_pos (by omega)]; omega
    have k1 := run_f64bits
    have k2 := run_f64from
    have hb : (x : Int) + 1 ≤ 18446744073709551615 := by omega
    clear hn' hx2 hfin hlt
    go_enter Try.func60, Try.ntmps60
    go_wp2_with (go_at_call 70; refine (isNaN_calls (by first | exact h | exact n_pinf64) _).mono ?_; rintro e w' ⟨rfl, rfl⟩)
    go_ret
    exact ⟨x + 1, rfl, N, E.out, rfl⟩
end Go.Proofs.Ytakpfdhopodleaa
