import Derived.Test.YtakpfdhopodleaaCodeB
namespace Go.Proofs.Ytakpfdhopodleaa
open Go.ChangeShapes Go.WideShapes Go.ChangeAt Go.RowKit Hedge
set_option linter.unusedSimpArgs false
set_option linter.unusedVariables false

theorem le_total (i j : Int) : FLe i j ∨ FGe i j := by
  unfold FLe FGe
  by_cases h1 : i = -I
  · exact Or.inl (Or.inl h1)
  by_cases h2 : i = I
  · exact Or.inr (Or.inl h2)
  by_cases h3 : j = J
  · exact Or.inl (Or.inr (Or.inl h3))
  by_cases h4 : j = -J
  · exact Or.inr (Or.inr (Or.inl h4))
  rcases Int.le_total (v32 i * (U : Int)) (v64 j) with h | h
  · exact Or.inl (Or.inr (Or.inr ⟨h2, h4, h⟩))
  · exact Or.inr (Or.inr (Or.inr ⟨h1, h3, h⟩))

theorem up_dn (j : Int) : up64 j ≤ dn64 j + 1 := by
  obtain ⟨a, b, c⟩ := dn64_spec j
  obtain ⟨a', b', c'⟩ := up64_spec j
  by_cases h : dn64 j = I
  · omega
  · rcases le_total (dn64 j + 1) j with h1 | h1
    · have := (c _ (by omega) (by omega)).1 h1; omega
    · exact (c' _ (by omega) (by omega)).1 h1

theorem up_max : Up (I - 1) (i64 5183643170566569984) := by
  have h : Num32 2139095039 := by unfold Num32; omega
  obtain ⟨r, h1, h2, h3⟩ := widen h
  have e : floatToFloatBits .f32 2139095039 .f64 = some 5183643170566569984 := by decide +kernel
  rw [e] at h1; cases h1
  have e2 : i32 2139095039 = I - 1 := by decide +kernel
  rw [e2] at h3; exact h3
theorem up_min : Up (-(I - 1)) (i64 14407015207421345792) := by
  have h : Num32 4286578687 := by unfold Num32; omega
  obtain ⟨r, h1, h2, h3⟩ := widen h
  have e : floatToFloatBits .f32 4286578687 .f64 = some 14407015207421345792 := by decide +kernel
  rw [e] at h1; cases h1
  have e2 : i32 4286578687 = -(I - 1) := by decide +kernel
  rw [e2] at h3; exact h3
theorem n_max64 : Num64 5183643170566569984 := by unfold Num64; omega
theorem n_min64 : Num64 14407015207421345792 := by unfold Num64; omega

theorem nearby_calls {x : Nat} (h : Num64 x) (w : World) :
    Calls Try.prog 75 #[.float .f64 x] w fun e w' => ∃ f, e = .returned (.float .f32 f) ∧ Num32 f ∧ dn64 (i64 x) ≤ i32 f ∧ i32 f ≤ up64 (i64 x) ∧ w' = w := by
  obtain ⟨r1, r2⟩ := i64_range h
  obtain ⟨a, b, c⟩ := dn64_spec (i64 x)
  obtain ⟨a', b', c'⟩ := up64_spec (i64 x)
  obtain ⟨m1, m2⟩ := up_le up_max r1 r2
  obtain ⟨m3, m4⟩ := up_le up_min r1 r2
  have hI := I_pos
  by_cases h1 : i64 5183643170566569984 < i64 x
  · have o1 := o64_gt h n_max64 h1
    have d1 := conv_dn c_pinf
    go_enter Try.func75, Try.ntmps75
    go_wp2_with (go_at_call 61; refine (inf_pos _).mono ?_; rintro e w' ⟨rfl, rfl⟩)
    go_ret
    refine ⟨_, rfl, n_pinf, by rw [i_pinf]; omega, ?_, rfl⟩
    rw [i_pinf]
    apply Int.le_of_not_gt
    intro hc
    have := m2.2 ((c' (I - 1) (by omega) (by omega)).2 (by omega))
    omega
  · have h1' : i64 x ≤ i64 5183643170566569984 := by omega
    have o1 : (F64.order x 5183643170566569984 == some .gt) = false := by
      rcases Int.lt_or_eq_of_le h1' with h2 | h2
      · rw [o64_lt h n_max64 h2]; rfl
      · rw [o64_eq h n_max64 h2]; rfl
    by_cases h3 : i64 x < i64 14407015207421345792
    · have o2 := o64_lt h n_min64 h3
      have d1 := conv_dn c_minf
      go_enter Try.func75, Try.ntmps75
      go_wp2_with (go_at_call 61; refine (inf_neg _).mono ?_; rintro e w' ⟨rfl, rfl⟩)
      go_ret
      refine ⟨_, rfl, n_minf, ?_, by rw [i_minf]; omega, rfl⟩
      rw [i_minf]
      apply Int.le_of_not_gt
      intro hc
      have := m3.2 ((c (-(I - 1)) (by omega) (by omega)).2 (by omega))
      omega
    · have h3' : i64 14407015207421345792 ≤ i64 x := by omega
      have o2 : (F64.order x 14407015207421345792 == some .lt) = false := by
        rcases Int.lt_or_eq_of_le h3' with h2 | h2
        · rw [o64_gt h n_min64 h2]; rfl
        · rw [o64_eq h n_min64 h2.symm]; rfl
      obtain ⟨r, q1, q2, q3, q4, q5, q6⟩ := narrow h (m3.1 h3') (m2.1 h1')
      have d1 := conv_dn q1
      have f1 : dn64 (i64 x) ≤ i32 r := q5 _ a b ((c _ a b).2 (Int.le_refl _))
      have f2 : i32 r ≤ up64 (i64 x) := q6 _ a' b' ((c' _ a' b').2 (Int.le_refl _))
      clear q5 q6 c c' m1 m2 m3 m4
      go_enter Try.func75, Try.ntmps75
      go_wp2_with fail
      go_ret
      exact ⟨_, rfl, q2, f1, f2, rfl⟩

theorem down_calls {x : Nat} (h : Num64 x) (w : World) :
    Calls Try.prog 62 #[.float .f64 x] w fun e w' => e = .returned (.float .f32 (w32 (dn64 (i64 x)))) ∧ w' = w := by
  obtain ⟨r1, r2⟩ := i64_range h
  obtain ⟨a, b, c⟩ := dn64_spec (i64 x)
  have hud := up_dn (i64 x)
  have hI := I_pos
  go_enter Try.func62, Try.ntmps62
  go_wp2_with fail
  refine (nearby_calls h _).mono ?_
  rintro e w1 ⟨f, rfl, hf, h1, h2, rfl⟩
  obtain ⟨u, u1, u2, u3⟩ := widen hf
  obtain ⟨v1, v2⟩ := i32_range hf
  obtain ⟨m1, m2⟩ := up_le u3 r1 r2
  have d1 := conv_up u1
  rw [c _ v1 v2] at m1
  clear c m2
  by_cases hc : i64 x < i64 u
  · have o1 := o64_gt u2 h hc
    have e1 : i32 f = dn64 (i64 x) + 1 := by omega
    have d2 := conv_dn c_minf
    have E : Hid (i32 f - 1 = dn64 (i64 x)) := by show _ = _; omega
    have n1 : Num32 (w32 (i32 f - 1)) := num_w32 (by omega) (by omega)
    have n2 : i32 (w32 (i32 f - 1)) = i32 f - 1 := i32_w32 (by omega) (by omega)
    have N2 : Hid (i32 (w32 (i32 f - 1)) = i32 f - 1) := n2
    clear e1 n2
    go_wp2_with fail
    refine (inf_neg _).mono ?_
    rintro e w2 ⟨rfl, rfl⟩
    go_wp2_with fail
    refine (next32_dn hf (by omega) _).mono ?_
    rintro e w3 ⟨rfl, rfl⟩
    go_wp2_with fail
    refine (wm_calls n1 _).mono ?_
    rintro e w4 ⟨rfl, rfl⟩
    go_wp2_with fail
    go_ret
    refine ⟨?_, rfl⟩
    rw [N2.out, E.out]; rfl
  · have o1 : (F64.order u x == some .gt) = false := by
      rcases Int.lt_or_eq_of_le (Int.not_lt.1 hc) with h2 | h2
      · rw [o64_lt u2 h h2]; rfl
      · rw [o64_eq u2 h h2]; rfl
    have e1 : i32 f = dn64 (i64 x) := by omega
    have E : Hid (i32 f = dn64 (i64 x)) := e1
    clear e1
    go_wp2_with fail
    refine (wm_calls hf _).mono ?_
    rintro e w4 ⟨rfl, rfl⟩
    go_wp2_with fail
    go_ret
    refine ⟨?_, rfl⟩
    rw [E.out]; rfl
end Go.Proofs.Ytakpfdhopodleaa
