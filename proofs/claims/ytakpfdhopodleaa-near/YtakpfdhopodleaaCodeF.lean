import Derived.Test.YtakpfdhopodleaaCodeE
import Derived.Test.YtakpfdhopodleaaSpecD
namespace Go.Proofs.Ytakpfdhopodleaa
open Go.ChangeShapes Go.WideShapes Go.ChangeAt Go.RowKit Hedge
set_option linter.unusedSimpArgs false
set_option linter.unusedVariables false

theorem sumDown_calls {x y : Nat} (hx : Num32 x) (hy : Num32 y) (h1 : ¬ (i32 x = I ∧ i32 y = -I)) (h2 : ¬ (i32 x = -I ∧ i32 y = I)) (w : World) :
    Calls Try.prog 41 #[.float .f32 x, .float .f32 y] w fun r w' => r = .returned (.float .f32 (w32 (addD (i32 x) (i32 y)))) ∧ w' = w := by
  have hI := I_pos
  have hJ := J_pos
  obtain ⟨u, u1, u2, u3⟩ := widen hx
  obtain ⟨v, v1, v2, v3⟩ := widen hy
  have d1 := conv_up u1
  have d2 := conv_up v1
  obtain ⟨ux1, ux2⟩ := up_J u3
  obtain ⟨vy1, vy2⟩ := up_J v3
  obtain ⟨x1, x2⟩ := i32_range hx
  obtain ⟨y1, y2⟩ := i32_range hy
  by_cases hm : i32 x = -I ∨ i32 y = -I
  · obtain ⟨s, s1, s2, s3⟩ := add_inf u2 v2 true (by simp only [if_true]; omega)
    simp only [if_true] at s3
    have e : addD (i32 x) (i32 y) = -I := by unfold addD; rw [if_pos hm]
    have D : Hid (dn64 (i64 s) = -I) := by show _ = _; rw [s3, dn64_mJ]
    rw [e]
    have o1 := o64_eq n_zero64 n_zero64 rfl
    clear e hm h1 h2 ux1 ux2 vy1 vy2 u1 v1 u3 v3
    have hs3 : i64 s = J ∨ i64 s = -J := Or.inr s3
    clear s3
    go_enter Try.func41, Try.ntmps41
    go_wp2_with (first
      | (go_at_call 59; refine (sumrest_inf s1 s2 hs3 _).mono ?_; rintro r w' ⟨rfl, rfl⟩)
      | (go_at_call 62; refine (down_calls s2 _).mono ?_; rintro r w' ⟨rfl, rfl⟩))
    go_ret
    refine ⟨?_, rfl⟩
    rw [D.out]; rfl
  · by_cases hp : i32 x = I ∨ i32 y = I
    · obtain ⟨s, s1, s2, s3⟩ := add_inf u2 v2 false (by simp only [Bool.false_eq_true, if_false]; omega)
      simp only [Bool.false_eq_true, if_false] at s3
      have e : addD (i32 x) (i32 y) = I := by unfold addD; rw [if_neg hm, if_pos hp]
      have D : Hid (dn64 (i64 s) = I) := by show _ = _; rw [s3, dn64_J]
      rw [e]
      have o1 := o64_eq n_zero64 n_zero64 rfl
      clear e hm hp h1 h2 ux1 ux2 vy1 vy2 u1 v1 u3 v3
      have hs3 : i64 s = J ∨ i64 s = -J := Or.inl s3
      clear s3
      go_enter Try.func41, Try.ntmps41
      go_wp2_with (first
        | (go_at_call 59; refine (sumrest_inf s1 s2 hs3 _).mono ?_; rintro r w' ⟨rfl, rfl⟩)
        | (go_at_call 62; refine (down_calls s2 _).mono ?_; rintro r w' ⟨rfl, rfl⟩))
      go_ret
      refine ⟨?_, rfl⟩
      rw [D.out]; rfl
    · have e : addD (i32 x) (i32 y) = dnQ (v32 (i32 x) + v32 (i32 y)) 1 := by unfold addD; rw [if_neg hm, if_neg hp]
      have x3 : -I < i32 x := by omega
      have x4 : i32 x < I := by omega
      have y3 : -I < i32 y := by omega
      have y4 : i32 y < I := by omega
      rw [e]
      clear e hm hp h1 h2 ux1 ux2 vy1 vy2 u1 v1
      go_enter Try.func41, Try.ntmps41
      go_wp2_with fail
      refine (sumrest_fin u2 v2 x3 x4 y3 y4 u3 v3 _).mono ?_
      rintro r w1 ⟨s, q, rfl, s1, s2, s3, q1, rs, hsum, rfl⟩
      by_cases hq : i64 q < 0
      · have o1 := o64_lt q1 n_zero64 (by rw [i_zero64]; exact hq)
        have D := sum_dn (j' := i64 s - 1) s2 s3 rs hsum (by rw [if_pos hq])
        obtain ⟨Z, hZ⟩ : ∃ Z, Z = dnQ (v32 (i32 x) + v32 (i32 y)) 1 := ⟨_, rfl⟩
        rw [← hZ] at D
        have D' : Hid (dn64 (i64 s - 1) = Z) := D
        have hZ' : Hid (Z = dnQ (v32 (i32 x) + v32 (i32 y)) 1) := hZ
        clear hsum D hZ rs
        go_wp2_with fail
        refine (inf_neg _).mono ?_
        rintro r w2 ⟨rfl, rfl⟩
        go_wp2_with fail
        refine (next64_dn s1 s2 _).mono ?_
        rintro r w3 ⟨z, rfl, z1, z2, rfl⟩
        have Z2 : Hid (i64 z = i64 s - 1) := z2
        clear z2
        go_wp2_with fail
        refine (down_calls z1 _).mono ?_
        rintro r w4 ⟨rfl, rfl⟩
        go_wp2_with fail
        go_ret
        refine ⟨?_, rfl⟩
        rw [Z2.out, D'.out, hZ'.out]; rfl
      · have o1 : (F64.order q 0 == some .lt) = false := by
          rcases Int.lt_or_eq_of_le (Int.not_lt.1 hq) with h2 | h2
          · rw [o64_gt q1 n_zero64 (by rw [i_zero64]; exact h2)]; rfl
          · rw [o64_eq q1 n_zero64 (by rw [i_zero64]; exact h2.symm)]; rfl
        have D := sum_dn (j' := i64 s) s2 s3 rs hsum (by rw [if_neg hq])
        have D' : Hid (dn64 (i64 s) = dnQ (v32 (i32 x) + v32 (i32 y)) 1) := D
        clear hsum D rs
        go_wp2_with fail
        refine (down_calls s1 _).mono ?_
        rintro r w4 ⟨rfl, rfl⟩
        go_wp2_with fail
        go_ret
        refine ⟨?_, rfl⟩
        rw [D'.out]; rfl
theorem sumUp_calls {x y : Nat} (hx : Num32 x) (hy : Num32 y) (h1 : ¬ (i32 x = I ∧ i32 y = -I)) (h2 : ¬ (i32 x = -I ∧ i32 y = I)) (w : World) :
    Calls Try.prog 42 #[.float .f32 x, .float .f32 y] w fun r w' => r = .returned (.float .f32 (w32 (addU (i32 x) (i32 y)))) ∧ w' = w := by
  have hI := I_pos
  have hJ := J_pos
  obtain ⟨u, u1, u2, u3⟩ := widen hx
  obtain ⟨v, v1, v2, v3⟩ := widen hy
  have d1 := conv_up u1
  have d2 := conv_up v1
  obtain ⟨ux1, ux2⟩ := up_J u3
  obtain ⟨vy1, vy2⟩ := up_J v3
  obtain ⟨x1, x2⟩ := i32_range hx
  obtain ⟨y1, y2⟩ := i32_range hy
  by_cases hm : i32 x = -I ∨ i32 y = -I
  · obtain ⟨s, s1, s2, s3⟩ := add_inf u2 v2 true (by simp only [if_true]; omega)
    simp only [if_true] at s3
    have e : addU (i32 x) (i32 y) = -I := by unfold addU addD; rw [if_neg (by omega), if_pos (by omega)]
    have D : Hid (up64 (i64 s) = -I) := by show _ = _; rw [s3, up64_mJ]
    rw [e]
    have o1 := o64_eq n_zero64 n_zero64 rfl
    clear e hm h1 h2 ux1 ux2 vy1 vy2 u1 v1 u3 v3
    have hs3 : i64 s = J ∨ i64 s = -J := Or.inr s3
    clear s3
    go_enter Try.func42, Try.ntmps42
    go_wp2_with (first
      | (go_at_call 59; refine (sumrest_inf s1 s2 hs3 _).mono ?_; rintro r w' ⟨rfl, rfl⟩)
      | (go_at_call 63; refine (upto_calls s2 _).mono ?_; rintro r w' ⟨rfl, rfl⟩))
    go_ret
    refine ⟨?_, rfl⟩
    rw [D.out]; rfl
  · by_cases hp : i32 x = I ∨ i32 y = I
    · obtain ⟨s, s1, s2, s3⟩ := add_inf u2 v2 false (by simp only [Bool.false_eq_true, if_false]; omega)
      simp only [Bool.false_eq_true, if_false] at s3
      have e : addU (i32 x) (i32 y) = I := by unfold addU addD; rw [if_pos (by omega)]; omega
      have D : Hid (up64 (i64 s) = I) := by show _ = _; rw [s3, up64_J]
      rw [e]
      have o1 := o64_eq n_zero64 n_zero64 rfl
      clear e hm hp h1 h2 ux1 ux2 vy1 vy2 u1 v1 u3 v3
      have hs3 : i64 s = J ∨ i64 s = -J := Or.inl s3
      clear s3
      go_enter Try.func42, Try.ntmps42
      go_wp2_with (first
        | (go_at_call 59; refine (sumrest_inf s1 s2 hs3 _).mono ?_; rintro r w' ⟨rfl, rfl⟩)
        | (go_at_call 63; refine (upto_calls s2 _).mono ?_; rintro r w' ⟨rfl, rfl⟩))
      go_ret
      refine ⟨?_, rfl⟩
      rw [D.out]; rfl
    · have e : addU (i32 x) (i32 y) = upQ (v32 (i32 x) + v32 (i32 y)) 1 := by
        unfold addU addD upQ; rw [if_neg (by omega), if_neg (by omega), v32_neg, v32_neg, ← Int.neg_add]
      have x3 : -I < i32 x := by omega
      have x4 : i32 x < I := by omega
      have y3 : -I < i32 y := by omega
      have y4 : i32 y < I := by omega
      rw [e]
      clear e hm hp h1 h2 ux1 ux2 vy1 vy2 u1 v1
      go_enter Try.func42, Try.ntmps42
      go_wp2_with fail
      refine (sumrest_fin u2 v2 x3 x4 y3 y4 u3 v3 _).mono ?_
      rintro r w1 ⟨s, q, rfl, s1, s2, s3, q1, rs, hsum, rfl⟩
      by_cases hq : 0 < i64 q
      · have o1 := o64_gt q1 n_zero64 (by rw [i_zero64]; exact hq)
        have D := sum_up (j' := i64 s + 1) s2 s3 rs hsum (by rw [if_pos hq])
        obtain ⟨Z, hZ⟩ : ∃ Z, Z = upQ (v32 (i32 x) + v32 (i32 y)) 1 := ⟨_, rfl⟩
        rw [← hZ] at D
        have D' : Hid (up64 (i64 s + 1) = Z) := D
        have hZ' : Hid (Z = upQ (v32 (i32 x) + v32 (i32 y)) 1) := hZ
        clear hsum D hZ rs
        go_wp2_with fail
        refine (inf_pos _).mono ?_
        rintro r w2 ⟨rfl, rfl⟩
        go_wp2_with fail
        refine (next64_up s1 s3 _).mono ?_
        rintro r w3 ⟨z, rfl, z1, z2, rfl⟩
        have Z2 : Hid (i64 z = i64 s + 1) := z2
        clear z2
        go_wp2_with fail
        refine (upto_calls z1 _).mono ?_
        rintro r w4 ⟨rfl, rfl⟩
        go_wp2_with fail
        go_ret
        refine ⟨?_, rfl⟩
        rw [Z2.out, D'.out, hZ'.out]; rfl
      · have o1 : (F64.order q 0 == some .gt) = false := by
          rcases Int.lt_or_eq_of_le (Int.not_lt.1 hq) with h2 | h2
          · rw [o64_lt q1 n_zero64 (by rw [i_zero64]; exact h2)]; rfl
          · rw [o64_eq q1 n_zero64 (by rw [i_zero64]; exact h2)]; rfl
        have D := sum_up (j' := i64 s) s2 s3 rs hsum (by rw [if_neg hq])
        have D' : Hid (up64 (i64 s) = upQ (v32 (i32 x) + v32 (i32 y)) 1) := D
        clear hsum D rs
        go_wp2_with fail
        refine (upto_calls s1 _).mono ?_
        rintro r w4 ⟨rfl, rfl⟩
        go_wp2_with fail
        go_ret
        refine ⟨?_, rfl⟩
        rw [D'.out]; rfl
end Go.Proofs.Ytakpfdhopodleaa
