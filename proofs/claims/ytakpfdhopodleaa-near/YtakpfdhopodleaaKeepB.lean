import Derived.Test.YtakpfdhopodleaaKeepA
namespace Go.Proofs.Ytakpfdhopodleaa
open Go.ChangeShapes Go.WideShapes Go.ChangeAt Go.RowKit Hedge
set_option linter.unusedSimpArgs false
set_option linter.unusedVariables false

theorem step_calls {k k' : Int} (h1 : -I ≤ k) (h2 : k' ≤ I) (h : k' = k ∨ k' = k + 1) (w : World) :
    Calls Try.prog 18 #[.agg #[.float .f32 (w32 k), .float .f32 (w32 k')]] w fun e w' => e = .returned (.bool true) ∧ Below w.heap.size w w' := by
  have hk : w32 k < 4294967296 := (num_w32 h1 (by omega)).1
  have hk' : w32 k' < 4294967296 := (num_w32 (by omega) h2).1
  have e1 : w32 k = if k < 0 then 2147483648 + k.natAbs else k.natAbs := rfl
  have e2 : w32 k' = if k' < 0 then 2147483648 + k'.natAbs else k'.natAbs := rfl
  obtain ⟨x, hx⟩ : ∃ x, x = w32 k := ⟨_, rfl⟩
  obtain ⟨y, hy⟩ : ∃ y, y = w32 k' := ⟨_, rfl⟩
  rw [← hx] at e1 hk
  rw [← hy] at e2 hk'
  rw [← hx, ← hy]
  unfold I at h1 h2
  have common : (((x : Int) == (y : Int)) = true) ∨ (((x : Int) == (y : Int)) = false ∧ ((x : Int) / 2147483648 == 0) = true ∧ ((y : Int) == (x : Int) + 1) = true ∧ (x : Int) + 1 ≤ 4294967295) ∨
      (((x : Int) == (y : Int)) = false ∧ ((x : Int) / 2147483648 == 0) = false ∧ ((x : Int) == 2147483649) = true ∧ ((y : Int) == 0) = true) ∨
      (((x : Int) == (y : Int)) = false ∧ ((x : Int) / 2147483648 == 0) = false ∧ ((x : Int) == 2147483649) = false ∧ ((y : Int) == (x : Int) - 1) = true ∧ 1 ≤ (x : Int) ∧ (x : Int) ≤ 4294967295) := by
    simp only [beq_iff_eq, beq_eq_false_iff_ne, ne_eq]
    split at e1 <;> split at e2 <;> omega
  clear e1 e2 hx hy h h1 h2
  have hy0 : (y : Int) ≤ 4294967295 := by omega
  have hx0 : (x : Int) ≤ 4294967295 := by omega
  rcases common with t1 | ⟨t1, t2, t3, b1⟩ | ⟨t1, t2, t3, t4⟩ | ⟨t1, t2, t3, t4, b1, b2⟩
  all_goals
    go_enter Try.func18, Try.ntmps18
    go_wp2_with fail
    refine (bits_calls _ _ _).mono ?_
    rintro e w1 ⟨rfl, hb⟩
    have hb0 : Below w.heap.size w w1 := (below_alloc1 w _).trans (hb.mono (by simp))
    clear hb
    go_wp2_with fail
    go_ret
    exact ⟨rfl, hb0⟩

theorem up_mono {i j u v : Int} (hu : Up i u) (hv : Up j v) (h : i ≤ j) : u ≤ v := by
  have hI := I_pos
  have hJ := J_pos
  have hU : (0 : Int) < (U : Int) := by exact_mod_cast U_pos
  rcases hu with ⟨a, b⟩ | ⟨a, b⟩ | ⟨a1, a2, a3, a4, a5⟩ <;> rcases hv with ⟨c, d⟩ | ⟨c, d⟩ | ⟨c1, c2, c3, c4, c5⟩
  all_goals first
    | omega
    | (apply v64_le.1; rw [a5, c5]; exact Int.mul_le_mul_of_nonneg_right (v32_le.2 h) (by omega))

theorem n_39 : Num64 5190260616003865117 := by unfold Num64; omega
theorem n_m39 : Num64 14413632652858640925 := by unfold Num64; omega
theorem kis_calls {x y : Nat} (h : Iv x y) (w : World) :
    Calls Try.prog 19 #[.agg #[.float .f32 x, .float .f32 y]] w fun e w' => e = .returned (.bool true) ∧ Below w.heap.size w w' := by
  have hI := I_pos
  obtain ⟨u, u1, u2, u3⟩ := widen h.n1
  obtain ⟨v, v1, v2, v3⟩ := widen h.n2
  have d1 := conv_up u1
  have d2 := conv_up v1
  have o1 := leB h.n1 h.n2 h.le
  have q1 : i64 u ≤ i64 5183643170566569984 := up_mono u3 up_max (by have := h.l; omega)
  have q2 : i64 14407015207421345792 ≤ i64 v := up_mono up_min v3 (by have := h.h; omega)
  have c1 : i64 5183643170566569984 < i64 5190260616003865117 := by decide +kernel
  have c2 : i64 14413632652858640925 < i64 14407015207421345792 := by decide +kernel
  have o2 := o64_lt u2 n_39 (by omega)
  have o3 := o64_gt v2 n_m39 (by omega)
  clear q1 q2 c1 c2 u1 v1 u3 v3 h
  go_enter Try.func19, Try.ntmps19
  go_wp2
  go_ret
  exact ⟨rfl, (Below.refl _ _).alloc (Nat.le_refl _) _⟩

theorem kin_calls {x1 x2 y1 y2 : Nat} (a : Num32 x1) (b : Num32 x2) (c : Num32 y1) (d : Num32 y2) (h1 : i32 y1 ≤ i32 x1) (h2 : i32 x2 ≤ i32 y2) (w : World) :
    Calls Try.prog 20 #[.agg #[.float .f32 x1, .float .f32 x2], .agg #[.float .f32 y1, .float .f32 y2]] w fun e w' => e = .returned (.bool true) ∧ Below w.heap.size w w' := by
  have o1 := leB c a h1
  have o2 := leB b d h2
  clear h1 h2
  go_enter Try.func20, Try.ntmps20
  go_wp2
  go_ret
  exact ⟨rfl, below2 w _ _⟩

theorem known_calls (w : World) : Calls Try.prog 17 #[] w fun e w' => e = .returned (.bool true) ∧ Below w.heap.size w w' := by
  have h1 : Iv 1065353216 1073741824 := ⟨by unfold Num32; omega, by unfold Num32; omega, by decide +kernel, by decide +kernel, by decide +kernel⟩
  have h2 : Iv 1077936128 1082130432 := ⟨by unfold Num32; omega, by unfold Num32; omega, by decide +kernel, by decide +kernel, by decide +kernel⟩
  have e1 : w32 (addD (i32 1065353216) (i32 1077936128)) = 1082130432 := by decide +kernel
  have e2 : w32 (addU (i32 1073741824) (i32 1082130432)) = 1086324736 := by decide +kernel
  have o1 : F32.order 1082130432 1082130432 = some .eq := by decide +kernel
  have o2 : F32.order 1086324736 1086324736 = some .eq := by decide +kernel
  go_enter Try.func17, Try.ntmps17
  go_wp2_with fail
  refine (hadd_ok h1 h2 _).mono ?_
  rw [e1, e2]
  rintro e w1 ⟨rfl, hb⟩
  have hb0 : Below w.heap.size w (w1.alloc (.cells #[.float .f32 1082130432, .float .f32 1086324736] 28)) := hb.alloc hb.size _
  clear hb e1 e2 h1 h2
  go_wp2_with fail
  go_ret
  exact ⟨rfl, hb0⟩
end Go.Proofs.Ytakpfdhopodleaa
