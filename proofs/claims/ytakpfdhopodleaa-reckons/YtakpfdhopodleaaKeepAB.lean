import Derived.Test.YtakpfdhopodleaaCodeL
namespace Go.Proofs.Ytakpfdhopodleaa
open Go.ChangeShapes Go.WideShapes Go.ChangeAt Go.RowKit Hedge
set_option linter.unusedSimpArgs false
set_option linter.unusedVariables false

theorem xor30_lt (x : Nat) (h : x < 1073741824) : x ^^^ 1073741824 = x + 1073741824 := by
  have e : x + 1073741824 = 2 ^ 30 * 1 + x := by omega
  rw [e, Nat.two_pow_add_eq_or_of_lt (by omega)]
  apply Nat.eq_of_testBit_eq
  intro i
  rw [Nat.testBit_xor, Nat.testBit_or, show (1073741824 : Nat) = 2 ^ 30 by rfl, Nat.mul_one, Nat.testBit_two_pow]
  by_cases hi : 30 = i
  · subst hi
    rw [Nat.testBit_lt_two_pow (by omega)]; simp
  · simp [hi]
theorem xor30_ge (x : Nat) (h : x < 2147483648) (h2 : 1073741824 ≤ x) : x ^^^ 1073741824 = x - 1073741824 := by
  have e := xor30_lt (x - 1073741824) (by omega)
  rw [Nat.sub_add_cancel h2] at e
  have e2 : ((x - 1073741824) ^^^ 1073741824) ^^^ 1073741824 = x - 1073741824 := by rw [Nat.xor_assoc, Nat.xor_self, Nat.xor_zero]
  rw [e] at e2; exact e2
theorem xor30 (b : Nat) (h : b < 4294967296) (h2 : b / 8388608 % 256 = 255) : b ^^^ 1073741824 = b - 1073741824 := by
  by_cases hs : b < 2147483648
  · exact xor30_ge b hs (by omega)
  · have e1 := xor_top_lt (b - 2147483648) (by omega)
    rw [Nat.sub_add_cancel (by omega)] at e1
    have e2 := xor30_ge (b - 2147483648) (by omega) (by omega)
    have e3 : b ^^^ 1073741824 = ((b - 2147483648) ^^^ 1073741824) ^^^ 2147483648 := by
      rw [Nat.xor_assoc, Nat.xor_comm 1073741824, ← Nat.xor_assoc, e1]
    rw [e3, e2, xor_top_lt _ (by omega)]; omega

def pt (b : Nat) : Nat := if b / 8388608 % 256 = 255 then b - 1073741824 else b
theorem pt_num {b : Nat} (h : b < 4294967296) : Num32 (pt b) ∧ -I < i32 (pt b) ∧ i32 (pt b) < I := by
  have key : pt b < 4294967296 ∧ pt b % 2147483648 < 2139095040 := by
    unfold pt; split <;> omega
  refine ⟨⟨key.1, by omega⟩, ?_⟩
  rw [i32_eq _ key.1]; unfold I
  constructor <;> split <;> omega
theorem pt_iv {b : Nat} (h : b < 4294967296) : Iv (pt b) (pt b) := by
  obtain ⟨a, c, d⟩ := pt_num h
  exact ⟨a, a, Int.le_refl _, d, c⟩

theorem and255 (b : Nat) (h : b < 4294967296) : bits .and .u32 ((b : Int) / 8388608) 255 = ((b / 8388608 % 256 : Nat) : Int) := by
  have e := u32_and_nat (b / 8388608) 255 (by omega) (by omega)
  have e2 : b / 8388608 &&& 255 = b / 8388608 % 256 := Nat.and_two_pow_sub_one_eq_mod (b / 8388608) 8
  rw [e2] at e
  have e3 : ((b / 8388608 : Nat) : Int) = (b : Int) / 8388608 := by omega
  rw [e3] at e
  exact e
theorem xor30i (b : Nat) (h : b < 4294967296) (h2 : b / 8388608 % 256 = 255) : bits .xor .u32 (b : Int) 1073741824 = ((pt b : Nat) : Int) := by
  have e := u32_xor_nat b 1073741824 h (by omega)
  rw [xor30 b h h2] at e
  unfold pt; rw [if_pos h2]; exact e

set_option maxRecDepth 100000 in
theorem point_calls (b : Nat) (h : b < 4294967296) (w : World) :
    Calls Try.prog 10 #[.int .u32 b] w fun e w' => e = .returned (.agg #[.float .f32 (pt b), .float .f32 (pt b)]) ∧ Below w.heap.size w w' := by
  have ea := and255 b h
  by_cases h2 : b / 8388608 % 256 = 255
  · have t1 : (bits .and .u32 ((b : Int) / 8388608) 255 == 255) = true := by rw [ea, h2]; rfl
    have EX : Hid (bits .xor .u32 (b : Int) 1073741824 = ((pt b : Nat) : Int)) := xor30i b h h2
    clear ea h2
    go_enter Try.func10, Try.ntmps10
    go_wp2_with fail
    rw [EX.out]
    refine (of_calls _ _ _).mono ?_
    rintro e w1 ⟨rfl, hb⟩
    have hb0 : Below w.heap.size w w1 := (below_alloc1 w _).trans (hb.mono (by simp))
    have r0 : w1.cell? ⟨w.heap.size, 0, none⟩ = some (.float .f32 0) := by rw [hb.cell (by simp)]; simp [go_sem]
    have r1 : w1.cell? ⟨w.heap.size, 1, none⟩ = some (.float .f32 0) := by rw [hb.cell (by simp)]; simp [go_sem]
    have f0 : w1.frozen? ⟨w.heap.size, 0, none⟩ = false := by rw [hb.frozen (by simp)]; simp [go_sem]
    have f1 : w1.frozen? ⟨w.heap.size, 1, none⟩ = false := by rw [hb.frozen (by simp)]; simp [go_sem]
    clear hb
    go_wp2_with fail
    exact bodyPost_ret (v := .agg #[.float .f32 (pt b), .float .f32 (pt b)]) (by simp [results, Try.results10, go_sem, r0, r1]) rfl ⟨rfl, (hb0.setCell (p := ⟨w.heap.size, 0, none⟩) (Nat.le_refl _) _).setCell (p := ⟨w.heap.size, 1, none⟩) (Nat.le_refl _) _⟩
  · have t1 : (bits .and .u32 ((b : Int) / 8388608) 255 == 255) = false := by
      rw [ea, beq_eq_false_iff_ne]; omega
    have ep : Hid (pt b = b) := by show _ = _; unfold pt; rw [if_neg h2]
    clear ea h2
    go_enter Try.func10, Try.ntmps10
    go_wp2_with fail
    refine (of_calls _ _ _).mono ?_
    rintro e w1 ⟨rfl, hb⟩
    have hb0 : Below w.heap.size w w1 := (below_alloc1 w _).trans (hb.mono (by simp))
    have r0 : w1.cell? ⟨w.heap.size, 0, none⟩ = some (.float .f32 0) := by rw [hb.cell (by simp)]; simp [go_sem]
    have r1 : w1.cell? ⟨w.heap.size, 1, none⟩ = some (.float .f32 0) := by rw [hb.cell (by simp)]; simp [go_sem]
    have f0 : w1.frozen? ⟨w.heap.size, 0, none⟩ = false := by rw [hb.frozen (by simp)]; simp [go_sem]
    have f1 : w1.frozen? ⟨w.heap.size, 1, none⟩ = false := by rw [hb.frozen (by simp)]; simp [go_sem]
    clear hb
    go_wp2_with fail
    exact bodyPost_ret (v := .agg #[.float .f32 b, .float .f32 b]) (by simp [results, Try.results10, go_sem, r0, r1]) rfl ⟨by rw [ep.out], (hb0.setCell (p := ⟨w.heap.size, 0, none⟩) (Nat.le_refl _) _).setCell (p := ⟨w.heap.size, 1, none⟩) (Nat.le_refl _) _⟩

def pick5 (c : Int) : Int := if c < 0 then (-(c + 1)) % 5 else c % 5
theorem pick5_range (c : Int) : 0 ≤ pick5 c ∧ pick5 c ≤ 4 := by unfold pick5; split <;> omega
theorem pick_calls (c : Int) (h1 : -9223372036854775808 ≤ c) (h2 : c ≤ 9223372036854775807) (w : World) :
    Calls Try.prog 11 #[.int .i64 c, .int .i64 5] w fun e w' => e = .returned (.int .i64 (pick5 c)) ∧ w' = w := by
  by_cases hc : c < 0
  · have E : Hid (-((c + 1).tmod 5) = pick5 c) := by
      show _ = _
      unfold pick5; rw [if_pos hc, ← Int.neg_tmod, Int.tmod_eq_emod_of_nonneg (by omega)]
    go_enter Try.func11, Try.ntmps11
    go_wp2_with fail
    go_ret
    refine ⟨?_, rfl⟩
    rw [← E.out]; rfl
  · have E : Hid (c % 5 = pick5 c) := by
      show _ = _
      unfold pick5; rw [if_neg hc]
    go_enter Try.func11, Try.ntmps11
    go_wp2_with fail
    go_ret
    refine ⟨?_, rfl⟩
    rw [← E.out]; rfl
end Go.Proofs.Ytakpfdhopodleaa
namespace Go.Proofs.Ytakpfdhopodleaa
open Go.ChangeShapes Go.WideShapes Go.ChangeAt Go.RowKit Hedge
set_option linter.unusedSimpArgs false
set_option linter.unusedVariables false

theorem step_calls {k k' : Int} (h1 : -I ≤ k) (h2 : k' ≤ I) (h : k' = k ∨ k' = k + 1) (w : World) :
    Calls Try.prog 18 #[.agg #[.float .f32 (w32 k), .float .f32 (w32 k')]] w fun e w' => e = .returned (.bool true) ∧ Below w.heap.size w w' := by
  have hk : w32 k < 4294967296 := (num_w32 h1 (by omega)).1
  have hk' : w32 k' < 4294967296 := (num_w32 (by omega) h2).1
  have e1 : w32 k = if k < 0 then 2147483648 + k.natAbs else k.natAbs := rfl
  have e2 : w32 k' = if k' < 0 then 2147483648 + k'.natAbs else k'.natAbs := rfl
  obtain ⟨x, hx⟩ : ∃ x, x = w32 k := ⟨_, rfl⟩
  obtain ⟨y, hy⟩ : ∃ y, y = w32 k' := ⟨_, rfl⟩
  rw [← hx] at e1 hk
  rw [← hy] at e2 hk'
  rw [← hx, ← hy]
  unfold I at h1 h2
  have common : (((x : Int) == (y : Int)) = true) ∨ (((x : Int) == (y : Int)) = false ∧ ((x : Int) / 2147483648 == 0) = true ∧ ((y : Int) == (x : Int) + 1) = true ∧ (x : Int) + 1 ≤ 4294967295) ∨
      (((x : Int) == (y : Int)) = false ∧ ((x : Int) / 2147483648 == 0) = false ∧ ((x : Int) == 2147483649) = true ∧ ((y : Int) == 0) = true) ∨
      (((x : Int) == (y : Int)) = false ∧ ((x : Int) / 2147483648 == 0) = false ∧ ((x : Int) == 2147483649) = false ∧ ((y : Int) == (x : Int) - 1) = true ∧ 1 ≤ (x : Int) ∧ (x : Int) ≤ 4294967295) := by
    simp only [beq_iff_eq, beq_eq_false_iff_ne, ne_eq]
    split at e1 <;> split at e2 <;> omega
  clear e1 e2 hx hy h h1 h2
  have hy0 : (y : Int) ≤ 4294967295 := by omega
  have hx0 : (x : Int) ≤ 4294967295 := by omega
  rcases common with t1 | ⟨t1, t2, t3, b1⟩ | ⟨t1, t2, t3, t4⟩ | ⟨t1, t2, t3, t4, b1, b2⟩
  all_goals
    go_enter Try.func18, Try.ntmps18
    go_wp2_with fail
    refine (bits_calls _ _ _).mono ?_
    rintro e w1 ⟨rfl, hb⟩
    have hb0 : Below w.heap.size w w1 := (below_alloc1 w _).trans (hb.mono (by simp))
    clear hb
    go_wp2_with fail
    go_ret
    exact ⟨rfl, hb0⟩

theorem up_mono {i j u v : Int} (hu : Up i u) (hv : Up j v) (h : i ≤ j) : u ≤ v := by
  have hI := I_pos
  have hJ := J_pos
  have hU : (0 : Int) < (U : Int) := by exact_mod_cast U_pos
  rcases hu with ⟨a, b⟩ | ⟨a, b⟩ | ⟨a1, a2, a3, a4, a5⟩ <;> rcases hv with ⟨c, d⟩ | ⟨c, d⟩ | ⟨c1, c2, c3, c4, c5⟩
  all_goals first
    | omega
    | (apply v64_le.1; rw [a5, c5]; exact Int.mul_le_mul_of_nonneg_right (v32_le.2 h) (by omega))

theorem n_39 : Num64 5190260616003865117 := by unfold Num64; omega
theorem n_m39 : Num64 14413632652858640925 := by unfold Num64; omega
theorem kis_calls {x y : Nat} (h : Iv x y) (w : World) :
    Calls Try.prog 19 #[.agg #[.float .f32 x, .float .f32 y]] w fun e w' => e = .returned (.bool true) ∧ Below w.heap.size w w' := by
  have hI := I_pos
  obtain ⟨u, u1, u2, u3⟩ := widen h.n1
  obtain ⟨v, v1, v2, v3⟩ := widen h.n2
  have d1 := conv_up u1
  have d2 := conv_up v1
  have o1 := leB h.n1 h.n2 h.le
  have q1 : i64 u ≤ i64 5183643170566569984 := up_mono u3 up_max (by have := h.l; omega)
  have q2 : i64 14407015207421345792 ≤ i64 v := up_mono up_min v3 (by have := h.h; omega)
  have c1 : i64 5183643170566569984 < i64 5190260616003865117 := by decide +kernel
  have c2 : i64 14413632652858640925 < i64 14407015207421345792 := by decide +kernel
  have o2 := o64_lt u2 n_39 (by omega)
  have o3 := o64_gt v2 n_m39 (by omega)
  clear q1 q2 c1 c2 u1 v1 u3 v3 h
  go_enter Try.func19, Try.ntmps19
  go_wp2
  go_ret
  exact ⟨rfl, (Below.refl _ _).alloc (Nat.le_refl _) _⟩

theorem kin_calls {x1 x2 y1 y2 : Nat} (a : Num32 x1) (b : Num32 x2) (c : Num32 y1) (d : Num32 y2) (h1 : i32 y1 ≤ i32 x1) (h2 : i32 x2 ≤ i32 y2) (w : World) :
    Calls Try.prog 20 #[.agg #[.float .f32 x1, .float .f32 x2], .agg #[.float .f32 y1, .float .f32 y2]] w fun e w' => e = .returned (.bool true) ∧ Below w.heap.size w w' := by
  have o1 := leB c a h1
  have o2 := leB b d h2
  clear h1 h2
  go_enter Try.func20, Try.ntmps20
  go_wp2
  go_ret
  exact ⟨rfl, below2 w _ _⟩

theorem known_calls (w : World) : Calls Try.prog 17 #[] w fun e w' => e = .returned (.bool true) ∧ Below w.heap.size w w' := by
  have h1 : Iv 1065353216 1073741824 := ⟨by unfold Num32; omega, by unfold Num32; omega, by decide +kernel, by decide +kernel, by decide +kernel⟩
  have h2 : Iv 1077936128 1082130432 := ⟨by unfold Num32; omega, by unfold Num32; omega, by decide +kernel, by decide +kernel, by decide +kernel⟩
  have e1 : w32 (addD (i32 1065353216) (i32 1077936128)) = 1082130432 := by decide +kernel
  have e2 : w32 (addU (i32 1073741824) (i32 1082130432)) = 1086324736 := by decide +kernel
  have o1 : F32.order 1082130432 1082130432 = some .eq := by decide +kernel
  have o2 : F32.order 1086324736 1086324736 = some .eq := by decide +kernel
  go_enter Try.func17, Try.ntmps17
  go_wp2_with fail
  refine (hadd_ok h1 h2 _).mono ?_
  rw [e1, e2]
  rintro e w1 ⟨rfl, hb⟩
  have hb0 : Below w.heap.size w (w1.alloc (.cells #[.float .f32 1082130432, .float .f32 1086324736] 28)) := hb.alloc hb.size _
  clear hb e1 e2 h1 h2
  go_wp2_with fail
  go_ret
  exact ⟨rfl, hb0⟩
end Go.Proofs.Ytakpfdhopodleaa
