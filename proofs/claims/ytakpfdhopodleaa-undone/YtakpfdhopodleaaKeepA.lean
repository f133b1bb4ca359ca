import Derived.Test.YtakpfdhopodleaaCodeL
namespace Go.Proofs.Ytakpfdhopodleaa
open Go.ChangeShapes Go.WideShapes Go.ChangeAt Go.RowKit Hedge
set_option linter.unusedSimpArgs false
set_option linter.unusedVariables false

theorem xor30_lt (x : Nat) (h : x < 1073741824) : x ^^^ 1073741824 = x + 1073741824 := by
  have e : x + 1073741824 = 2 ^ 30 * 1 + x := by omega
  rw [e, Nat.two_pow_add_eq_or_of_lt (by omega)]
  apply Nat.eq_of_testBit_eq
  intro i
  rw [Nat.testBit_xor, Nat.testBit_or, show (1073741824 : Nat) = 2 ^ 30 by rfl, Nat.mul_one, Nat.testBit_two_pow]
  by_cases hi : 30 = i
  · subst hi
    rw [Nat.testBit_lt_two_pow (by omega)]; simp
  · simp [hi]
theorem xor30_ge (x : Nat) (h : x < 2147483648) (h2 : 1073741824 ≤ x) : x ^^^ 1073741824 = x - 1073741824 := by
  have e := xor30_lt (x - 1073741824) (by omega)
  rw [Nat.sub_add_cancel h2] at e
  have e2 : ((x - 1073741824) ^^^ 1073741824) ^^^ 1073741824 = x - 1073741824 := by rw [Nat.xor_assoc, Nat.xor_self, Nat.xor_zero]
  rw [e] at e2; exact e2
theorem xor30 (b : Nat) (h : b < 4294967296) (h2 : b / 8388608 % 256 = 255) : b ^^^ 1073741824 = b - 1073741824 := by
  by_cases hs : b < 2147483648
  · exact xor30_ge b hs (by omega)
  · have e1 := xor_top_lt (b - 2147483648) (by omega)
    rw [Nat.sub_add_cancel (by omega)] at e1
    have e2 := xor30_ge (b - 2147483648) (by omega) (by omega)
    have e3 : b ^^^ 1073741824 = ((b - 2147483648) ^^^ 1073741824) ^^^ 2147483648 := by
      rw [Nat.xor_assoc, Nat.xor_comm 1073741824, ← Nat.xor_assoc, e1]
    rw [e3, e2, xor_top_lt _ (by omega)]; omega

def pt (b : Nat) : Nat := if b / 8388608 % 256 = 255 then b - 1073741824 else b
theorem pt_num {b : Nat} (h : b < 4294967296) : Num32 (pt b) ∧ -I < i32 (pt b) ∧ i32 (pt b) < I := by
  have key : pt b < 4294967296 ∧ pt b % 2147483648 < 2139095040 := by
    unfold pt; split <;> omega
  refine ⟨⟨key.1, by omega⟩, ?_⟩
  rw [i32_eq _ key.1]; unfold I
  constructor <;> split <;> omega
theorem pt_iv {b : Nat} (h : b < 4294967296) : Iv (pt b) (pt b) := by
  obtain ⟨a, c, d⟩ := pt_num h
  exact ⟨a, a, Int.le_refl _, d, c⟩

theorem and255 (b : Nat) (h : b < 4294967296) : bits .and .u32 ((b : Int) / 8388608) 255 = ((b / 8388608 % 256 : Nat) : Int) := by
  have e := u32_and_nat (b / 8388608) 255 (by omega) (by omega)
  have e2 : b / 8388608 &&& 255 = b / 8388608 % 256 := Nat.and_two_pow_sub_one_eq_mod (b / 8388608) 8
  rw [e2] at e
  have e3 : ((b / 8388608 : Nat) : Int) = (b : Int) / 8388608 := by omega
  rw [e3] at e
  exact e
theorem xor30i (b : Nat) (h : b < 4294967296) (h2 : b / 8388608 % 256 = 255) : bits .xor .u32 (b : Int) 1073741824 = ((pt b : Nat) : Int) := by
  have e := u32_xor_nat b 1073741824 h (by omega)
  rw [xor30 b h h2] at e
  unfold pt; rw [if_pos h2]; exact e

set_option maxRecDepth 100000 in
theorem point_calls (b : Nat) (h : b < 4294967296) (w : World) :
    Calls Try.prog 10 #[.int .u32 b] w fun e w' => e = .returned (.agg #[.float .f32 (pt b), .float .f32 (pt b)]) ∧ Below w.heap.size w w' := by
  have ea := and255 b h
  by_cases h2 : b / 8388608 % 256 = 255
  · have t1 : (bits .and .u32 ((b : Int) / 8388608) 255 == 255) = true := by rw [ea, h2]; rfl
    have EX : Hid (bits .xor .u32 (b : Int) 1073741824 = ((pt b : Nat) : Int)) := xor30i b h h2
    clear ea h2
    go_enter Try.func10, Try.ntmps10
    go_wp2_with fail
    rw [EX.out]
    refine (of_calls _ _ _).mono ?_
    rintro e w1 ⟨rfl, hb⟩
    have hb0 : Below w.heap.size w w1 := (below_alloc1 w _).trans (hb.mono (by simp))
    have r0 : w1.cell? ⟨w.heap.size, 0, none⟩ = some (.float .f32 0) := by rw [hb.cell (by simp)]; simp [go_sem]
    have r1 : w1.cell? ⟨w.heap.size, 1, none⟩ = some (.float .f32 0) := by rw [hb.cell (by simp)]; simp [go_sem]
    have f0 : w1.frozen? ⟨w.heap.size, 0, none⟩ = false := by rw [hb.frozen (by simp)]; simp [go_sem]
    have f1 : w1.frozen? ⟨w.heap.size, 1, none⟩ = false := by rw [hb.frozen (by simp)]; simp [go_sem]
    clear hb
    go_wp2_with fail
    exact bodyPost_ret (v := .agg #[.float .f32 (pt b), .float .f32 (pt b)]) (by simp [results, Try.results10, go_sem, r0, r1]) rfl ⟨rfl, (hb0.setCell (p := ⟨w.heap.size, 0, none⟩) (Nat.le_refl _) _).setCell (p := ⟨w.heap.size, 1, none⟩) (Nat.le_refl _) _⟩
  · have t1 : (bits .and .u32 ((b : Int) / 8388608) 255 == 255) = false := by
      rw [ea, beq_eq_false_iff_ne]; omega
    have ep : Hid (pt b = b) := by show _ = _; unfold pt; rw [if_neg h2]
    clear ea h2
    go_enter Try.func10, Try.ntmps10
    go_wp2_with fail
    refine (of_calls _ _ _).mono ?_
    rintro e w1 ⟨rfl, hb⟩
    have hb0 : Below w.heap.size w w1 := (below_alloc1 w _).trans (hb.mono (by simp))
    have r0 : w1.cell? ⟨w.heap.size, 0, none⟩ = some (.float .f32 0) := by rw [hb.cell (by simp)]; simp [go_sem]
    have r1 : w1.cell? ⟨w.heap.size, 1, none⟩ = some (.float .f32 0) := by rw [hb.cell (by simp)]; simp [go_sem]
    have f0 : w1.frozen? ⟨w.heap.size, 0, none⟩ = false := by rw [hb.frozen (by simp)]; simp [go_sem]
    have f1 : w1.frozen? ⟨w.heap.size, 1, none⟩ = false := by rw [hb.frozen (by simp)]; simp [go_sem]
    clear hb
    go_wp2_with fail
    exact bodyPost_ret (v := .agg #[.float .f32 b, .float .f32 b]) (by simp [results, Try.results10, go_sem, r0, r1]) rfl ⟨by rw [ep.out], (hb0.setCell (p := ⟨w.heap.size, 0, none⟩) (Nat.le_refl _) _).setCell (p := ⟨w.heap.size, 1, none⟩) (Nat.le_refl _) _⟩

def pick5 (c : Int) : Int := if c < 0 then (-(c + 1)) % 5 else c % 5
theorem pick5_range (c : Int) : 0 ≤ pick5 c ∧ pick5 c ≤ 4 := by unfold pick5; split <;> omega
theorem pick_calls (c : Int) (h1 : -9223372036854775808 ≤ c) (h2 : c ≤ 9223372036854775807) (w : World) :
    Calls Try.prog 11 #[.int .i64 c, .int .i64 5] w fun e w' => e = .returned (.int .i64 (pick5 c)) ∧ w' = w := by
  by_cases hc : c < 0
  · have E : Hid (-((c + 1).tmod 5) = pick5 c) := by
      show _ = _
      unfold pick5; rw [if_pos hc, ← Int.neg_tmod, Int.tmod_eq_emod_of_nonneg (by omega)]
    go_enter Try.func11, Try.ntmps11
    go_wp2_with fail
    go_ret
    refine ⟨?_, rfl⟩
    rw [← E.out]; rfl
  · have E : Hid (c % 5 = pick5 c) := by
      show _ = _
      unfold pick5; rw [if_neg hc]
    go_enter Try.func11, Try.ntmps11
    go_wp2_with fail
    go_ret
    refine ⟨?_, rfl⟩
    rw [← E.out]; rfl
end Go.Proofs.Ytakpfdhopodleaa
