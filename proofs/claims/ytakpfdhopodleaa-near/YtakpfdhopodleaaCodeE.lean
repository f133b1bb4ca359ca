import Derived.Test.YtakpfdhopodleaaCodeD
import Derived.Test.YtakpfdhopodleaaSpecC
import Derived.Laws.BitsAllLaws
namespace Go.Proofs.Ytakpfdhopodleaa
open Go.ChangeShapes Go.WideShapes Go.ChangeAt Go.RowKit Hedge
set_option linter.unusedSimpArgs false
set_option linter.unusedVariables false

theorem and_low (x : Nat) (h : x < 18446744073709551616) : (bits .andNot .u64 (x : Int) 9223372036854775808).toNat = x % 9223372036854775808 := by
  have e := u64_andNot_nat x 9223372036854775808 h (by omega)
  have e2 : (18446744073709551615 - 9223372036854775808 : Nat) = 2 ^ 63 - 1 := by decide
  rw [e2, Nat.and_two_pow_sub_one_eq_mod] at e
  have e3 : (bits .andNot .u64 (x : Int) 9223372036854775808) = ((x % 2 ^ 63 : Nat) : Int) := e
  rw [e3, Int.toNat_natCast]

theorem abs_calls {x : Nat} (h : Num64 x) (w : World) : Calls Try.prog 78 #[.float .f64 x] w fun e w' => e = .returned (.float .f64 (x % 9223372036854775808)) ∧ w' = w := by
  have h1 := run_f64from
  have h2 := run_f64bits
  have E := and_low x h.1
  obtain ⟨z, hz⟩ : ∃ z, z = bits .andNot .u64 (x : Int) 9223372036854775808 := ⟨_, rfl⟩
  rw [← hz] at E
  have E' : Hid (z.toNat = x % 9223372036854775808) := E
  clear E h
  go_enter Try.func78, Try.ntmps78
  go_wp2
  rw [← hz]
  go_ret
  refine ⟨?_, rfl⟩
  rw [← E'.out]; rfl

theorem n_top64 : Num64 9218868437227405311 := by unfold Num64; omega
theorem i_top64 : i64 9218868437227405311 = J - 1 := by decide +kernel
theorem isInf_no {x : Nat} (h : Num64 x) (h1 : -J < i64 x) (h2 : i64 x < J) (w : World) : Calls Try.prog 64 #[.float .f64 x, .int .i64 0] w fun e w' => e = .returned (.bool false) ∧ w' = w := by
  have n1 : Num64 (x % 9223372036854775808) := by unfold Num64 at *; omega
  have o1 : (F64.order (x % 9223372036854775808) 9218868437227405311 == some .gt) = false := by
    have hle : i64 (x % 9223372036854775808) ≤ i64 9218868437227405311 := by
      rw [i_top64, i64_eq _ n1.1, if_pos (by omega)]
      rw [i64_eq x h.1] at h1 h2
      have := h.1
      unfold J at *
      split at h1 <;> omega
    rcases Int.lt_or_eq_of_le hle with h3 | h3
    · rw [o64_lt n1 n_top64 h3]; rfl
    · rw [o64_eq n1 n_top64 h3]; rfl
  clear h1 h2
  go_enter Try.func64, Try.ntmps64
  go_wp2_with (go_at_call 78; refine (abs_calls h _).mono ?_; rintro e w' ⟨rfl, rfl⟩)
  go_ret
  exact ⟨rfl, rfl⟩
theorem isInf_yes {x : Nat} (h : Num64 x) (h1 : i64 x = J ∨ i64 x = -J) (w : World) : Calls Try.prog 64 #[.float .f64 x, .int .i64 0] w fun e w' => e = .returned (.bool true) ∧ w' = w := by
  have n1 : Num64 (x % 9223372036854775808) := by unfold Num64 at *; omega
  have o1 : F64.order (x % 9223372036854775808) 9218868437227405311 = some .gt := by
    apply o64_gt n1 n_top64
    rw [i_top64, i64_eq _ n1.1, if_pos (by omega)]
    rw [i64_eq x h.1] at h1
    have := h.1
    unfold J at *
    split at h1 <;> omega
  clear h1
  go_enter Try.func64, Try.ntmps64
  go_wp2_with (go_at_call 78; refine (abs_calls h _).mono ?_; rintro e w' ⟨rfl, rfl⟩)
  go_ret
  exact ⟨rfl, rfl⟩

theorem sumrest_fin {x y : Nat} {i j : Int} (hx : Num64 x) (hy : Num64 y) (i1 : -I < i) (i2 : i < I) (j1 : -I < j) (j2 : j < I) (ux : Up i (i64 x)) (uy : Up j (i64 y)) (w : World) :
    Calls Try.prog 59 #[.float .f64 x, .float .f64 y] w fun r w' => ∃ s e, r = .returned (.tuple #[.float .f64 s, .float .f64 e]) ∧ Num64 s ∧ -J < i64 s ∧ i64 s < J ∧ Num64 e ∧
      RN Ieee.double.binade ((v32 i + v32 j) * (U : Int)) (i64 s) ∧ v64 (i64 s) + v64 (i64 e) = (v32 i + v32 j) * (U : Int) ∧ w' = w := by
  obtain ⟨s, b, a, dx, dy, e, e1, e2, e3, e4, e5, e6, s1, s2, s3, he, rs, hsum⟩ := sum_words hx hy i1 i2 j1 j2 ux uy
  have f1 : ∀ t w, (binOp .add t (.float .f64 x) (.float .f64 y)).run Try.prog w = .ok (.float .f64 s) w := fun t w => run_float_arith w .add t .f64 x y s e1
  have f2 : ∀ t w, (binOp .sub t (.float .f64 s) (.float .f64 x)).run Try.prog w = .ok (.float .f64 b) w := fun t w => run_float_arith w .sub t .f64 s x b e2
  have f3 : ∀ t w, (binOp .sub t (.float .f64 s) (.float .f64 b)).run Try.prog w = .ok (.float .f64 a) w := fun t w => run_float_arith w .sub t .f64 s b a e3
  have f4 : ∀ t w, (binOp .sub t (.float .f64 x) (.float .f64 a)).run Try.prog w = .ok (.float .f64 dx) w := fun t w => run_float_arith w .sub t .f64 x a dx e4
  have f5 : ∀ t w, (binOp .sub t (.float .f64 y) (.float .f64 b)).run Try.prog w = .ok (.float .f64 dy) w := fun t w => run_float_arith w .sub t .f64 y b dy e5
  have f6 : ∀ t w, (binOp .add t (.float .f64 dx) (.float .f64 dy)).run Try.prog w = .ok (.float .f64 e) w := fun t w => run_float_arith w .add t .f64 dx dy e e6
  have HS : Hid (v64 (i64 s) + v64 (i64 e) = (v32 i + v32 j) * (U : Int)) := hsum
  clear hsum e1 e2 e3 e4 e5 e6 ux uy
  go_enter Try.func59, Try.ntmps59
  go_wp2_with (go_at_call 64; refine (isInf_no s1 s2 s3 _).mono ?_; rintro r w' ⟨rfl, rfl⟩)
  go_ret2
  exact ⟨s, e, rfl, s1, s2, s3, he, rs, HS.out, rfl⟩

theorem sumrest_inf {x y s : Nat} (hs : F64.add x y = some s) (n : Num64 s) (hi : i64 s = J ∨ i64 s = -J) (w : World) :
    Calls Try.prog 59 #[.float .f64 x, .float .f64 y] w fun r w' => r = .returned (.tuple #[.float .f64 s, .float .f64 0]) ∧ w' = w := by
  have f1 : ∀ t w, (binOp .add t (.float .f64 x) (.float .f64 y)).run Try.prog w = .ok (.float .f64 s) w := fun t w => run_float_arith w .add t .f64 x y s hs
  clear hs
  go_enter Try.func59, Try.ntmps59
  go_wp2_with (go_at_call 64; refine (isInf_yes n hi _).mono ?_; rintro r w' ⟨rfl, rfl⟩)
  go_ret2
  exact ⟨rfl, rfl⟩
end Go.Proofs.Ytakpfdhopodleaa
