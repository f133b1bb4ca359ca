import Derived.Test.YtakpfdhopodleaaBase
import Derived.Test.YtakpfdhopodleaaSpecB
import Derived.Laws.FloatArith
namespace Go.Proofs.Ytakpfdhopodleaa
open Go.ChangeShapes Go.WideShapes Go.ChangeAt Go.RowKit Hedge
set_option linter.unusedSimpArgs false
set_option linter.unusedVariables false

theorem run_f64from (n : Int) (w : World) : (callFunc 73 #[.int .u64 n]).run Try.prog w = .ok (.value (.float .f64 n.toNat)) w := by
  rw [run_callFunc_extern (e := Extern.MathFloatBits.float64frombits) Try.func73 (by kernel_rfl) (by kernel_rfl) (by kernel_rfl) (by kernel_rfl)]; rfl
theorem run_f64bits (n : Nat) (w : World) : (callFunc 74 #[.float .f64 n]).run Try.prog w = .ok (.value (.int .u64 n)) w := by
  rw [run_callFunc_extern (e := Extern.MathFloatBits.float64bits) Try.func74 (by kernel_rfl) (by kernel_rfl) (by kernel_rfl) (by kernel_rfl)]; rfl
theorem conv_up {x r : Nat} (h : floatToFloatBits .f32 x .f64 = some r) (w : World) : (convert 26 49 (.float .f32 x)).run Try.prog w = .ok (.float .f64 r) w :=
  run_convert_float_float w 26 49 .f32 .f64 x r (by rw [Try.underlying26]; rfl) Try.underlying49 h
theorem conv_dn {x r : Nat} (h : floatToFloatBits .f64 x .f32 = some r) (w : World) : (convert 49 26 (.float .f64 x)).run Try.prog w = .ok (.float .f32 r) w :=
  run_convert_float_float w 49 26 .f64 .f32 x r (by rw [Try.underlying49]; rfl) Try.underlying26 h

theorem inf_pos (w : World) : Calls Try.prog 61 #[.int .i64 1] w fun e w' => e = .returned (.float .f64 9218868437227405312) ∧ w' = w := by
  have h1 := run_f64from
  go_enter Try.func61, Try.ntmps61
  go_wp2
  go_ret
  exact ⟨rfl, rfl⟩
theorem inf_neg (w : World) : Calls Try.prog 61 #[.int .i64 (-1)] w fun e w' => e = .returned (.float .f64 18442240474082181120) ∧ w' = w := by
  have h1 := run_f64from
  go_enter Try.func61, Try.ntmps61
  go_wp2
  go_ret
  exact ⟨rfl, rfl⟩
theorem isNaN_calls {x : Nat} (h : Num64 x) (w : World) : Calls Try.prog 70 #[.float .f64 x] w fun e w' => e = .returned (.bool false) ∧ w' = w := by
  have h1 := o64_eq h h rfl
  go_enter Try.func70, Try.ntmps70
  go_wp2
  go_ret
  exact ⟨rfl, rfl⟩
theorem wm_calls {x : Nat} (h : Num32 x) (w : World) : Calls Try.prog 77 #[.float .f32 x] w fun e w' => e = .returned (.float .f32 (w32 (i32 x))) ∧ w' = w := by
  have n0 : Num32 0 := by unfold Num32; omega
  by_cases h0 : i32 x = 0
  · have h1 := o32_eq h n0 (by rw [h0]; rfl)
    rw [h0]
    go_enter Try.func77, Try.ntmps77
    go_wp2
    go_ret
    exact ⟨rfl, rfl⟩
  · have h2 : x ≠ 2147483648 := by intro e; subst e; exact h0 (by decide +kernel)
    rw [w32_i32 h h2]
    rcases Int.lt_or_gt_of_ne h0 with h3 | h3
    · have h1 := o32_lt h n0 (by show _ < i32 0; rw [show i32 0 = 0 by decide +kernel]; exact h3)
      go_enter Try.func77, Try.ntmps77
      go_wp2
      go_ret
      exact ⟨rfl, rfl⟩
    · have h1 := o32_gt h n0 (by show i32 0 < _; rw [show i32 0 = 0 by decide +kernel]; exact h3)
      go_enter Try.func77, Try.ntmps77
      go_wp2
      go_ret
      exact ⟨rfl, rfl⟩
end Go.Proofs.Ytakpfdhopodleaa
