import Derived.Test.YtakpfdhopodleaaRefQ
import Derived.Test.YtakpfdhopodleaaRefR
namespace Go.Proofs.Ytakpfdhopodleaa
open Go.ChangeShapes Go.WideShapes Go.ChangeAt Go.RowKit Hedge
set_option linter.unusedSimpArgs false
set_option linter.unusedVariables false
set_option linter.unnecessarySimpa false

theorem add_calls {i j : Int} (i1 : -I ≤ i) (i2 : i ≤ I) (j1 : -I ≤ j) (j2 : j ≤ I) (hij : ¬ (i = I ∧ j = -I)) (hji : ¬ (i = -I ∧ j = I)) (up : Bool) (w : World) :
    Calls Try.prog 50 #[numV i, numV j, .bool up] w fun e w' => e = .returned (numV (if up then addU i j else addD i j)) ∧ Below w.heap.size w w' := by
  have hI := I_pos
  have eI : ∀ m : Bool, sgn m I32 = if m then -I else I := by intro m; rw [I_nat]; cases m <;> simp [sgn]
  rcases num_cases i1 i2 with hi | ⟨n1, hi⟩ | ⟨n1, M1, E1, hi, a0, a1, a2, a3, a4⟩
  · rcases num_cases j1 j2 with hj | ⟨n2, hj⟩ | ⟨n2, M2, E2, hj, b0, b1, b2, b3, b4⟩
    · subst hi; subst hj
      rw [add_zero_l (by omega) hI, numV_zero]
      go_enter Try.func50, Try.ntmps50
      go_wp2_with fail
      refine bodyPost_ret (v := .agg #[.bool false, .int .i64 0, .int .i64 0, .bool false]) (by simp [results, Try.results50, go_sem]) rfl ⟨rfl, ?_⟩
      exact below3 w _ _ _
    · subst hi
      have hh : (0 : Int) ≠ sgn (!n2) I32 := by rw [eI]; cases n2 <;> simp <;> omega
      rw [hj, add_inf_r (by omega) (by omega) hh, numV_inf, numV_zero]
      clear i1 i2 j1 j2 hij hji hj hh eI hI
      go_enter Try.func50, Try.ntmps50
      go_wp2_with fail
      refine bodyPost_ret (v := .agg #[.bool n2, .int .i64 0, .int .i64 0, .bool true]) (by simp [results, Try.results50, go_sem]) rfl ⟨rfl, ?_⟩
      exact below3 w _ _ _
    · have hr : 0 < rungOf M2 E2 ∧ rungOf M2 E2 < I32 := by unfold rungOf I32; omega
      have hjj : -I < j ∧ j < I := by rw [hj, I_nat]; unfold sgn; split <;> omega
      subst hi
      rw [add_zero_l hjj.1 hjj.2, hj, numV_fin n2 b0 b1 b2 b3 b4, numV_zero]
      clear i1 i2 j1 j2 hij hji hj hjj hr eI hI b0 b1 b2 b3 b4
      go_enter Try.func50, Try.ntmps50
      go_wp2_with fail
      refine bodyPost_ret (v := .agg #[.bool n2, .int .i64 M2, .int .i64 E2, .bool false]) (by simp [results, Try.results50, go_sem]) rfl ⟨rfl, ?_⟩
      exact below3 w _ _ _
  · have hh : j ≠ sgn (!n1) I32 := by
      rw [eI] at hi ⊢; intro h; cases n1 <;> simp at hi h <;> omega
    rw [hi, add_inf_l j1 j2 hh, numV_inf]
    obtain ⟨b0, b1, b2, b3, hb⟩ : ∃ b0 b1 b2 b3, numV j = .agg #[.bool b0, .int .i64 b1, .int .i64 b2, .bool b3] := ⟨_, _, _, _, rfl⟩
    rw [hb]
    clear i1 i2 j1 j2 hij hji hi hh eI hI hb
    go_enter Try.func50, Try.ntmps50
    go_wp2_with fail
    refine bodyPost_ret (v := .agg #[.bool n1, .int .i64 0, .int .i64 0, .bool true]) (by simp [results, Try.results50, go_sem]) rfl ⟨rfl, ?_⟩
    exact below3 w _ _ _
  · have hr1 : 0 < rungOf M1 E1 ∧ rungOf M1 E1 < I32 := by unfold rungOf I32; omega
    have hii : -I < i ∧ i < I := by rw [hi, I_nat]; unfold sgn; split <;> omega
    rcases num_cases j1 j2 with hj | ⟨n2, hj⟩ | ⟨n2, M2, E2, hj, b0, b1, b2, b3, b4⟩
    · subst hj
      rw [add_zero_r hii.1 hii.2, hi, numV_fin n1 a0 a1 a2 a3 a4, numV_zero]
      have u1 : ((M1 : Int) == 0) = false := by rw [beq_eq_false_iff_ne]; omega
      clear i1 i2 j1 j2 hij hji hi hii hr1 eI hI a0 a1 a2 a3 a4
      go_enter Try.func50, Try.ntmps50
      go_wp2_with fail
      refine bodyPost_ret (v := .agg #[.bool n1, .int .i64 M1, .int .i64 E1, .bool false]) (by simp [results, Try.results50, go_sem]) rfl ⟨rfl, ?_⟩
      exact below3 w _ _ _
    · have hh : i ≠ sgn (!n2) I32 := by rw [eI]; cases n2 <;> simp <;> omega
      rw [hj, add_inf_r i1 i2 hh, hi, numV_fin n1 a0 a1 a2 a3 a4, numV_inf]
      clear i1 i2 j1 j2 hij hji hi hj hh hii hr1 eI hI a0 a1 a2 a3 a4
      go_enter Try.func50, Try.ntmps50
      go_wp2_with fail
      refine bodyPost_ret (v := .agg #[.bool n2, .int .i64 0, .int .i64 0, .bool true]) (by simp [results, Try.results50, go_sem]) rfl ⟨rfl, ?_⟩
      exact below3 w _ _ _
    · have hr2 : 0 < rungOf M2 E2 ∧ rungOf M2 E2 < I32 := by unfold rungOf I32; omega
      have hjj : -I < j ∧ j < I := by rw [hj, I_nat]; unfold sgn; split <;> omega
      rw [addD_fin' hii.1 hii.2 hjj.1 hjj.2]
      rw [hi, hj, v32_rung n1 (by omega) a2, v32_rung n2 (by omega) b2, numV_fin n1 a0 a1 a2 a3 a4, numV_fin n2 b0 b1 b2 b3 b4]
      by_cases hE : E1 < E2
      · exact add_fin2 n1 n2 up M1 M2 E1 E2 a0 a1 a2 a3 a4 b0 b1 b2 b3 b4 hE w
      · exact add_fin1 n1 n2 up M1 M2 E1 E2 a0 a1 a2 a3 a4 b0 b1 b2 b3 b4 hE w
end Go.Proofs.Ytakpfdhopodleaa
