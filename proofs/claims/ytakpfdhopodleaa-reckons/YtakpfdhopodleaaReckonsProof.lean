import Derived.Test.YtakpfdhopodleaaRows
import Derived.Test.YtakpfdhopodleaaRefEnd
import Derived.Test.YtakpfdhopodleaaArr
import Derived.WalkKit
import Derived.ProofKit
import Derived.OpenShut
namespace Go.Proofs.Ytakpfdhopodleaa.reckons
open Go.ChangeShapes Go.WideShapes Go.ChangeAt Go.RowKit
set_option linter.unusedVariables false

theorem own : ownKnob Try.prog.godebug = none := by kernel_rfl

theorem walk (a0 x0 x1 x2 x3 : Int) (w0 : (Lit.int .i64 a0).wf = true) (g0 : (Lit.int .u32 x0).wf = true) (g1 : (Lit.int .u32 x1).wf = true) (g2 : (Lit.int .u32 x2).wf = true) (g3 : (Lit.int .u32 x3).wf = true) (w : World) :
    Calls Try.prog 4 #[.int .i64 a0, .agg #[.int .u32 x0, .int .u32 x1, .int .u32 x2, .int .u32 x3]] w fun e w' => e = .returned (.bool true) ∧ Below w.heap.size w w' := by
  have b0 := bounds_u32 g0
  have b1 := bounds_u32 g1
  have b2 := bounds_u32 g2
  have b3 := bounds_u32 g3
  obtain ⟨a, rfl⟩ : ∃ x : Nat, x0 = x := ⟨x0.toNat, by omega⟩
  obtain ⟨b, rfl⟩ : ∃ x : Nat, x1 = x := ⟨x1.toNat, by omega⟩
  obtain ⟨c, rfl⟩ : ∃ x : Nat, x2 = x := ⟨x2.toNat, by omega⟩
  obtain ⟨d, rfl⟩ : ∃ x : Nat, x3 = x := ⟨x3.toNat, by omega⟩
  exact reckons_all (by omega) (by omega) (by omega) (by omega) a0 w
set_option maxRecDepth 100000 in
theorem lifted (os : Os) (started : os.Started) (H : Type) (enc : TypeId × Value → H) :
    ReturnsInHanded {} Try.checked os 4 .any (Rows.reckonsSpec.pre6 enc Try.prog Try.f4 Rows.reckonsRow.domain false) (Rows.reckonsSpec.post enc Try.prog Try.f4 false true false false) := by
  refine returnsInHanded_of_change (C := Try.checked) own started (by kernel_rfl) Try.func4
    (ChangeSpec.witness6 (enc := enc) (C := Try.checked) false ⟨#[], #[.int .i64 0, .agg #[.int .u32 0, .int .u32 0, .int .u32 0, .int .u32 0]], []⟩ 8 (by kernel_rfl) (by kernel_rfl) (by kernel_rfl) (by kernel_rfl)) ?_
  intro W base args ds gs before hval0 hW hcnd _
  have hval : ∀ (j : Nat) t v, Try.f4.params[j]? = some t → args[j]? = some v → Value.okWide Try.prog W .any base t v := hval0
  have hW' := hW
  obtain ⟨p, q, hA0, hV, rfl, hfz, hnd⟩ := hW
  have hA : DataW.TrodAll enc Try.prog W 0 (fun _ => true) true Try.f4.params.toList args.toList ds p := hA0
  rw [Try.params4] at hA hval
  obtain ⟨v0, vs0, d0, ds0, p0, q0, hargs, rfl, rfl, h0, r0⟩ := trodAll_cons hA
  obtain ⟨v1, vs1, d1, ds1, p1, q1, rfl, rfl, rfl, h1, r1⟩ := trodAll_cons r0
  obtain ⟨rfl, rfl, rfl⟩ := trodAll_nil r1
  obtain rfl : args = #[v0, v1] := by cases args; simp_all
  obtain ⟨rfl, rfl⟩ := trodVars_none hV
  obtain ⟨a0, rfl, rfl, rfl, w0⟩ := open_int Try.underlying3 (hval 0 3 v0 rfl rfl) h0
  obtain ⟨x0, x1, x2, x3, rfl, rfl, rfl, g0, g1, g2, g3⟩ := open_u32x4 (hval 1 24 v1 rfl rfl) h1
  clear hA0 hval0
  simp only [List.append_nil] at hW'
  refine (walk a0 x0 x1 x2 x3 w0 g0 g1 g2 g3 W).mono fun e W' ⟨he, hg⟩ => ?_
  subst he
  exact ⟨_, rfl, _, _, _, [], [], [], hW', trodAll_mk1 (shut_bool Try.underlying4 _), (trodAll_cons_mk (shut_int Try.underlying3 w0) (trodAll_cons_mk (shut_u32x4 g0 g1 g2 g3) trodAll_mk0)), rfl, hg.frame _, fun h => by cases h⟩

theorem over : Rows.reckonsRow.holds Try.pinned (OpenSpec.ofChange Rows.reckonsSpec) :=
  OpenClaim.holds_of_wide 4 Try.f4 rfl rfl rfl rfl rfl rfl rfl ⟨rfl, rfl, rfl, rfl, rfl⟩ rfl rfl rfl rfl rfl (by kernel_rfl) Try.func4 (by kernel_rfl)
    (of_decide_eq_true (by kernel_rfl)) (by unfold Func.isWrapper; first | (rw [if_pos (by decide +kernel)]; kernel_rfl) | (rw [if_neg (by decide +kernel)]; exact ⟨rfl, rfl⟩))
    (fun os started H enc _ => lifted os started H enc)

theorem proved : Rows.ReckonsSaid :=
  over
#print axioms proved
end Go.Proofs.Ytakpfdhopodleaa.reckons
