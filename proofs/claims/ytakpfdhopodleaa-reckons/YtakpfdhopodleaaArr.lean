import Derived.Test.YtakpfdhopodleaaRows
import Derived.WalkKit
import Derived.ProofKit
import Derived.OpenShut
namespace Go.Proofs.Ytakpfdhopodleaa
open Go.ChangeShapes Go.WideShapes Go.ChangeAt Go.RowKit
section
variable {H : Type} {enc : TypeId × Value → H} {W : World} {base : Nat} {sp : Nat → Bool} {held : Bool}
theorem open_u32x4 {r : Reach} {b0 : Nat} {v : Value} {d : DataW H} {ps : List MemPlace} (hval : Value.okWide Try.prog W r b0 24 v) (hd : DataW.Trod enc Try.prog W base sp held 24 v d ps) :
    ∃ x0 x1 x2 x3 : Int, v = .agg #[.int .u32 x0, .int .u32 x1, .int .u32 x2, .int .u32 x3] ∧ d = .agg [.lit (.int .u32 x0), .lit (.int .u32 x1), .lit (.int .u32 x2), .lit (.int .u32 x3)] ∧ ps = [] ∧
      (Lit.int .u32 x0).wf = true ∧ (Lit.int .u32 x1).wf = true ∧ (Lit.int .u32 x2).wf = true ∧ (Lit.int .u32 x3).wf = true := by
  simp only [Value.okWide, Try.underlying24] at hval
  obtain ⟨cs, rfl, hsz, hrest⟩ := hval
  obtain ⟨fuel, hf⟩ := hd
  cases fuel with
  | zero => simp [DataW.trod] at hf
  | succ m =>
    rw [DataW.trod_step] at hf
    unfold DataW.trodStep at hf
    simp only [Try.underlying24, Value.cells] at hf
    have c24 : Try.prog.cellsOf 24 = 4 := by kernel_rfl
    have c23 : Try.prog.cellsOf 23 = 1 := by kernel_rfl
    rw [c24] at hsz hf
    rw [c23] at hf
    obtain ⟨l⟩ := cs
    obtain ⟨v0, v1, v2, v3, rfl⟩ : ∃ v0 v1 v2 v3, l = [v0, v1, v2, v3] := by
      match l, hsz with
      | [v0, v1, v2, v3], _ => exact ⟨v0, v1, v2, v3, rfl⟩
    rw [if_pos (by rfl)] at hf
    simp only [Option.map_eq_some_iff] at hf
    obtain ⟨ys, hy, e1⟩ := hf
    rw [show List.range 4 = [0, 1, 2, 3] from rfl] at hy
    simp only [List.mapM_cons, List.mapM_nil, bind, Option.bind_eq_some_iff, pure, Option.some.injEq] at hy
    obtain ⟨y0, h0, z0, ⟨y1, h1, z1, ⟨y2, h2, z2, ⟨y3, h3, z3, rfl, rfl⟩, rfl⟩, rfl⟩, rfl⟩ := hy
    obtain ⟨n0, g0, rfl, w0⟩ := DataW.trod_int Try.underlying23 h0
    obtain ⟨n1, g1, rfl, w1⟩ := DataW.trod_int Try.underlying23 h1
    obtain ⟨n2, g2, rfl, w2⟩ := DataW.trod_int Try.underlying23 h2
    obtain ⟨n3, g3, rfl, w3⟩ := DataW.trod_int Try.underlying23 h3
    simp at g0 g1 g2 g3
    subst g0 g1 g2 g3
    simp only [Prod.mk.injEq] at e1
    exact ⟨n0, n1, n2, n3, rfl, e1.1.symm, e1.2.symm, w0, w1, w2, w3⟩

theorem shut_u32x4 {x0 x1 x2 x3 : Int} (w0 : (Lit.int .u32 x0).wf = true) (w1 : (Lit.int .u32 x1).wf = true) (w2 : (Lit.int .u32 x2).wf = true) (w3 : (Lit.int .u32 x3).wf = true) :
    DataW.Trod enc Try.prog W base sp held 24 (.agg #[.int .u32 x0, .int .u32 x1, .int .u32 x2, .int .u32 x3]) (.agg [.lit (.int .u32 x0), .lit (.int .u32 x1), .lit (.int .u32 x2), .lit (.int .u32 x3)]) [] := by
  refine ⟨2, ?_⟩
  rw [DataW.trod_step]
  unfold DataW.trodStep
  have c24 : Try.prog.cellsOf 24 = 4 := by kernel_rfl
  have c23 : Try.prog.cellsOf 23 = 1 := by kernel_rfl
  have t : ∀ (x : Int), (Lit.int .u32 x).wf = true → DataW.trod enc Try.prog W base sp held 1 23 [.int .u32 x] = some (.lit (.int .u32 x), []) := by
    intro x hx
    simp [DataW.trod, Try.underlying23, hx]
  simp only [Try.underlying24, Value.cells, c24, c23]
  rw [if_pos (by rfl), show List.range 4 = [0, 1, 2, 3] from rfl]
  simp [t x0 w0, t x1 w1, t x2 w2, t x3 w3]
end
end Go.Proofs.Ytakpfdhopodleaa
