import Derived.Test.YtakpfdhopodleaaRows
import Derived.WalkKit
import Derived.ProofKit
import Derived.OpenShut
import Derived.WalkLawsBesides
import Derived.Outline
import Derived.Laws.Externs
import Derived.Deep.QuietTactic
import Derived.BigQuiet
import Derived.WalkSmall
namespace Go.Proofs.Ytakpfdhopodleaa
open Go.ChangeShapes Go.WideShapes Go.ChangeAt Go.RowKit

@[go_sem] theorem run_store_float {P : Program} {w : World} {a : Addr} {m : Mode} (k : FloatKind) (n : Nat) : (store a (.float k n) m).run P w = stored P w a (.float k n) m := run_store P w a _ m rfl

theorem run_f32from (n : Int) (w : World) : (callFunc 32 #[.int .u32 n]).run Try.prog w = .ok (.value (.float .f32 n.toNat)) w := by
  rw [run_callFunc_extern (e := Extern.MathFloatBits.float32frombits) Try.func32 (by kernel_rfl) (by kernel_rfl) (by kernel_rfl) (by kernel_rfl)]; rfl
theorem run_f32bits (n : Nat) (w : World) : (callFunc 33 #[.float .f32 n]).run Try.prog w = .ok (.value (.int .u32 n)) w := by
  rw [run_callFunc_extern (e := Extern.MathFloatBits.float32bits) Try.func33 (by kernel_rfl) (by kernel_rfl) (by kernel_rfl) (by kernel_rfl)]; rfl

theorem bcell {W w1 : World} (hb : Below W.heap.size W w1) : (∀ b o, b < W.heap.size → w1.cell? ⟨b, o, none⟩ = W.cell? ⟨b, o, none⟩) ∧ (∀ b o, b < W.heap.size → w1.frozen? ⟨b, o, none⟩ = W.frozen? ⟨b, o, none⟩) :=
  ⟨fun b o h => hb.cell (p := ⟨b, o, none⟩) h, fun b o h => hb.frozen (p := ⟨b, o, none⟩) h⟩

theorem of_calls (lo hi : Int) (w : World) :
    Calls Try.prog 22 #[.int .u32 lo, .int .u32 hi] w fun e w' => e = .returned (.agg #[.float .f32 lo.toNat, .float .f32 hi.toNat]) ∧ Below w.heap.size w w' := by
  have h1 := run_f32from
  go_enter Try.func22, Try.ntmps22
  go_wp2
  exact bodyPost_ret (v := .agg #[.float .f32 lo.toNat, .float .f32 hi.toNat]) (by simp [results, Try.results22, go_sem]) rfl ⟨rfl, (Below.refl _ _).alloc (Nat.le_refl _) _⟩

theorem bits_calls (lo hi : Nat) (w : World) :
    Calls Try.prog 23 #[.agg #[.float .f32 lo, .float .f32 hi]] w fun e w' => e = .returned (.tuple #[.int .u32 lo, .int .u32 hi]) ∧ Below w.heap.size w w' := by
  have h1 := run_f32bits
  go_enter Try.func23, Try.ntmps23
  go_wp2
  go_quiet (fail)
  go_wp2
  go_ret2
  exact ⟨rfl, below_drewN ((Below.refl _ _).alloc (Nat.le_refl _) _) _⟩

theorem num_calls (n : Int) (w : World) :
    Calls Try.prog 21 #[.int .i64 n] w fun e w' => e = .returned (.int .i64 n) ∧ w' = w := by
  go_enter Try.func21, Try.ntmps21
  go_wp2
  go_ret
  exact ⟨rfl, rfl⟩

theorem errors_calls (w : World) :
    Calls Try.prog 7 #[] w fun e w' => e = .returned (.bool true) ∧ Below w.heap.size w w' := by
  go_enter Try.func7, Try.ntmps7
  go_wp2_with (go_at_call 21; refine (num_calls _ _).mono ?_; rintro e w' ⟨rfl, rfl⟩)
  go_ret
  exact ⟨rfl, Below.refl _ _⟩

theorem given_calls (w : World) :
    Calls Try.prog 8 #[] w fun e w' => e = .returned (.bool true) ∧ Below w.heap.size w w' := by
  have o1 : FloatKind.f32.format.order 1065353216 1065353216 = some .eq := by decide +kernel
  have o2 : FloatKind.f32.format.order 3225419776 3225419776 = some .eq := by decide +kernel
  have o3 : FloatKind.f32.format.order 2139095039 2123789977 = some .gt := by decide +kernel
  go_enter Try.func8, Try.ntmps8
  go_wp2_with fail
  refine (of_calls _ _ _).mono ?_
  rintro e w1 ⟨rfl, hb1⟩
  go_wp2_with fail
  refine (bits_calls _ _ _).mono ?_
  rintro e w2 ⟨rfl, hb2⟩
  have hz2 : w1.heap.size < w2.heap.size := by have := hb2.size; simp at this; omega
  have a0 : w2.cell? ⟨w1.heap.size, 0, none⟩ = some (.float .f32 1065353216) := by rw [hb2.cell (by simp)]; simp [go_sem]
  have a1 : w2.cell? ⟨w1.heap.size, 1, none⟩ = some (.float .f32 3225419776) := by rw [hb2.cell (by simp)]; simp [go_sem]
  go_wp2_with fail
  refine (of_calls _ _ _).mono ?_
  rintro e w3 ⟨rfl, hb3⟩
  have hz3 : w2.heap.size ≤ w3.heap.size := hb3.size
  have b0 : w3.cell? ⟨w1.heap.size, 0, none⟩ = some (.float .f32 1065353216) := by rw [hb3.cell (by simpa using hz2)]; exact a0
  have b1 : w3.cell? ⟨w1.heap.size, 1, none⟩ = some (.float .f32 3225419776) := by rw [hb3.cell (by simpa using hz2)]; exact a1
  clear a0 a1
  go_wp2_with fail
  refine (bits_calls _ _ _).mono ?_
  rintro e w4 ⟨rfl, hb4⟩
  have hz4 : w3.heap.size < w4.heap.size := by have := hb4.size; simp at this; omega
  have c0 : w4.cell? ⟨w1.heap.size, 0, none⟩ = some (.float .f32 1065353216) := by rw [hb4.cell (by simp; omega), World.cell?_alloc_past _ _ _ (by omega)]; exact b0
  have c1 : w4.cell? ⟨w1.heap.size, 1, none⟩ = some (.float .f32 3225419776) := by rw [hb4.cell (by simp; omega), World.cell?_alloc_past _ _ _ (by omega)]; exact b1
  have d1 : w4.cell? ⟨w3.heap.size, 1, none⟩ = some (.float .f32 2139095039) := by rw [hb4.cell (by simp)]; simp [go_sem]
  have hb : Below w.heap.size w w4 := ((hb1.trans (((Below.refl _ _).alloc hb1.size _).trans (hb2.mono (by simp; have := hb1.size; omega)))).trans (hb3.mono (by have := hb1.size; omega))).trans (((Below.refl _ _).alloc (by have := hb1.size; omega) _).trans (hb4.mono (by simp; have := hb1.size; omega)))
  clear b0 b1 hb1 hb2 hb3 hb4
  go_wp2_with fail
  go_ret
  exact ⟨rfl, hb⟩
end Go.Proofs.Ytakpfdhopodleaa
