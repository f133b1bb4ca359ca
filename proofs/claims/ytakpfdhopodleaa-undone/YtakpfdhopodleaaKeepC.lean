import Derived.Test.YtakpfdhopodleaaKeepB
import Derived.Test.YtakpfdhopodleaaSpecG
namespace Go.Proofs.Ytakpfdhopodleaa
open Go.ChangeShapes Go.WideShapes Go.ChangeAt Go.RowKit Hedge
set_option linter.unusedSimpArgs false
set_option linter.unusedVariables false

/-- The frame of Near: three intervals in blocks of their own. -/
structure C3 (w W : World) (bx yb bi : Nat) (x y z0 z1 : Value) : Prop where
  x0 : W.cell? ⟨bx, 0, none⟩ = some x
  x1 : W.cell? ⟨bx, 1, none⟩ = some x
  y0 : W.cell? ⟨yb, 0, none⟩ = some y
  y1 : W.cell? ⟨yb, 1, none⟩ = some y
  i0 : W.cell? ⟨bi, 0, none⟩ = some z0
  i1 : W.cell? ⟨bi, 1, none⟩ = some z1
  f0 : W.frozen? ⟨bi, 0, none⟩ = false
  f1 : W.frozen? ⟨bi, 1, none⟩ = false
  s1 : bx < W.heap.size
  s2 : yb < W.heap.size
  s3 : bi < W.heap.size
  n1 : bx ≠ bi
  n2 : yb ≠ bi
  lo : w.heap.size ≤ bi
  bl : Below w.heap.size w W

theorem C3.step {w W W' : World} {bx yb bi : Nat} {x y z0 z1 : Value} (h : C3 w W bx yb bi x y z0 z1) (hb : Below W.heap.size W W') : C3 w W' bx yb bi x y z0 z1 := by
  have hz := hb.size
  have hs := h.bl.size
  obtain ⟨x0, x1, y0, y1, i0, i1, f0, f1, s1, s2, s3, n1, n2, lo, bl⟩ := h
  refine ⟨?_, ?_, ?_, ?_, ?_, ?_, ?_, ?_, by omega, by omega, by omega, n1, n2, lo, bl.trans (hb.mono hs)⟩
  · rw [hb.cell (by exact s1)]; exact x0
  · rw [hb.cell (by exact s1)]; exact x1
  · rw [hb.cell (by exact s2)]; exact y0
  · rw [hb.cell (by exact s2)]; exact y1
  · rw [hb.cell (by exact s3)]; exact i0
  · rw [hb.cell (by exact s3)]; exact i1
  · rw [hb.frozen (by exact s3)]; exact f0
  · rw [hb.frozen (by exact s3)]; exact f1

theorem set2_other {W : World} {bi : Nat} {u v : Value} {p : Addr} (hp : p.block ≠ bi) : ((W.setCell ⟨bi, 0, none⟩ u).setCell ⟨bi, 1, none⟩ v).cell? p = W.cell? p := by
  have h1 : (⟨bi, 1, none⟩ : Addr) ≠ p := by intro e; apply hp; rw [← e]
  have h0 : (⟨bi, 0, none⟩ : Addr) ≠ p := by intro e; apply hp; rw [← e]
  rw [World.cell?_setCell_other _ _ _ _ h1, World.cell?_setCell_other _ _ _ _ h0]
theorem set2_same {W : World} {bi : Nat} {u v z0 z1 : Value} (i0 : W.cell? ⟨bi, 0, none⟩ = some z0) (i1 : W.cell? ⟨bi, 1, none⟩ = some z1) :
    ((W.setCell ⟨bi, 0, none⟩ u).setCell ⟨bi, 1, none⟩ v).cell? ⟨bi, 0, none⟩ = some u ∧ ((W.setCell ⟨bi, 0, none⟩ u).setCell ⟨bi, 1, none⟩ v).cell? ⟨bi, 1, none⟩ = some v := by
  have h01 : (⟨bi, 1, none⟩ : Addr) ≠ ⟨bi, 0, none⟩ := by simp
  have h10 : (⟨bi, 0, none⟩ : Addr) ≠ ⟨bi, 1, none⟩ := by simp
  constructor
  · rw [World.cell?_setCell_other _ _ _ _ h01]; exact World.cell?_setCell_same _ _ _ i0
  · exact World.cell?_setCell_same _ _ _ (u := z1) (by rw [World.cell?_setCell_other _ _ _ _ h10]; exact i1)

theorem C3.put {w W : World} {bx yb bi : Nat} {x y z0 z1 : Value} (h : C3 w W bx yb bi x y z0 z1) (u v : Value) : C3 w ((W.setCell ⟨bi, 0, none⟩ u).setCell ⟨bi, 1, none⟩ v) bx yb bi x y u v := by
  obtain ⟨x0, x1, y0, y1, i0, i1, f0, f1, s1, s2, s3, n1, n2, lo, bl⟩ := h
  have hsz : ((W.setCell ⟨bi, 0, none⟩ u).setCell ⟨bi, 1, none⟩ v).heap.size = W.heap.size := by simp [World.setCell]
  obtain ⟨e0, e1⟩ := set2_same (u := u) (v := v) i0 i1
  refine ⟨?_, ?_, ?_, ?_, e0, e1, by simpa using f0, by simpa using f1, by rw [hsz]; exact s1, by rw [hsz]; exact s2, by rw [hsz]; exact s3, n1, n2, lo, (bl.setCell (p := ⟨bi, 0, none⟩) lo _).setCell (p := ⟨bi, 1, none⟩) lo _⟩
  · rw [set2_other n1]; exact x0
  · rw [set2_other n1]; exact x1
  · rw [set2_other n2]; exact y0
  · rw [set2_other n2]; exact y1

theorem C3.init (w w1 w2 : World) (x y : Value) (T1 T2 T3 : TypeId) (h1 : Below w.heap.size w w1) (h2 : Below (w1.alloc (.cells #[x, x] T1)).heap.size (w1.alloc (.cells #[x, x] T1)) w2) :
    C3 w ((w2.alloc (.cells #[y, y] T2)).alloc (.cells #[.float .f32 0, .float .f32 0] T3)) w1.heap.size w2.heap.size (w2.heap.size + 1) x y (.float .f32 0) (.float .f32 0) := by
  have z1 := h1.size
  have z2 := h2.size
  simp at z2
  obtain ⟨c1, c2, c3, c4⟩ := cells4 w2 y y (.float .f32 0) (.float .f32 0) T2 T3
  have hb := below2 w2 (.cells #[y, y] T2) (.cells #[.float .f32 0, .float .f32 0] T3)
  have x0 : w2.cell? ⟨w1.heap.size, 0, none⟩ = some x := by rw [h2.cell (by simp)]; simp [go_sem]
  have x1 : w2.cell? ⟨w1.heap.size, 1, none⟩ = some x := by rw [h2.cell (by simp)]; simp [go_sem]
  refine ⟨?_, ?_, c1, c2, c3, c4, by simp [go_sem], by simp [go_sem], by simp; omega, by simp; omega, by simp, by omega, by omega, by omega, ?_⟩
  · rw [hb.cell (by show w1.heap.size < _; omega)]; exact x0
  · rw [hb.cell (by show w1.heap.size < _; omega)]; exact x1
  · exact ((h1.alloc z1 _).trans (h2.mono (by simp; omega))).trans (hb.mono (by omega))
end Go.Proofs.Ytakpfdhopodleaa
