import Derived.Test.YtakpfdhopodleaaKeepC
import Derived.Test.YtakpfdhopodleaaRefAB
namespace Go.Proofs.Ytakpfdhopodleaa
open Go.ChangeShapes Go.WideShapes Go.ChangeAt Go.RowKit Hedge
set_option linter.unusedSimpArgs false
set_option linter.unusedVariables false

def nM (k : Int) : Int := if k = I ∨ k = -I then 0 else (sig Ieee.single.binade k.natAbs : Int)
def nE (k : Int) : Int := if k = 0 ∨ k = I ∨ k = -I then 0 else (ex Ieee.single.binade k.natAbs : Int) - 149
def nI (k : Int) : Bool := decide (k = I ∨ k = -I)
/-- The number of an index, as the document's answer keeps it. -/
def numV (k : Int) : Value := .agg #[.bool (decide (k < 0)), .int .i64 (nM k), .int .i64 (nE k), .bool (nI k)]

/-- A number in a block of its own, and the result's block behind it. -/
structure Nf (w W : World) (neg : Bool) (M E : Int) (inf : Bool) : Prop where
  c0 : W.cell? ⟨w.heap.size, 0, none⟩ = some (.bool neg)
  c1 : W.cell? ⟨w.heap.size, 1, none⟩ = some (.int .i64 M)
  c2 : W.cell? ⟨w.heap.size, 2, none⟩ = some (.int .i64 E)
  c3 : W.cell? ⟨w.heap.size, 3, none⟩ = some (.bool inf)
  r0 : W.cell? ⟨w.heap.size + 1, 0, none⟩ = some (.bool false)
  r1 : W.cell? ⟨w.heap.size + 1, 1, none⟩ = some (.int .i64 0)
  r2 : W.cell? ⟨w.heap.size + 1, 2, none⟩ = some (.int .i64 0)
  r3 : W.cell? ⟨w.heap.size + 1, 3, none⟩ = some (.bool false)
  g0 : W.frozen? ⟨w.heap.size, 0, none⟩ = false
  g1 : W.frozen? ⟨w.heap.size, 1, none⟩ = false
  g2 : W.frozen? ⟨w.heap.size, 2, none⟩ = false
  f0 : W.frozen? ⟨w.heap.size + 1, 0, none⟩ = false
  f1 : W.frozen? ⟨w.heap.size + 1, 1, none⟩ = false
  f2 : W.frozen? ⟨w.heap.size + 1, 2, none⟩ = false
  f3 : W.frozen? ⟨w.heap.size + 1, 3, none⟩ = false
  sz : w.heap.size + 1 < W.heap.size
  bl : Below w.heap.size w W

theorem Nf.init (w : World) (neg : Bool) (M E : Int) (inf : Bool) (T1 T2 : TypeId) :
    Nf w ((w.alloc (.cells #[.bool neg, .int .i64 M, .int .i64 E, .bool inf] T1)).alloc (.cells #[.bool false, .int .i64 0, .int .i64 0, .bool false] T2)) neg M E inf := by
  have hb := below_alloc1 (w.alloc (.cells #[.bool neg, .int .i64 M, .int .i64 E, .bool inf] T1)) (.cells #[.bool false, .int .i64 0, .int .i64 0, .bool false] T2)
  refine ⟨?_, ?_, ?_, ?_, by simp [go_sem], by simp [go_sem], by simp [go_sem], by simp [go_sem], ?_, ?_, ?_, by simp [go_sem], by simp [go_sem], by simp [go_sem], by simp [go_sem], by simp, below2 w _ _⟩
  · rw [hb.cell (by simp)]; simp [go_sem]
  · rw [hb.cell (by simp)]; simp [go_sem]
  · rw [hb.cell (by simp)]; simp [go_sem]
  · rw [hb.cell (by simp)]; simp [go_sem]
  · rw [hb.frozen (by simp)]; simp [go_sem]
  · rw [hb.frozen (by simp)]; simp [go_sem]
  · rw [hb.frozen (by simp)]; simp [go_sem]

theorem set_other {W : World} {a b : Addr} {v : Value} (h : a ≠ b) : (W.setCell a v).cell? b = W.cell? b := World.cell?_setCell_other _ _ _ _ h
theorem set_same {W : World} {a : Addr} {u v : Value} (h : W.cell? a = some u) : (W.setCell a v).cell? a = some v := World.cell?_setCell_same _ _ _ h
theorem size_set (W : World) (a : Addr) (v : Value) : (W.setCell a v).heap.size = W.heap.size := by simp [World.setCell]

theorem Nf.setM {w W : World} {neg inf : Bool} {M E : Int} (h : Nf w W neg M E inf) (M' : Int) : Nf w (W.setCell ⟨w.heap.size, 1, none⟩ (.int .i64 M')) neg M' E inf := by
  obtain ⟨c0, c1, c2, c3, r0, r1, r2, r3, g0, g1, g2, f0, f1, f2, f3, sz, bl⟩ := h
  refine ⟨?_, set_same c1, ?_, ?_, ?_, ?_, ?_, ?_, by simpa using g0, by simpa using g1, by simpa using g2, by simpa using f0, by simpa using f1, by simpa using f2, by simpa using f3, by rw [size_set]; exact sz, bl.setCell (p := ⟨w.heap.size, 1, none⟩) (Nat.le_refl _) _⟩
  · rw [set_other (by simp)]; exact c0
  · rw [set_other (by simp)]; exact c2
  · rw [set_other (by simp)]; exact c3
  · rw [set_other (by simp)]; exact r0
  · rw [set_other (by simp)]; exact r1
  · rw [set_other (by simp)]; exact r2
  · rw [set_other (by simp)]; exact r3
theorem Nf.setE {w W : World} {neg inf : Bool} {M E : Int} (h : Nf w W neg M E inf) (E' : Int) : Nf w (W.setCell ⟨w.heap.size, 2, none⟩ (.int .i64 E')) neg M E' inf := by
  obtain ⟨c0, c1, c2, c3, r0, r1, r2, r3, g0, g1, g2, f0, f1, f2, f3, sz, bl⟩ := h
  refine ⟨?_, ?_, set_same c2, ?_, ?_, ?_, ?_, ?_, by simpa using g0, by simpa using g1, by simpa using g2, by simpa using f0, by simpa using f1, by simpa using f2, by simpa using f3, by rw [size_set]; exact sz, bl.setCell (p := ⟨w.heap.size, 2, none⟩) (Nat.le_refl _) _⟩
  · rw [set_other (by simp)]; exact c0
  · rw [set_other (by simp)]; exact c1
  · rw [set_other (by simp)]; exact c3
  · rw [set_other (by simp)]; exact r0
  · rw [set_other (by simp)]; exact r1
  · rw [set_other (by simp)]; exact r2
  · rw [set_other (by simp)]; exact r3
theorem Nf.setN {w W : World} {neg inf : Bool} {M E : Int} (h : Nf w W neg M E inf) (neg' : Bool) : Nf w (W.setCell ⟨w.heap.size, 0, none⟩ (.bool neg')) neg' M E inf := by
  obtain ⟨c0, c1, c2, c3, r0, r1, r2, r3, g0, g1, g2, f0, f1, f2, f3, sz, bl⟩ := h
  refine ⟨set_same c0, ?_, ?_, ?_, ?_, ?_, ?_, ?_, by simpa using g0, by simpa using g1, by simpa using g2, by simpa using f0, by simpa using f1, by simpa using f2, by simpa using f3, by rw [size_set]; exact sz, bl.setCell (p := ⟨w.heap.size, 0, none⟩) (Nat.le_refl _) _⟩
  · rw [set_other (by simp)]; exact c1
  · rw [set_other (by simp)]; exact c2
  · rw [set_other (by simp)]; exact c3
  · rw [set_other (by simp)]; exact r0
  · rw [set_other (by simp)]; exact r1
  · rw [set_other (by simp)]; exact r2
  · rw [set_other (by simp)]; exact r3
theorem Nf.put {w W : World} {neg inf : Bool} {M E : Int} (h : Nf w W neg M E inf) (x0 x1 x2 x3 : Value) :
    Below w.heap.size w ((((W.setCell ⟨w.heap.size + 1, 0, none⟩ x0).setCell ⟨w.heap.size + 1, 1, none⟩ x1).setCell ⟨w.heap.size + 1, 2, none⟩ x2).setCell ⟨w.heap.size + 1, 3, none⟩ x3) :=
  (((h.bl.setCell (p := ⟨w.heap.size + 1, 0, none⟩) (by show w.heap.size ≤ w.heap.size + 1; omega) _).setCell (p := ⟨w.heap.size + 1, 1, none⟩) (by show w.heap.size ≤ w.heap.size + 1; omega) _).setCell (p := ⟨w.heap.size + 1, 2, none⟩) (by show w.heap.size ≤ w.heap.size + 1; omega) _).setCell (p := ⟨w.heap.size + 1, 3, none⟩) (by show w.heap.size ≤ w.heap.size + 1; omega) _

/-! full: with a mantissa of 24 bits. -/
set_option maxRecDepth 100000 in
theorem full_calls (neg : Bool) (M : Nat) (E : Int) (w : World) (h0 : 0 < M) (h1 : M < 16777216) (hE1 : -300 ≤ E) (hE2 : E ≤ 300) :
    Calls Try.prog 69 #[.agg #[.bool neg, .int .i64 M, .int .i64 E, .bool false]] w fun e w' =>
      ∃ (M' : Nat) (E' : Int), e = .returned (.agg #[.bool neg, .int .i64 M', .int .i64 E', .bool false]) ∧ 8388608 ≤ M' ∧ M' < 16777216 ∧ (∃ c : Nat, M' = M * 2 ^ c ∧ E' = E - c ∧ c ≤ 23) ∧ Below w.heap.size w w' := by
  go_enter Try.func69, Try.ntmps69
  go_wp2_with fail
  have F := Nf.init w neg M E false 53 53
  go_loopw [] (fun w' => ∃ (c : Nat), c ≤ 23 ∧ Nf w w' neg ((M * 2 ^ c : Nat) : Int) (E - c) false ∧ M * 2 ^ c < 16777216) (fun w' => 16777216 - (intOf ((w'.cell? ⟨w.heap.size, 1, none⟩).getD undef)).toNat)
  case atStart => exact ⟨0, by omega, by simpa using F, by omega⟩
  case round =>
    obtain ⟨c, hc, N, hlt⟩ := hrel
    clear F
    have hX : M * 2 ^ (c + 1) = M * 2 ^ c * 2 := by rw [Nat.pow_succ, Nat.mul_assoc]
    have hge : 2 ^ c ≤ M * 2 ^ c := Nat.le_mul_of_pos_left _ h0
    obtain ⟨X, eX⟩ : ∃ X, X = M * 2 ^ c := ⟨_, rfl⟩
    rw [← eX] at N hlt hX hge
    have HX : Hid (M * 2 ^ (c + 1) = X * 2) := hX
    have EX : Hid (X = M * 2 ^ c) := eX
    clear hX eX
    obtain ⟨Y, eY⟩ : ∃ Y : Int, Y = E - c := ⟨_, rfl⟩
    rw [← eY] at N
    have EY : Hid (Y = E - c) := eY
    have y1 : -400 ≤ Y := by omega
    have y2 : Y ≤ 300 := by omega
    clear eY
    by_cases hl : X < 8388608
    · have hl' : (X : Int) < 8388608 := by omega
      have hl0 : (0 : Int) ≤ (X : Int) := by omega
      have hc1 : c + 1 ≤ 23 := by
        apply Nat.lt_of_not_le
        intro h23
        have := Nat.pow_le_pow_right (show 0 < 2 by omega) h23
        omega
      have c0 := N.c0
      have c1 := N.c1
      have c2 := N.c2
      have g1 := N.g1
      have g2 := N.g2
      go_wp2_with fail
      go_roundw
      case rel =>
        have N2 := (N.setM ((X : Int) * 2)).setE (Y - 1)
        refine ⟨c + 1, hc1, ?_, by rw [HX.out]; omega⟩
        rw [HX.out]
        have e1 : ((X * 2 : Nat) : Int) = (X : Int) * 2 := by omega
        have e2 : E - ((c + 1 : Nat) : Int) = Y - 1 := by have := EY.out; omega
        rw [e1, e2]; exact N2
      case measure =>
        have N2 := (N.setM ((X : Int) * 2)).setE (Y - 1)
        have d2 := N2.c1
        have d1 := N.c1
        rw [d1, d2]
        have := Nat.two_pow_pos c
        simp [intOf]; omega
    · have hl' : ¬ ((X : Int) < 8388608) := by omega
      have HL : Hid (8388608 ≤ X) := by show _ ≤ _; omega
      have HT : Hid (X < 16777216) := hlt
      clear hl hlt hge
      have c0 := N.c0
      have c1 := N.c1
      have c2 := N.c2
      have c3 := N.c3
      have r0 := N.r0
      have r1 := N.r1
      have r2 := N.r2
      have r3 := N.r3
      have f0 := N.f0
      have f1 := N.f1
      have f2 := N.f2
      have f3 := N.f3
      go_wp2_with fail
      refine bodyPost_ret (v := .agg #[.bool neg, .int .i64 X, .int .i64 Y, .bool false]) (by simp [results, Try.results69, go_sem, r0, r1, r2, r3]) rfl ?_
      exact ⟨X, Y, rfl, HL.out, HT.out, ⟨c, EX.out, EY.out, hc⟩, N.put _ _ _ _⟩
end Go.Proofs.Ytakpfdhopodleaa
namespace Go.Proofs.Ytakpfdhopodleaa
open Go.ChangeShapes Go.WideShapes Go.ChangeAt Go.RowKit Hedge
set_option linter.unusedSimpArgs false
set_option linter.unusedVariables false
set_option linter.unnecessarySimpa false

theorem fin_sgn {neg more up aw : Bool} {M R : Nat} {E : Int} (h : (R : Int) = if aw then upQ ((rN M E more : Nat) : Int) (rD E) else dnQ ((rN M E more : Nat) : Int) (rD E)) (ha : aw = (up != neg)) :
    sgn neg R = roundK neg M E more up := by
  cases neg
  · have : aw = up := by rw [ha]; cases up <;> rfl
    subst this
    unfold roundK sgn
    simpa using h
  · have : aw = !up := by rw [ha]; cases up <;> rfl
    subst this
    rw [roundK_neg]
    unfold roundK sgn
    simp only [if_true, Bool.false_eq_true, if_false]
    rw [h]

theorem numV_zero : numV 0 = .agg #[.bool false, .int .i64 0, .int .i64 0, .bool false] := by
  have hI := I_pos
  unfold numV nM nE nI
  rw [if_neg (by omega), if_pos (by omega)]
  have h1 : ¬ ((0 : Int) = I ∨ (0 : Int) = -I) := by omega
  simp [h1, sig, ex]
theorem numV_inf (neg : Bool) : numV (sgn neg I32) = .agg #[.bool neg, .int .i64 0, .int .i64 0, .bool true] := by
  have hI := I_pos
  unfold numV nM nE nI
  cases neg
  · have e : sgn false I32 = I := rfl
    rw [e, if_pos (Or.inl rfl), if_pos (by omega)]
    have h1 : ¬ I < 0 := by omega
    simp [h1]
  · have e : sgn true I32 = -I := rfl
    rw [e, if_pos (Or.inr rfl), if_pos (by omega)]
    have h1 : -I < 0 := by omega
    simp [h1]; exact hI
theorem numV_fin (neg : Bool) {M : Nat} {E : Int} (h0 : 0 < M) (h1 : M < 16777216) (h2 : 8388608 ≤ M ∨ E = -149) (h3 : -149 ≤ E) (h4 : E ≤ 104) :
    numV (sgn neg (rungOf M E)) = .agg #[.bool neg, .int .i64 M, .int .i64 E, .bool false] := by
  have hI := I_pos
  have hr : rungOf M E < I32 := by unfold rungOf I32; omega
  have hr0 : 0 < rungOf M E := by unfold rungOf; omega
  have hx : ex Ieee.single.binade (rungOf M E) = (E + 149).toNat := by
    unfold rungOf
    have := ex_of Ieee.single.binade (E + 149).toNat M hB32 (by rw [bi32]; omega) (by rw [bi32]; omega)
    rw [bi32] at this ⊢; exact this
  have hs : sig Ieee.single.binade (rungOf M E) = M := by
    unfold sig; rw [hx, bi32]; unfold rungOf; omega
  have hn : (sgn neg (rungOf M E)).natAbs = rungOf M E := sgn_natAbs _ _
  have hk : ¬ (sgn neg (rungOf M E) = I ∨ sgn neg (rungOf M E) = -I) := by
    rw [I_nat]; unfold sgn; split <;> omega
  have hk0 : ¬ (sgn neg (rungOf M E) = 0 ∨ sgn neg (rungOf M E) = I ∨ sgn neg (rungOf M E) = -I) := by
    intro h; rcases h with h | h
    · unfold sgn at h; split at h <;> omega
    · exact hk h
  have hd : decide (sgn neg (rungOf M E) < 0) = neg := by
    cases neg
    · have : ¬ (sgn false (rungOf M E) < 0) := by unfold sgn; simp
      simp [this]
    · have : sgn true (rungOf M E) < 0 := by unfold sgn; simp; omega
      simp [this]
  unfold numV nM nE nI
  rw [if_neg hk, if_neg hk0, hn, hs, hx, hd]
  have hE : ((E + 149).toNat : Int) - 149 = E := by omega
  rw [hE]
  simp [hk]
theorem numV_max (neg : Bool) : numV (sgn neg (I32 - 1)) = .agg #[.bool neg, .int .i64 16777215, .int .i64 104, .bool false] := by
  have := numV_fin neg (M := 16777215) (E := 104) (by omega) (by omega) (by omega) (by omega) (by omega)
  exact this

end Go.Proofs.Ytakpfdhopodleaa
