import Derived.Test.YtakpfdhopodleaaRefJK
namespace Go.Proofs.Ytakpfdhopodleaa
open Go.ChangeShapes Go.WideShapes Go.ChangeAt Go.RowKit Hedge
set_option linter.unusedSimpArgs false
set_option linter.unusedVariables false
set_option linter.unnecessarySimpa false

theorem num_open (k : Int) : ∃ a0 a1 a2 a3, numV k = .agg #[.bool a0, .int .i64 a1, .int .i64 a2, .bool a3] := ⟨_, _, _, _, rfl⟩
/-- What a pair of numbers is, as a value. -/
def pairV (a b : Int) : Value := .agg #[.bool (decide (a < 0)), .int .i64 (nM a), .int .i64 (nE a), .bool (nI a), .bool (decide (b < 0)), .int .i64 (nM b), .int .i64 (nE b), .bool (nI b)]
theorem pair_open (a b : Int) : ∃ x0 x1 x2 x3 y0 y1 y2 y3, numV a = .agg #[.bool x0, .int .i64 x1, .int .i64 x2, .bool x3] ∧ numV b = .agg #[.bool y0, .int .i64 y1, .int .i64 y2, .bool y3] ∧
    pairV a b = .agg #[.bool x0, .int .i64 x1, .int .i64 x2, .bool x3, .bool y0, .int .i64 y1, .int .i64 y2, .bool y3] ∧ nI a = x3 ∧ nI b = y3 ∧ decide (a < 0) = x0 ∧ decide (b < 0) = y0 := ⟨_, _, _, _, _, _, _, _, rfl, rfl, rfl, rfl, rfl, rfl, rfl⟩
theorem pair_shut {a b : Int} {x0 x3 y0 y3 : Bool} {x1 x2 y1 y2 : Int} (hx : numV a = .agg #[.bool x0, .int .i64 x1, .int .i64 x2, .bool x3]) (hy : numV b = .agg #[.bool y0, .int .i64 y1, .int .i64 y2, .bool y3]) :
    pairV a b = .agg #[.bool x0, .int .i64 x1, .int .i64 x2, .bool x3, .bool y0, .int .i64 y1, .int .i64 y2, .bool y3] := by
  unfold numV at hx hy
  simp at hx hy
  obtain ⟨h1, h2, h3, h4⟩ := hx
  obtain ⟨g1, g2, g3, g4⟩ := hy
  unfold pairV
  simp [h1, h2, h3, h4, g1, g2, g3, g4]

theorem has0_calls {a b : Int} (a1 : -I ≤ a) (a2 : a ≤ I) (b1 : -I ≤ b) (b2 : b ≤ I) (w : World) :
    Calls Try.prog 55 #[pairV a b] w fun e w' => e = .returned (.bool (decide (a ≤ 0 ∧ 0 ≤ b))) ∧ Below w.heap.size w w' := by
  have hr : decide (a ≤ 0 ∧ 0 ≤ b) = (decide (sg a ≤ 0) && decide (0 ≤ sg b)) := by
    rw [Bool.eq_iff_iff]
    simp only [Bool.and_eq_true, decide_eq_true_eq]
    unfold sg
    constructor
    · intro h; constructor <;> split <;> (try split) <;> omega
    · intro h
      refine ⟨?_, ?_⟩
      · have := h.1; split at this <;> (try split at this) <;> omega
      · have := h.2; split at this <;> (try split at this) <;> omega
  rw [hr]
  have C1 := fun w => sign_calls (k := a) a1 a2 w
  have C2 := fun w => sign_calls (k := b) b1 b2 w
  change ∀ w, Calls Try.prog 57 #[numV a] w fun e w' => e = .returned (.int .i64 (sg a)) ∧ Below w.heap.size w w' at C1
  change ∀ w, Calls Try.prog 57 #[numV b] w fun e w' => e = .returned (.int .i64 (sg b)) ∧ Below w.heap.size w w' at C2
  obtain ⟨x0, x1, x2, x3, y0, y1, y2, y3, hx, hy, hp, -⟩ := pair_open a b
  rw [hx] at C1
  rw [hy] at C2
  rw [hp]
  generalize sg a = x at *
  generalize sg b = y at *
  have D1 : Hid _ := C1
  have D2 : Hid _ := C2
  clear C1 C2 a1 a2 b1 b2 hr hx hy hp
  have P := N4.init8 w (.bool x0) (.int .i64 x1) (.int .i64 x2) (.bool x3) (.bool y0) (.int .i64 y1) (.int .i64 y2) (.bool y3) 55
  have Q := N4.init8' w (.bool x0) (.int .i64 x1) (.int .i64 x2) (.bool x3) (.bool y0) (.int .i64 y1) (.int .i64 y2) (.bool y3) 55
  have B := below_alloc1 w (.cells #[.bool x0, .int .i64 x1, .int .i64 x2, .bool x3, .bool y0, .int .i64 y1, .int .i64 y2, .bool y3] 55)
  go_enter Try.func55, Try.ntmps55
  go_wp2_with fail
  refine (D1.out _).mono ?_
  rintro e w1 ⟨rfl, hw1⟩
  have Q1 := Q.step hw1
  have B1 := B.trans (hw1.mono B.size)
  clear P Q B hw1
  have k0 := Q1.k0
  have k1 := Q1.k1
  have k2 := Q1.k2
  have k3 := Q1.k3
  by_cases hxx : x ≤ 0
  · go_wp2_with fail
    refine (D2.out _).mono ?_
    rintro e w2 ⟨rfl, hw2⟩
    have B2 := B1.trans (hw2.mono B1.size)
    clear hw2 B1 Q1 k0 k1 k2 k3
    go_wp2_with fail
    go_ret
    exact ⟨by simp [hxx], B2⟩
  · go_wp2_with fail
    go_ret
    exact ⟨by simp; omega, B1⟩

theorem valid_calls {a b : Int} (a1 : -I ≤ a) (a2 : a ≤ I) (b1 : -I ≤ b) (b2 : b ≤ I)
    (HB : ∀ w, Calls Try.prog 66 #[numV b, numV a] w fun e w' => e = .returned (.bool (decide (b < a))) ∧ Below w.heap.size w w') (w : World) :
    Calls Try.prog 49 #[pairV a b] w fun e w' => e = .returned (.bool (decide (a ≤ b ∧ a ≠ I ∧ b ≠ -I))) ∧ Below w.heap.size w w' := by
  have hI := I_pos
  obtain ⟨x0, x1, x2, x3, y0, y1, y2, y3, hx, hy, hp, hx3, hy3, hx0, hy0⟩ := pair_open a b
  have hr : decide (a ≤ b ∧ a ≠ I ∧ b ≠ -I) = (!decide (b < a) && !(x3 && !x0) && !(y3 && y0)) := by
    rw [← hx3, ← hx0, ← hy3, ← hy0, Bool.eq_iff_iff]
    unfold nI
    simp only [Bool.and_eq_true, decide_eq_true_eq, Bool.not_eq_true', decide_eq_false_iff_not, Bool.and_eq_false_iff]
    by_cases h1 : a = I <;> by_cases h2 : b = -I <;> by_cases h3 : a = -I <;> by_cases h4 : b = I <;> simp [h1, h2, h3, h4] <;> omega
  rw [hr]
  rw [hx, hy] at HB
  rw [hp]
  generalize decide (b < a) = q at *
  have D1 : Hid _ := HB
  clear HB a1 a2 b1 b2 hr hx hy hp hx3 hy3 hx0 hy0
  have P := N4.init8 w (.bool x0) (.int .i64 x1) (.int .i64 x2) (.bool x3) (.bool y0) (.int .i64 y1) (.int .i64 y2) (.bool y3) 55
  have Q := N4.init8' w (.bool x0) (.int .i64 x1) (.int .i64 x2) (.bool x3) (.bool y0) (.int .i64 y1) (.int .i64 y2) (.bool y3) 55
  have B := below_alloc1 w (.cells #[.bool x0, .int .i64 x1, .int .i64 x2, .bool x3, .bool y0, .int .i64 y1, .int .i64 y2, .bool y3] 55)
  go_enter Try.func49, Try.ntmps49
  go_wp2_with fail
  refine (D1.out _).mono ?_
  rintro e w1 ⟨rfl, hw1⟩
  have P1 := P.step hw1
  have Q1 := Q.step hw1
  have B1 := B.trans (hw1.mono B.size)
  clear P Q B hw1
  have l0 := P1.k0
  have l3 := P1.k3
  have k0 := Q1.k0
  have k3 := Q1.k3
  cases q <;> cases x3 <;> cases x0 <;> cases y3 <;> cases y0
  all_goals
    go_wp2_with fail
    go_ret
    exact ⟨rfl, B1⟩

theorem least_calls {i j : Int} (HB : ∀ w, Calls Try.prog 66 #[numV j, numV i] w fun e w' => e = .returned (.bool (decide (j < i))) ∧ Below w.heap.size w w') (w : World) :
    Calls Try.prog 53 #[numV i, numV j] w fun e w' => e = .returned (numV (if j < i then j else i)) ∧ Below w.heap.size w w' := by
  obtain ⟨x0, x1, x2, x3, y0, y1, y2, y3, hx, hy, -⟩ := pair_open i j
  have R := Rs.init (below2 w (.cells #[.bool x0, .int .i64 x1, .int .i64 x2, .bool x3] 53) (.cells #[.bool y0, .int .i64 y1, .int .i64 y2, .bool y3] 53)) 53
  have hbl1 := below_alloc1 (w.alloc (.cells #[.bool x0, .int .i64 x1, .int .i64 x2, .bool x3] 53)) (.cells #[.bool y0, .int .i64 y1, .int .i64 y2, .bool y3] 53)
  have hbl2 := below_alloc1 ((w.alloc (.cells #[.bool x0, .int .i64 x1, .int .i64 x2, .bool x3] 53)).alloc (.cells #[.bool y0, .int .i64 y1, .int .i64 y2, .bool y3] 53)) (.cells #[.bool false, .int .i64 0, .int .i64 0, .bool false] 53)
  have P := ((N4.init w (.bool x0) (.int .i64 x1) (.int .i64 x2) (.bool x3) 53).step hbl1).step hbl2
  have Q := (N4.init (w.alloc (.cells #[.bool x0, .int .i64 x1, .int .i64 x2, .bool x3] 53)) (.bool y0) (.int .i64 y1) (.int .i64 y2) (.bool y3) 53).step hbl2
  simp only [World.size_alloc] at R P Q
  clear hbl1 hbl2
  have hres : numV (if j < i then j else i) = if decide (j < i) then numV j else numV i := by by_cases h : j < i <;> simp [h]
  rw [hres]
  rw [hx, hy] at HB
  rw [hx, hy]
  generalize decide (j < i) = q at *
  have D1 : Hid _ := HB
  clear HB hx hy hres
  go_enter Try.func53, Try.ntmps53
  go_wp2_with fail
  refine (D1.out _).mono ?_
  rintro e w1 ⟨rfl, hw1⟩
  have P1 := P.step hw1
  have Q1 := Q.step hw1
  have R1 := R.step hw1
  clear P Q R hw1
  have l0 := P1.k0
  have l1 := P1.k1
  have l2 := P1.k2
  have l3 := P1.k3
  have k0 := Q1.k0
  have k1 := Q1.k1
  have k2 := Q1.k2
  have k3 := Q1.k3
  obtain ⟨r0, r1, r2, r3, f0, f1, f2, f3, sz, lo, bl⟩ := R1
  cases q
  · go_wp2_with fail
    refine bodyPost_ret (v := .agg #[.bool x0, .int .i64 x1, .int .i64 x2, .bool x3]) (by simp [results, Try.results53, go_sem, r0, r1, r2, r3]) rfl ⟨rfl, ?_⟩
    exact Rs.put ⟨r0, r1, r2, r3, f0, f1, f2, f3, sz, lo, bl⟩ _ _ _ _
  · go_wp2_with fail
    refine bodyPost_ret (v := .agg #[.bool y0, .int .i64 y1, .int .i64 y2, .bool y3]) (by simp [results, Try.results53, go_sem, r0, r1, r2, r3]) rfl ⟨rfl, ?_⟩
    exact Rs.put ⟨r0, r1, r2, r3, f0, f1, f2, f3, sz, lo, bl⟩ _ _ _ _

theorem most_calls {i j : Int} (HB : ∀ w, Calls Try.prog 66 #[numV i, numV j] w fun e w' => e = .returned (.bool (decide (i < j))) ∧ Below w.heap.size w w') (w : World) :
    Calls Try.prog 54 #[numV i, numV j] w fun e w' => e = .returned (numV (if i < j then j else i)) ∧ Below w.heap.size w w' := by
  obtain ⟨x0, x1, x2, x3, y0, y1, y2, y3, hx, hy, -⟩ := pair_open i j
  have R := Rs.init (below2 w (.cells #[.bool x0, .int .i64 x1, .int .i64 x2, .bool x3] 53) (.cells #[.bool y0, .int .i64 y1, .int .i64 y2, .bool y3] 53)) 53
  have hbl1 := below_alloc1 (w.alloc (.cells #[.bool x0, .int .i64 x1, .int .i64 x2, .bool x3] 53)) (.cells #[.bool y0, .int .i64 y1, .int .i64 y2, .bool y3] 53)
  have hbl2 := below_alloc1 ((w.alloc (.cells #[.bool x0, .int .i64 x1, .int .i64 x2, .bool x3] 53)).alloc (.cells #[.bool y0, .int .i64 y1, .int .i64 y2, .bool y3] 53)) (.cells #[.bool false, .int .i64 0, .int .i64 0, .bool false] 53)
  have P := ((N4.init w (.bool x0) (.int .i64 x1) (.int .i64 x2) (.bool x3) 53).step hbl1).step hbl2
  have Q := (N4.init (w.alloc (.cells #[.bool x0, .int .i64 x1, .int .i64 x2, .bool x3] 53)) (.bool y0) (.int .i64 y1) (.int .i64 y2) (.bool y3) 53).step hbl2
  simp only [World.size_alloc] at R P Q
  clear hbl1 hbl2
  have hres : numV (if i < j then j else i) = if decide (i < j) then numV j else numV i := by by_cases h : i < j <;> simp [h]
  rw [hres]
  rw [hx, hy] at HB
  rw [hx, hy]
  generalize decide (i < j) = q at *
  have D1 : Hid _ := HB
  clear HB hx hy hres
  go_enter Try.func54, Try.ntmps54
  go_wp2_with fail
  refine (D1.out _).mono ?_
  rintro e w1 ⟨rfl, hw1⟩
  have P1 := P.step hw1
  have Q1 := Q.step hw1
  have R1 := R.step hw1
  clear P Q R hw1
  have l0 := P1.k0
  have l1 := P1.k1
  have l2 := P1.k2
  have l3 := P1.k3
  have k0 := Q1.k0
  have k1 := Q1.k1
  have k2 := Q1.k2
  have k3 := Q1.k3
  obtain ⟨r0, r1, r2, r3, f0, f1, f2, f3, sz, lo, bl⟩ := R1
  cases q
  · go_wp2_with fail
    refine bodyPost_ret (v := .agg #[.bool x0, .int .i64 x1, .int .i64 x2, .bool x3]) (by simp [results, Try.results54, go_sem, r0, r1, r2, r3]) rfl ⟨rfl, ?_⟩
    exact Rs.put ⟨r0, r1, r2, r3, f0, f1, f2, f3, sz, lo, bl⟩ _ _ _ _
  · go_wp2_with fail
    refine bodyPost_ret (v := .agg #[.bool y0, .int .i64 y1, .int .i64 y2, .bool y3]) (by simp [results, Try.results54, go_sem, r0, r1, r2, r3]) rfl ⟨rfl, ?_⟩
    exact Rs.put ⟨r0, r1, r2, r3, f0, f1, f2, f3, sz, lo, bl⟩ _ _ _ _

end Go.Proofs.Ytakpfdhopodleaa
