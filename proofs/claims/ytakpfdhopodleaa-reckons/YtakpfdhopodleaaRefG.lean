import Derived.Test.YtakpfdhopodleaaRefEF
import Derived.Test.YtakpfdhopodleaaRefD
namespace Go.Proofs.Ytakpfdhopodleaa
open Go.ChangeShapes Go.WideShapes Go.ChangeAt Go.RowKit Hedge
set_option linter.unusedSimpArgs false
set_option linter.unusedVariables false
set_option linter.unnecessarySimpa false

theorem dnQ_ratio {Z Z' : Int} {D D' : Nat} (hD : 0 < D) (hD' : 0 < D') (h : Z * (D' : Int) = Z' * (D : Int)) : dnQ Z D = dnQ Z' D' := by
  obtain ⟨a, b, c⟩ := dnQ_spec Z' D'
  have p : (0 : Int) < (D : Int) := by exact_mod_cast hD
  have p' : (0 : Int) < (D' : Int) := by exact_mod_cast hD'
  apply dnQ_eq a b
  intro i h1 h2
  rw [← c i h1 h2]
  constructor
  · intro hh
    have h3 := Int.mul_le_mul_of_nonneg_right hh (Int.le_of_lt p')
    rw [h, Int.mul_right_comm] at h3
    exact Int.le_of_mul_le_mul_right h3 p
  · intro hh
    have h3 := Int.mul_le_mul_of_nonneg_right hh (Int.le_of_lt p)
    rw [← h, Int.mul_right_comm] at h3
    exact Int.le_of_mul_le_mul_right h3 p'
theorem upQ_ratio {Z Z' : Int} {D D' : Nat} (hD : 0 < D) (hD' : 0 < D') (h : Z * (D' : Int) = Z' * (D : Int)) : upQ Z D = upQ Z' D' := by
  unfold upQ; rw [dnQ_ratio hD hD' (by rw [Int.neg_mul, Int.neg_mul, h])]

theorem v32_rung (neg : Bool) {M : Nat} {E : Int} (h1 : M ≤ 16777216) (h2 : 8388608 ≤ M ∨ E = -149) : v32 (sgn neg (rungOf M E)) = sgn neg (M * 2 ^ (E + 149).toNat) := by
  unfold v32; rw [sval_sgn, val_rungOf h1 h2]
theorem sgn_lt_zero (neg : Bool) {r : Nat} (h : 0 < r) : decide (sgn neg r < 0) = neg := by
  cases neg
  · have : ¬ sgn false r < 0 := by unfold sgn; simp
    simp [this]
  · have : sgn true r < 0 := by unfold sgn; simp; omega
    simp [this]

theorem mul_round {n1 n2 : Bool} {M1 M2 : Nat} {E1 E2 : Int} (up : Bool) (a0 : 0 < M1) (a1 : M1 < 16777216) (a2 : 8388608 ≤ M1 ∨ E1 = -149) (a3 : -149 ≤ E1) (a4 : E1 ≤ 104)
    (b0 : 0 < M2) (b1 : M2 < 16777216) (b2 : 8388608 ≤ M2 ∨ E2 = -149) (b3 : -149 ≤ E2) (b4 : E2 ≤ 104) :
    roundK (n1 ^^ n2) (M1 * M2) (E1 + E2) false up = if up then mulU (sgn n1 (rungOf M1 E1)) (sgn n2 (rungOf M2 E2)) else mulD (sgn n1 (rungOf M1 E1)) (sgn n2 (rungOf M2 E2)) := by
  have r1 : 0 < rungOf M1 E1 ∧ rungOf M1 E1 < I32 := by unfold rungOf I32; omega
  have r2 : 0 < rungOf M2 E2 ∧ rungOf M2 E2 < I32 := by unfold rungOf I32; omega
  have q : ∀ (b : Bool) (r : Nat), 0 < r → r < I32 → sgn b r ≠ 0 ∧ -I < sgn b r ∧ sgn b r < I := by
    intro b r h1 h2; rw [I_nat]; unfold sgn; split <;> omega
  obtain ⟨s1, s2, s3⟩ := q n1 _ r1.1 r1.2
  obtain ⟨t1, t2, t3⟩ := q n2 _ r2.1 r2.2
  have hr : sgn (n1 ^^ n2) (rN (M1 * M2) (E1 + E2) false) * (W : Int) = v32 (sgn n1 (rungOf M1 E1)) * v32 (sgn n2 (rungOf M2 E2)) * ((rD (E1 + E2) : Nat) : Int) := by
    rw [v32_rung n1 (by omega) a2, v32_rung n2 (by omega) b2, sgn_prod, ← sgn_mul, ← sgn_mul]
    congr 1
    unfold rN rD W
    have e : (E1 + E2 + 149).toNat + c149 = (E1 + 149).toNat + (E2 + 149).toNat + (-149 - (E1 + E2)).toNat := by unfold c149; omega
    simp only [Bool.toNat_false, Nat.add_zero]
    rw [Nat.mul_assoc, ← Nat.pow_add, e, Nat.pow_add, Nat.pow_add]
    simp only [Nat.mul_assoc, Nat.mul_left_comm, Nat.mul_comm]
  unfold roundK
  rw [mulD_fin s1 t1 s2 s3 t2 t3, mulU_fin s1 t1 s2 s3 t2 t3]
  cases up
  · simp only [Bool.false_eq_true, if_false]
    exact dnQ_ratio (rD_pos _) W_pos hr
  · simp only [if_true]
    exact upQ_ratio (rD_pos _) W_pos hr

/-- The result's block of a call, of four cells. -/
structure Rs (w W : World) (b : Nat) : Prop where
  r0 : W.cell? ⟨b, 0, none⟩ = some (.bool false)
  r1 : W.cell? ⟨b, 1, none⟩ = some (.int .i64 0)
  r2 : W.cell? ⟨b, 2, none⟩ = some (.int .i64 0)
  r3 : W.cell? ⟨b, 3, none⟩ = some (.bool false)
  f0 : W.frozen? ⟨b, 0, none⟩ = false
  f1 : W.frozen? ⟨b, 1, none⟩ = false
  f2 : W.frozen? ⟨b, 2, none⟩ = false
  f3 : W.frozen? ⟨b, 3, none⟩ = false
  sz : b < W.heap.size
  lo : w.heap.size ≤ b
  bl : Below w.heap.size w W
theorem Rs.init {w W : World} (h : Below w.heap.size w W) (T : TypeId) : Rs w (W.alloc (.cells #[.bool false, .int .i64 0, .int .i64 0, .bool false] T)) W.heap.size :=
  ⟨by simp [go_sem], by simp [go_sem], by simp [go_sem], by simp [go_sem], by simp [go_sem], by simp [go_sem], by simp [go_sem], by simp [go_sem], by simp, h.size, h.alloc h.size _⟩
theorem Rs.step {w W W' : World} {b : Nat} (h : Rs w W b) (hb : Below W.heap.size W W') : Rs w W' b := by
  have hz := hb.size
  have hs := h.bl.size
  obtain ⟨r0, r1, r2, r3, f0, f1, f2, f3, sz, lo, bl⟩ := h
  refine ⟨?_, ?_, ?_, ?_, ?_, ?_, ?_, ?_, by omega, lo, bl.trans (hb.mono hs)⟩
  · rw [hb.cell (by exact sz)]; exact r0
  · rw [hb.cell (by exact sz)]; exact r1
  · rw [hb.cell (by exact sz)]; exact r2
  · rw [hb.cell (by exact sz)]; exact r3
  · rw [hb.frozen (by exact sz)]; exact f0
  · rw [hb.frozen (by exact sz)]; exact f1
  · rw [hb.frozen (by exact sz)]; exact f2
  · rw [hb.frozen (by exact sz)]; exact f3
theorem Rs.put {w W : World} {b : Nat} (h : Rs w W b) (x0 x1 x2 x3 : Value) :
    Below w.heap.size w ((((W.setCell ⟨b, 0, none⟩ x0).setCell ⟨b, 1, none⟩ x1).setCell ⟨b, 2, none⟩ x2).setCell ⟨b, 3, none⟩ x3) :=
  (((h.bl.setCell (p := ⟨b, 0, none⟩) h.lo _).setCell (p := ⟨b, 1, none⟩) h.lo _).setCell (p := ⟨b, 2, none⟩) h.lo _).setCell (p := ⟨b, 3, none⟩) h.lo _

theorem mul_fin (n1 n2 up : Bool) (M1 M2 : Nat) (E1 E2 : Int) (a0 : 0 < M1) (a1 : M1 < 16777216) (a3 : -149 ≤ E1) (a4 : E1 ≤ 104) (b0 : 0 < M2) (b1 : M2 < 16777216) (b3 : -149 ≤ E2) (b4 : E2 ≤ 104) (w : World) :
    Calls Try.prog 52 #[.agg #[.bool n1, .int .i64 M1, .int .i64 E1, .bool false], .agg #[.bool n2, .int .i64 M2, .int .i64 E2, .bool false], .bool up] w fun e w' =>
      e = .returned (numV (roundK (n1 ^^ n2) (M1 * M2) (E1 + E2) false up)) ∧ Below w.heap.size w w' := by
  have hp : M1 * M2 < 16777216 * 16777216 := Nat.mul_lt_mul_of_le_of_lt (Nat.le_of_lt a1) b1 (by omega)
  obtain ⟨X, hX⟩ : ∃ X : Int, X = (M1 : Int) := ⟨_, rfl⟩
  obtain ⟨Y, hY⟩ : ∃ Y : Int, Y = (M2 : Int) := ⟨_, rfl⟩
  rw [← hX, ← hY]
  have hXY : X * Y = ((M1 * M2 : Nat) : Int) := by rw [hX, hY, Int.natCast_mul]
  have u1 : (X == 0) = false := by rw [beq_eq_false_iff_ne]; omega
  have u2 : (Y == 0) = false := by rw [beq_eq_false_iff_ne]; omega
  have p1 : 0 ≤ X * Y := by omega
  have p2 : X * Y < 281474976710656 := by omega
  have HXY : Hid (X * Y = ((M1 * M2 : Nat) : Int)) := hXY
  have HP : Hid (M1 * M2 < 281474976710656) := hp
  have hxor : (n1 != n2) = (n1 ^^ n2) := by cases n1 <;> cases n2 <;> rfl
  have HXO : Hid ((!n1 == n2) = (n1 ^^ n2)) := by show _ = _; cases n1 <;> cases n2 <;> rfl
  have F := Rs.init (below2 w (.cells #[.bool n1, .int .i64 X, .int .i64 E1, .bool false] 53) (.cells #[.bool n2, .int .i64 Y, .int .i64 E2, .bool false] 53)) 53
  simp only [World.size_alloc] at F
  clear hp hX hY hXY a0 a1 b0 b1 hxor
  go_enter Try.func52, Try.ntmps52
  go_wp2_with fail
  rw [HXY.out, HXO.out]
  refine (round_calls _ false up (M1 * M2) (E1 + E2) _ (by have := HP.out; omega) (by omega) (by omega) (by simp)).mono ?_
  rintro e w1 ⟨rfl, hw⟩
  have F2 := F.step hw
  clear F hw
  obtain ⟨r0, r1, r2, r3, f0, f1, f2, f3, sz, lo, bl⟩ := F2
  obtain ⟨k, hk⟩ : ∃ k, k = roundK (n1 ^^ n2) (M1 * M2) (E1 + E2) false up := ⟨_, rfl⟩
  rw [← hk]
  have HK : Hid (k = roundK (n1 ^^ n2) (M1 * M2) (E1 + E2) false up) := hk
  clear hk
  unfold numV
  go_wp2_with fail
  refine bodyPost_ret (v := numV k) (by simp [numV, results, Try.results52, go_sem, r0, r1, r2, r3]) rfl ⟨by rw [HK.out], ?_⟩
  exact Rs.put ⟨r0, r1, r2, r3, f0, f1, f2, f3, sz, lo, bl⟩ _ _ _ _

theorem mul0 {i j : Int} (up : Bool) (h : i = 0 ∨ j = 0) : (if up then mulU i j else mulD i j) = 0 := by
  have e1 : mulD i j = 0 := by unfold mulD; rw [if_pos h]
  have e2 : mulU i j = 0 := by unfold mulU mulD; rw [if_pos (by omega)]; rfl
  cases up <;> simp [e1, e2]
theorem mulI (up : Bool) (n1 n2 : Bool) (a b : Nat) (ha : 0 < a) (hb : 0 < b) (h : a = I32 ∨ b = I32) : (if up then mulU (sgn n1 a) (sgn n2 b) else mulD (sgn n1 a) (sgn n2 b)) = sgn (n1 ^^ n2) I32 := by
  have hI := I_pos
  have q : ∀ (n : Bool) (r : Nat), 0 < r → sgn n r ≠ 0 := by intro n r h; unfold sgn; split <;> omega
  have hinf : sgn n1 a = I ∨ sgn n1 a = -I ∨ sgn n2 b = I ∨ sgn n2 b = -I := by
    rw [I_nat]; rcases h with h | h
    · subst h; cases n1 <;> simp [sgn]
    · subst h; cases n2 <;> simp [sgn]
  have e1 : mulD (sgn n1 a) (sgn n2 b) = sgn (n1 ^^ n2) I32 := by
    unfold mulD
    rw [if_neg (by have := q n1 a ha; have := q n2 b hb; omega), if_pos hinf, sgn_lt_zero n1 ha, sgn_lt_zero n2 hb]
    cases n1 <;> cases n2 <;> rfl
  have en : -(sgn n1 a) = sgn (!n1) a := by cases n1 <;> simp [sgn]
  have hinf' : sgn (!n1) a = I ∨ sgn (!n1) a = -I ∨ sgn n2 b = I ∨ sgn n2 b = -I := by
    rw [I_nat]; rcases h with h | h
    · subst h; cases n1 <;> simp [sgn]
    · subst h; cases n2 <;> simp [sgn]
  have e2 : mulU (sgn n1 a) (sgn n2 b) = sgn (n1 ^^ n2) I32 := by
    unfold mulU mulD
    rw [en, if_neg (by have := q (!n1) a ha; have := q n2 b hb; omega), if_pos hinf', sgn_lt_zero (!n1) ha, sgn_lt_zero n2 hb]
    cases n1 <;> cases n2 <;> rfl
  cases up <;> simp [e1, e2]

theorem mul_calls {i j : Int} (i1 : -I ≤ i) (i2 : i ≤ I) (j1 : -I ≤ j) (j2 : j ≤ I) (up : Bool) (w : World) :
    Calls Try.prog 52 #[numV i, numV j, .bool up] w fun e w' => e = .returned (numV (if up then mulU i j else mulD i j)) ∧ Below w.heap.size w w' := by
  rcases num_cases i1 i2 with rfl | ⟨n1, rfl⟩ | ⟨n1, M1, E1, rfl, a0, a1, a2, a3, a4⟩
  · rw [mul0 up (Or.inl rfl)]
    rw [numV_zero]
    unfold numV
    go_enter Try.func52, Try.ntmps52
    go_wp2_with fail
    refine bodyPost_ret (v := .agg #[.bool false, .int .i64 0, .int .i64 0, .bool false]) (by simp [results, Try.results52, go_sem]) rfl ⟨rfl, ?_⟩
    exact below3 w _ _ _
  · rcases num_cases j1 j2 with rfl | ⟨n2, rfl⟩ | ⟨n2, M2, E2, rfl, b0, b1, b2, b3, b4⟩
    · rw [mul0 up (Or.inr rfl)]
      rw [numV_zero, numV_inf]
      go_enter Try.func52, Try.ntmps52
      go_wp2_with fail
      refine bodyPost_ret (v := .agg #[.bool false, .int .i64 0, .int .i64 0, .bool false]) (by simp [results, Try.results52, go_sem]) rfl ⟨rfl, ?_⟩
      exact below3 w _ _ _
    · rw [mulI up n1 n2 I32 I32 (by decide) (by decide) (Or.inl rfl)]
      rw [numV_inf, numV_inf, numV_inf]
      have HXO : Hid ((!n1 == n2) = (n1 ^^ n2)) := by show _ = _; cases n1 <;> cases n2 <;> rfl
      go_enter Try.func52, Try.ntmps52
      go_wp2_with fail
      refine bodyPost_ret (v := .agg #[.bool (!n1 == n2), .int .i64 0, .int .i64 0, .bool true]) (by simp [results, Try.results52, go_sem]) rfl ⟨by rw [HXO.out], ?_⟩
      exact below3 w _ _ _
    · have hr : 0 < rungOf M2 E2 := by unfold rungOf; omega
      rw [mulI up n1 n2 I32 (rungOf M2 E2) (by decide) hr (Or.inl rfl)]
      rw [numV_inf, numV_inf, numV_fin n2 b0 b1 b2 b3 b4]
      have HXO : Hid ((!n1 == n2) = (n1 ^^ n2)) := by show _ = _; cases n1 <;> cases n2 <;> rfl
      have u2 : ((M2 : Int) == 0) = false := by rw [beq_eq_false_iff_ne]; omega
      clear b0 b1 b2 b3 b4 hr
      go_enter Try.func52, Try.ntmps52
      go_wp2_with fail
      refine bodyPost_ret (v := .agg #[.bool (!n1 == n2), .int .i64 0, .int .i64 0, .bool true]) (by simp [results, Try.results52, go_sem]) rfl ⟨by rw [HXO.out], ?_⟩
      exact below3 w _ _ _
  · have hr1 : 0 < rungOf M1 E1 := by unfold rungOf; omega
    rcases num_cases j1 j2 with rfl | ⟨n2, rfl⟩ | ⟨n2, M2, E2, rfl, b0, b1, b2, b3, b4⟩
    · rw [mul0 up (Or.inr rfl)]
      rw [numV_zero, numV_fin n1 a0 a1 a2 a3 a4]
      have u1 : ((M1 : Int) == 0) = false := by rw [beq_eq_false_iff_ne]; omega
      clear a0 a1 a2 a3 a4 hr1 i1 i2
      go_enter Try.func52, Try.ntmps52
      go_wp2_with fail
      refine bodyPost_ret (v := .agg #[.bool false, .int .i64 0, .int .i64 0, .bool false]) (by simp [results, Try.results52, go_sem]) rfl ⟨rfl, ?_⟩
      exact below3 w _ _ _
    · rw [mulI up n1 n2 (rungOf M1 E1) I32 hr1 (by decide) (Or.inr rfl)]
      rw [numV_inf, numV_inf, numV_fin n1 a0 a1 a2 a3 a4]
      have HXO : Hid ((!n1 == n2) = (n1 ^^ n2)) := by show _ = _; cases n1 <;> cases n2 <;> rfl
      have u1 : ((M1 : Int) == 0) = false := by rw [beq_eq_false_iff_ne]; omega
      clear a0 a1 a2 a3 a4 hr1 i1 i2
      go_enter Try.func52, Try.ntmps52
      go_wp2_with fail
      refine bodyPost_ret (v := .agg #[.bool (!n1 == n2), .int .i64 0, .int .i64 0, .bool true]) (by simp [results, Try.results52, go_sem]) rfl ⟨by rw [HXO.out], ?_⟩
      exact below3 w _ _ _
    · rw [← mul_round up a0 a1 a2 a3 a4 b0 b1 b2 b3 b4, numV_fin n1 a0 a1 a2 a3 a4, numV_fin n2 b0 b1 b2 b3 b4]
      exact mul_fin n1 n2 up M1 M2 E1 E2 a0 a1 a3 a4 b0 b1 b3 b4 w
end Go.Proofs.Ytakpfdhopodleaa
