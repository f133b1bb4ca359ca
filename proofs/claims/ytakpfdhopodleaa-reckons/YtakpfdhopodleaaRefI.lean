import Derived.Test.YtakpfdhopodleaaRefH
import Derived.Deep.RegionHeld3
namespace Go.Proofs.Ytakpfdhopodleaa
open Go.ChangeShapes Go.WideShapes Go.ChangeAt Go.RowKit Hedge
set_option linter.unusedSimpArgs false
set_option linter.unusedVariables false
set_option linter.unnecessarySimpa false

/-- Four cells of a block. -/
structure QI4 (W : World) (b : Nat) (x0 x1 x2 x3 : Value) : Prop where
  k0 : W.cell? ⟨b, 0, none⟩ = some x0
  k1 : W.cell? ⟨b, 1, none⟩ = some x1
  k2 : W.cell? ⟨b, 2, none⟩ = some x2
  k3 : W.cell? ⟨b, 3, none⟩ = some x3
  sz : b < W.heap.size
theorem QI4.init (W : World) (x0 x1 x2 x3 : Value) (T : TypeId) : QI4 (W.alloc (.cells #[x0, x1, x2, x3] T)) W.heap.size x0 x1 x2 x3 :=
  ⟨by simp [go_sem], by simp [go_sem], by simp [go_sem], by simp [go_sem], by simp⟩
theorem QI4.step {W W' : World} {b : Nat} {x0 x1 x2 x3 : Value} (h : QI4 W b x0 x1 x2 x3) (hb : Below W.heap.size W W') : QI4 W' b x0 x1 x2 x3 := by
  have hz := hb.size
  obtain ⟨k0, k1, k2, k3, sz⟩ := h
  refine ⟨?_, ?_, ?_, ?_, by omega⟩
  · rw [hb.cell (by exact sz)]; exact k0
  · rw [hb.cell (by exact sz)]; exact k1
  · rw [hb.cell (by exact sz)]; exact k2
  · rw [hb.cell (by exact sz)]; exact k3

theorem wrapN {n : Nat} (h : n < 4611686018427387904) : IntKind.i64.wrap (n : Int) = (n : Int) := IntWalk.i64_in _ ⟨by omega, by omega⟩
theorem four_other {W : World} {b b' o : Nat} {x0 x1 x2 x3 : Value} (h : b ≠ b') :
    ((((W.setCell ⟨b, 0, none⟩ x0).setCell ⟨b, 1, none⟩ x1).setCell ⟨b, 2, none⟩ x2).setCell ⟨b, 3, none⟩ x3).cell? ⟨b', o, none⟩ = W.cell? ⟨b', o, none⟩ := by
  rw [set_other (by simp [h]), set_other (by simp [h]), set_other (by simp [h]), set_other (by simp [h])]

set_option maxHeartbeats 20000000 in
set_option maxRecDepth 100000 in
theorem div_fin (n1 n2 up : Bool) (M1 M2 : Nat) (E1 E2 : Int) (a0 : 0 < M1) (a1 : M1 < 16777216) (a2 : 8388608 ≤ M1 ∨ E1 = -149) (a3 : -149 ≤ E1) (a4 : E1 ≤ 104)
    (b0 : 0 < M2) (b1 : M2 < 16777216) (b2 : 8388608 ≤ M2 ∨ E2 = -149) (b3 : -149 ≤ E2) (b4 : E2 ≤ 104) (w : World) :
    Calls Try.prog 56 #[.agg #[.bool n1, .int .i64 M1, .int .i64 E1, .bool false], .agg #[.bool n2, .int .i64 M2, .int .i64 E2, .bool false], .bool up] w fun e w' =>
      e = .returned (numV (if up then divU (sgn n1 (rungOf M1 E1)) (sgn n2 (rungOf M2 E2)) else divD (sgn n1 (rungOf M1 E1)) (sgn n2 (rungOf M2 E2)))) ∧ Below w.heap.size w w' := by
  have DR := fun {A B c d : Nat} => @div_round n1 n2 M1 M2 E1 E2 up a0 a1 a2 a3 a4 b0 b1 b2 b3 b4 A B c d
  have HDR : Hid _ := @DR
  clear DR
  obtain ⟨kr, hkr⟩ : ∃ kr, kr = (if up then divU (sgn n1 (rungOf M1 E1)) (sgn n2 (rungOf M2 E2)) else divD (sgn n1 (rungOf M1 E1)) (sgn n2 (rungOf M2 E2))) := ⟨_, rfl⟩
  rw [← hkr]
  have HKR : Hid (kr = (if up then divU (sgn n1 (rungOf M1 E1)) (sgn n2 (rungOf M2 E2)) else divD (sgn n1 (rungOf M1 E1)) (sgn n2 (rungOf M2 E2)))) := hkr
  clear hkr
  have u1 : ((M1 : Int) == 0) = false := by rw [beq_eq_false_iff_ne]; omega
  have HXO : Hid ((!n1 == n2) = (n1 ^^ n2)) := by show _ = _; cases n1 <;> cases n2 <;> rfl
  have F := Rs.init (below2 w (.cells #[.bool n1, .int .i64 M1, .int .i64 E1, .bool false] 53) (.cells #[.bool n2, .int .i64 M2, .int .i64 E2, .bool false] 53)) 53
  have G := (QI4.init (w.alloc (.cells #[.bool n1, .int .i64 M1, .int .i64 E1, .bool false] 53)) (.bool n2) (.int .i64 M2) (.int .i64 E2) (.bool false) 53).step (below_alloc1 _ (.cells #[.bool false, .int .i64 0, .int .i64 0, .bool false] 53))
  simp only [World.size_alloc] at F G
  have A0 : Hid (0 < M1 ∧ M1 < 16777216 ∧ 0 < M2 ∧ M2 < 16777216) := ⟨a0, a1, b0, b1⟩
  clear a0 a1 a2 b0 b1 b2
  go_enter Try.func56, Try.ntmps56
  go_wp2_with fail
  refine (full_calls n1 M1 E1 _ A0.out.1 A0.out.2.1 (by omega) (by omega)).mono ?_
  rintro e w1 ⟨A, EA, rfl, A1, A2, ⟨c, hA, hEA, hc⟩, hw1⟩
  obtain ⟨XA, hXA⟩ : ∃ XA : Int, XA = (A : Int) := ⟨_, rfl⟩
  rw [← hXA]
  have HXA : Hid (XA = (A : Int)) := hXA
  have xa1 : 8388607 < XA := by omega
  have xa2 : XA < 16777216 := by omega
  clear hXA
  have F1 := F.step hw1
  have G1 := G.step hw1
  have hz1 : w.heap.size + 1 + 1 ≠ w1.heap.size := by have := F1.sz; omega
  clear F G hw1
  have F2 := F1.step (below_alloc1 w1 (.cells #[.bool n1, .int .i64 XA, .int .i64 EA, .bool false] 53))
  have G2 := G1.step (below_alloc1 w1 (.cells #[.bool n1, .int .i64 XA, .int .i64 EA, .bool false] 53))
  have X2 := QI4.init w1 (.bool n1) (.int .i64 XA) (.int .i64 EA) (.bool false) 53
  clear F1 G1
  have HA : Hid (8388608 ≤ A ∧ A < 16777216 ∧ A = M1 * 2 ^ c ∧ EA = E1 - c ∧ c ≤ 23) := ⟨A1, A2, hA, hEA, hc⟩
  have ea1 : -200 ≤ EA := by omega
  have ea2 : EA ≤ 104 := by omega
  clear A1 A2 hA hEA hc
  have k0 := G2.k0
  have k1 := G2.k1
  have k2 := G2.k2
  have k3 := G2.k3
  go_wp2_with fail
  refine (full_calls n2 M2 E2 _ A0.out.2.2.1 A0.out.2.2.2 (by omega) (by omega)).mono ?_
  rintro e w2 ⟨B, EB, rfl, B1, B2, ⟨d, hB, hEB, hd⟩, hw2⟩
  obtain ⟨XB, hXB⟩ : ∃ XB : Int, XB = (B : Int) := ⟨_, rfl⟩
  rw [← hXB]
  have HXB : Hid (XB = (B : Int)) := hXB
  have xb1 : 8388607 < XB := by omega
  have xb2 : XB < 16777216 := by omega
  clear hXB
  have hz2 : w.heap.size + 1 + 1 ≠ w2.heap.size := by have := (F2.step hw2).sz; omega
  have F3 := (F2.step hw2).step (below_alloc1 w2 (.cells #[.bool n2, .int .i64 XB, .int .i64 EB, .bool false] 53))
  have X3 := (X2.step hw2).step (below_alloc1 w2 (.cells #[.bool n2, .int .i64 XB, .int .i64 EB, .bool false] 53))
  have Y3 := QI4.init w2 (.bool n2) (.int .i64 XB) (.int .i64 EB) (.bool false) 53
  clear F2 X2 G2 hw2 k0 k1 k2 k3
  have HB : Hid (8388608 ≤ B ∧ B < 16777216 ∧ B = M2 * 2 ^ d ∧ EB = E2 - d ∧ d ≤ 23) := ⟨B1, B2, hB, hEB, hd⟩
  have eb1 : -200 ≤ EB := by omega
  have eb2 : EB ≤ 104 := by omega
  clear B1 B2 hB hEB hd
  have kx1 := X3.k1
  have kx2 := X3.k2
  have ky1 := Y3.k1
  have ky2 := Y3.k2
  go_wp2_with fail
  obtain ⟨W3, hW3⟩ : ∃ W3, W3 = w2.alloc (.cells #[.bool n2, .int .i64 XB, .int .i64 EB, .bool false] 53) := ⟨_, rfl⟩
  rw [← hW3] at F3 X3 Y3 kx1 kx2 ky1 ky2
  rw [← hW3]
  clear hW3
  have hne : ¬ XB = 0 := by omega
  have hpos : 0 ≤ XA * 274877906944 := by omega
  have HQN : Hid ((XA * 274877906944).tdiv XB = ((A * 2 ^ 38 / B : Nat) : Int)) := by
    show _ = _
    rw [Int.tdiv_eq_ediv_of_nonneg hpos, HXA.out, HXB.out]
    have h38 : (2 : Nat) ^ 38 = 274877906944 := by decide
    rw [h38, Int.natCast_ediv, Int.natCast_mul]; rfl
  have HR : Hid (((XA * 274877906944).tmod XB != 0) = decide (A * 2 ^ 38 % B ≠ 0)) := by
    show _ = _
    rw [Int.tmod_eq_emod_of_nonneg hpos, HXA.out, HXB.out]
    have h38 : (2 : Nat) ^ 38 = 274877906944 := by decide
    have e : (A : Int) * 274877906944 % (B : Int) = ((A * 274877906944 % B : Nat) : Int) := by rw [Int.natCast_emod, Int.natCast_mul]; rfl
    rw [h38, e, Bool.eq_iff_iff]
    simp only [bne_iff_ne, decide_eq_true_eq, ne_eq]; omega
  have HE : Hid (IntKind.i64.wrap (IntKind.i64.wrap (EA - 38) - EB) = E1 - c - 38 - (E2 - d)) := by
    show _ = _
    have := HA.out; have := HB.out
    rw [IntWalk.i64_in (EA - 38) (by omega), IntWalk.i64_in _ (by omega)]; omega
  have p1 : 0 ≤ XA * 274877906944 := by omega
  have p2 : XA * 274877906944 < 4611686018427387904 := by omega
  have hQlt : A * 2 ^ 38 / B < 4611686018427387904 := by
    have h38 : (2 : Nat) ^ 38 = 274877906944 := by decide
    have := Nat.div_le_self (A * 2 ^ 38) B
    have h1 := HA.out
    rw [h38] at this ⊢
    omega
  have HQL : Hid (A * 2 ^ 38 / B < 4611686018427387904) := hQlt
  have HQ : Hid (IntKind.i64.wrap ((XA * 274877906944).tdiv XB) = ((A * 2 ^ 38 / B : Nat) : Int)) := by
    show _ = _
    rw [HQN.out]; exact wrapN HQL.out
  clear hQlt hpos
  have HBIG : Hid (8388608 ≤ A * 2 ^ 38 / B) := by
    show _ ≤ _
    have h38 : (2 : Nat) ^ 38 = 274877906944 := by decide
    have h1 := HA.out
    have h2 := HB.out
    exact q_big (by rw [h38]; omega) (by omega) h2.2.1
  have hdrew : Below W3.heap.size W3 W3.drew := (Below.refl _ _).drew
  have F4 := F3.step hdrew
  have X4 := X3.step hdrew
  have Y4 := Y3.step hdrew
  clear F3 X3 Y3 hdrew
  have HV : Hid (roundK (n1 ^^ n2) (A * 2 ^ 38 / B) (E1 - c - 38 - (E2 - d)) (decide (A * 2 ^ 38 % B ≠ 0)) up = _) := HDR.out HA.out.2.2.1 HB.out.2.2.1 HA.out.1 HA.out.2.1 HB.out.1 HB.out.2.1 HA.out.2.2.2.2 HB.out.2.2.2.2
  obtain ⟨k, hk⟩ : ∃ k, k = roundK (n1 ^^ n2) (A * 2 ^ 38 / B) (E1 - c - 38 - (E2 - d)) (decide (A * 2 ^ 38 % B ≠ 0)) up := ⟨_, rfl⟩
  have HK : Hid (roundK (n1 ^^ n2) (A * 2 ^ 38 / B) (E1 - c - 38 - (E2 - d)) (decide (A * 2 ^ 38 % B ≠ 0)) up = k) := hk.symm
  rw [← hk] at HV
  clear hk
  go_region_held3 (fun w' => w'.cell? ⟨w1.heap.size, 2, none⟩ = some (.int .i64 EA) ∧ w'.cell? ⟨w2.heap.size, 1, none⟩ = some (.int .i64 XB) ∧ w'.cell? ⟨w2.heap.size, 2, none⟩ = some (.int .i64 EB))
    (first | exact ⟨kx2, ky1, ky2⟩ | exact ⟨X4.k2, Y4.k1, Y4.k2⟩ | exact ⟨X5.k2, Y5.k1, Y5.k2⟩ | exact ⟨(four_other hz1).trans X5.k2, (four_other hz2).trans Y5.k1, (four_other hz2).trans Y5.k2⟩ | (go_keep; done))
    ((go_at_call 67; rw [HQ.out, HR.out, HXO.out, HE.out]; refine (round_calls _ _ up (A * 2 ^ 38 / B) (E1 - c - 38 - (E2 - d)) _ HQL.out (by have := HA.out; have := HB.out; omega) (by have := HA.out; have := HB.out; omega) (fun _ => HBIG.out)).mono ?_; rintro e w4 ⟨rfl, hw4⟩; rw [HK.out]; unfold numV; have F5 := F4.step hw4; have X5 := X4.step hw4; have Y5 := Y4.step hw4; clear hw4; obtain ⟨r0, r1, r2, r3, f0, f1, f2, f3, sz, lo, bl⟩ := F5))
  go_wp2_with fail
  refine bodyPost_ret (v := numV k) (by simp [numV, results, Try.results56, go_sem, r0, r1, r2, r3]) rfl ⟨by rw [HV.out, HKR.out], ?_⟩
  exact Rs.put ⟨r0, r1, r2, r3, f0, f1, f2, f3, sz, lo, bl⟩ _ _ _ _

theorem div0 {i j : Int} (up : Bool) (h : j = I ∨ j = -I ∨ i = 0) : (if up then divU i j else divD i j) = 0 := by
  have e1 : divD i j = 0 := by unfold divD; rw [if_pos h]
  have e2 : divU i j = 0 := by unfold divU divD; rw [if_pos (by omega)]; rfl
  cases up <;> simp [e1, e2]
theorem divI (up : Bool) (n1 n2 : Bool) (b : Nat) (hb : 0 < b) (hb2 : b < I32) : (if up then divU (sgn n1 I32) (sgn n2 b) else divD (sgn n1 I32) (sgn n2 b)) = sgn (n1 ^^ n2) I32 := by
  have hI := I_pos
  have hI0 : 0 < I32 := by decide
  have hj : ¬ (sgn n2 b = I ∨ sgn n2 b = -I) := by rw [I_nat]; unfold sgn; split <;> omega
  have hi : ∀ n, sgn n I32 ≠ 0 := by intro n; unfold sgn; split <;> omega
  have hinf : ∀ n, sgn n I32 = I ∨ sgn n I32 = -I := by intro n; rw [I_nat]; cases n <;> simp [sgn]
  have e1 : ∀ n, divD (sgn n I32) (sgn n2 b) = sgn (n ^^ n2) I32 := by
    intro n
    unfold divD
    rw [if_neg (by have := hi n; omega), if_pos (hinf n), sgn_lt_zero n hI0, sgn_lt_zero n2 hb]
    cases n <;> cases n2 <;> rfl
  have en : -(sgn n1 I32) = sgn (!n1) I32 := by cases n1 <;> simp [sgn]
  have e2 : divU (sgn n1 I32) (sgn n2 b) = sgn (n1 ^^ n2) I32 := by
    unfold divU
    rw [en, e1]
    cases n1 <;> cases n2 <;> rfl
  cases up <;> simp [e1, e2]

set_option maxRecDepth 100000 in
theorem div_calls {i j : Int} (i1 : -I ≤ i) (i2 : i ≤ I) (j1 : -I ≤ j) (j2 : j ≤ I) (j0 : j ≠ 0) (up : Bool) (w : World) :
    Calls Try.prog 56 #[numV i, numV j, .bool up] w fun e w' => e = .returned (numV (if up then divU i j else divD i j)) ∧ Below w.heap.size w w' := by
  rcases num_cases j1 j2 with rfl | ⟨n2, rfl⟩ | ⟨n2, M2, E2, rfl, b0, b1, b2, b3, b4⟩
  · exact absurd rfl j0
  · rw [div0 up (by rw [I_nat]; cases n2 <;> simp [sgn])]
    rw [numV_zero, numV_inf]
    unfold numV
    generalize decide (i < 0) = a0
    generalize nM i = a1
    generalize nE i = a2
    generalize nI i = a3
    clear i1 i2 j1 j2 j0
    go_enter Try.func56, Try.ntmps56
    go_wp2_with fail
    refine bodyPost_ret (v := .agg #[.bool false, .int .i64 0, .int .i64 0, .bool false]) (by simp [results, Try.results56, go_sem]) rfl ⟨rfl, ?_⟩
    exact below3 w _ _ _
  · have hr : 0 < rungOf M2 E2 ∧ rungOf M2 E2 < I32 := by unfold rungOf I32; omega
    rcases num_cases i1 i2 with rfl | ⟨n1, rfl⟩ | ⟨n1, M1, E1, rfl, a0, a1, a2, a3, a4⟩
    · rw [div0 up (by simp)]
      rw [numV_zero, numV_fin n2 b0 b1 b2 b3 b4]
      clear b0 b1 b2 b3 b4 hr j0 i1 i2 j1 j2
      go_enter Try.func56, Try.ntmps56
      go_wp2_with fail
      refine bodyPost_ret (v := .agg #[.bool false, .int .i64 0, .int .i64 0, .bool false]) (by simp [results, Try.results56, go_sem]) rfl ⟨rfl, ?_⟩
      exact below3 w _ _ _
    · rw [divI up n1 n2 _ hr.1 hr.2]
      rw [numV_inf, numV_inf, numV_fin n2 b0 b1 b2 b3 b4]
      have HXO : Hid ((!n1 == n2) = (n1 ^^ n2)) := by show _ = _; cases n1 <;> cases n2 <;> rfl
      clear b0 b1 b2 b3 b4 hr j0 i1 i2 j1 j2
      go_enter Try.func56, Try.ntmps56
      go_wp2_with fail
      refine bodyPost_ret (v := .agg #[.bool (!n1 == n2), .int .i64 0, .int .i64 0, .bool true]) (by simp [results, Try.results56, go_sem]) rfl ⟨by rw [HXO.out], ?_⟩
      exact below3 w _ _ _
    · rw [numV_fin n1 a0 a1 a2 a3 a4, numV_fin n2 b0 b1 b2 b3 b4]
      exact div_fin n1 n2 up M1 M2 E1 E2 a0 a1 a2 a3 a4 b0 b1 b2 b3 b4 w
end Go.Proofs.Ytakpfdhopodleaa
