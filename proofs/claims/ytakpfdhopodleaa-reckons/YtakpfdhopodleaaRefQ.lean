import Derived.Test.YtakpfdhopodleaaRefP
import Derived.Test.YtakpfdhopodleaaRefO
namespace Go.Proofs.Ytakpfdhopodleaa
open Go.ChangeShapes Go.WideShapes Go.ChangeAt Go.RowKit Hedge
set_option linter.unusedSimpArgs false
set_option linter.unusedVariables false
set_option linter.unnecessarySimpa false

set_option maxHeartbeats 8000000 in
set_option maxRecDepth 100000 in
theorem add_fin1 (n1 n2 up : Bool) (M1 M2 : Nat) (E1 E2 : Int) (a0 : 0 < M1) (a1 : M1 < 16777216) (a2 : 8388608 ≤ M1 ∨ E1 = -149) (a3 : -149 ≤ E1) (a4 : E1 ≤ 104)
    (b0 : 0 < M2) (b1 : M2 < 16777216) (b2 : 8388608 ≤ M2 ∨ E2 = -149) (b3 : -149 ≤ E2) (b4 : E2 ≤ 104) (hE : ¬ E1 < E2) (w : World) :
    Calls Try.prog 50 #[.agg #[.bool n1, .int .i64 M1, .int .i64 E1, .bool false], .agg #[.bool n2, .int .i64 M2, .int .i64 E2, .bool false], .bool up] w fun e w' =>
      e = .returned (numV (if up then upQ (sgn n1 (M1 * 2 ^ (E1 + 149).toNat) + sgn n2 (M2 * 2 ^ (E2 + 149).toNat)) 1 else dnQ (sgn n1 (M1 * 2 ^ (E1 + 149).toNat) + sgn n2 (M2 * 2 ^ (E2 + 149).toNat)) 1)) ∧ Below w.heap.size w w' := by
  obtain ⟨va, hva⟩ : ∃ va, va = sgn n1 (M1 * 2 ^ (E1 + 149).toNat) := ⟨_, rfl⟩
  obtain ⟨vb, hvb⟩ : ∃ vb, vb = sgn n2 (M2 * 2 ^ (E2 + 149).toNat) := ⟨_, rfl⟩
  rw [← hva, ← hvb]
  have HVA : Hid (va = _) := hva
  have HVB : Hid (vb = _) := hvb
  clear hva hvb
  obtain ⟨kr, hkr⟩ : ∃ kr, kr = (if up then upQ (va + vb) 1 else dnQ (va + vb) 1) := ⟨_, rfl⟩
  rw [← hkr]
  have HKR : Hid (kr = (if up then upQ (va + vb) 1 else dnQ (va + vb) 1)) := by show _ = _; rw [hkr]
  clear hkr
  have u1 : ((M1 : Int) == 0) = false := by rw [beq_eq_false_iff_ne]; omega
  have u2 : ((M2 : Int) == 0) = false := by rw [beq_eq_false_iff_ne]; omega
  have HRG : Hid (0 < M1 ∧ M1 < 16777216 ∧ -149 ≤ E1 ∧ E1 ≤ 104 ∧ 0 < M2 ∧ M2 < 16777216 ∧ -149 ≤ E2 ∧ E2 ≤ 104) := ⟨a0, a1, a3, a4, b0, b1, b3, b4⟩
  have HNN : Hid ((8388608 ≤ M1 ∨ E1 = -149) ∧ (8388608 ≤ M2 ∨ E2 = -149)) := ⟨a2, b2⟩
  clear a0 a1 a2 b0 b1 b2
  have hbl1 := below_alloc1 (w.alloc (.cells #[.bool n1, .int .i64 M1, .int .i64 E1, .bool false] 53)) (.cells #[.bool n2, .int .i64 M2, .int .i64 E2, .bool false] 53)
  have hbl2 := below_alloc1 ((w.alloc (.cells #[.bool n1, .int .i64 M1, .int .i64 E1, .bool false] 53)).alloc (.cells #[.bool n2, .int .i64 M2, .int .i64 E2, .bool false] 53)) (.cells #[.bool false, .int .i64 0, .int .i64 0, .bool false] 53)
  have P1 := ((N4.init w (.bool n1) (.int .i64 M1) (.int .i64 E1) (.bool false) 53).step hbl1).step hbl2
  have Q1 := (N4.init (w.alloc (.cells #[.bool n1, .int .i64 M1, .int .i64 E1, .bool false] 53)) (.bool n2) (.int .i64 M2) (.int .i64 E2) (.bool false) 53).step hbl2
  have R1 := Rs.init (below2 w (.cells #[.bool n1, .int .i64 M1, .int .i64 E1, .bool false] 53) (.cells #[.bool n2, .int .i64 M2, .int .i64 E2, .bool false] 53)) 53
  simp only [World.size_alloc] at P1 Q1 R1
  clear hbl1 hbl2
  go_enter Try.func50, Try.ntmps50
  have HD0 : Hid (0 ≤ E1 - E2) := by show _ ≤ _; omega
  go_wp2_with fail
  have P2 := P1
  have Q2 := Q1
  have R2 := R1
  clear P1 Q1 R1
  generalize ((w.alloc (.cells #[.bool n1, .int .i64 M1, .int .i64 E1, .bool false] 53)).alloc (.cells #[.bool n2, .int .i64 M2, .int .i64 E2, .bool false] 53)).alloc (.cells #[.bool false, .int .i64 0, .int .i64 0, .bool false] 53) = W2 at *
  go_loopw [8] (fun t w' => ∃ (k : Nat), t = .int .i64 k ∧ k ≤ 38 ∧ (k : Int) ≤ E1 - E2 ∧ N4 w' w.heap.size 0 1 2 3 (.bool n1) (.int .i64 ((M1 * 2 ^ k : Nat) : Int)) (.int .i64 (E1 - k)) (.bool false) ∧ N4 w' (w.heap.size + 1) 0 1 2 3 (.bool n2) (.int .i64 M2) (.int .i64 E2) (.bool false) ∧ Rs w w' (w.heap.size + 1 + 1)) (fun t _ => 40 - (intOf t).toNat)
  case atStart => exact ⟨0, rfl, by omega, by have := HD0.out; omega, by simpa using P2, Q2, R2⟩
  case round =>
    obtain ⟨k, rfl, hk, hkE, P, Q, R⟩ := hrel
    clear P2 Q2 R2
    obtain ⟨K, hK⟩ : ∃ K : Int, K = (k : Int) := ⟨_, rfl⟩
    obtain ⟨X, hX⟩ : ∃ X : Int, X = ((M1 * 2 ^ k : Nat) : Int) := ⟨_, rfl⟩
    obtain ⟨Y, hY⟩ : ∃ Y : Int, Y = E1 - k := ⟨_, rfl⟩
    obtain ⟨V, hV⟩ : ∃ V : Int, V = (M2 : Int) := ⟨_, rfl⟩
    rw [← hX, ← hY] at P
    rw [← hV] at Q
    rw [← hK]
    have hX2 : ((M1 * 2 ^ (k + 1) : Nat) : Int) = X * 2 := by rw [hX, Nat.pow_succ, ← Nat.mul_assoc]; push_cast; rfl
    have HK : Hid (K = (k : Int)) := hK
    have HX : Hid (X = ((M1 * 2 ^ k : Nat) : Int)) := hX
    have HX2 : Hid (((M1 * 2 ^ (k + 1) : Nat) : Int) = X * 2) := hX2
    have HY : Hid (Y = E1 - k) := hY
    have HV : Hid (V = (M2 : Int)) := hV
    have y1 : -300 ≤ Y := by have := HRG.out; omega
    have y2 : Y ≤ 200 := by have := HRG.out; omega
    have K0 : 0 ≤ K := by omega
    have K1 : K ≤ 38 := by omega
    have hpk : 2 ^ k ≤ 2 ^ 38 := Nat.pow_le_pow_right (by omega) hk
    have h38 : (2 : Nat) ^ 38 = 274877906944 := by decide
    have hXb : M1 * 2 ^ k < 16777216 * 274877906944 := by
      have h1 := HRG.out
      have h3 := Nat.mul_le_mul_left M1 hpk
      have h4 := Nat.mul_lt_mul_of_pos_right (show M1 < 16777216 by omega) (show 0 < 274877906944 by omega)
      rw [h38] at h3
      omega
    have x0 : 0 ≤ X := by omega
    have x1 : X < 4611686018427387904 := by omega
    clear hX hX2 hXb h38 hpk hY hV
    have HKB : Hid (k ≤ 38 ∧ (k : Int) ≤ E1 - E2) := ⟨hk, hkE⟩
    clear hk hkE
    have p0 := P.k0
    have p1 := P.k1
    have p2 := P.k2
    have p3 := P.k3
    have g1 := P.f1
    have g2 := P.f2
    have q0 := Q.k0
    have q1 := Q.k1
    have q2 := Q.k2
    have q3 := Q.k3
    by_cases hgo : K < 38 ∧ E2 < Y
    · obtain ⟨h38, hEY⟩ := hgo
      have HK36 : Hid (k + 1 ≤ 38 ∧ ((k + 1 : Nat) : Int) ≤ E1 - E2) := by have := HY.out; exact ⟨by omega, by omega⟩
      clear hK
      go_wp2_with fail
      go_roundw
      case rel =>
        refine ⟨k + 1, ?_, HK36.out.1, HK36.out.2, ?_, ?_, ?_⟩
        · rw [HK.out]; simp
        · rw [HX2.out]
          have e2 : E1 - ((k + 1 : Nat) : Int) = Y - 1 := by have := HY.out; omega
          rw [e2]
          exact (P.set1 (by omega) _).set2 (by omega) _
        · rw [← HV.out]; exact (Q.other _ _ _ (by omega)).other _ _ _ (by omega)
        · exact (R.set _ _ _ (by omega) (by omega)).set _ _ _ (by omega) (by omega)
      case measure =>
        simp [intOf]; omega
    · have HFAR : Hid (k = 38 ∨ Y = E2) := by
        have h1 := HKB.out
        have h2 := HY.out
        show _ ∨ _
        omega
      have HYE : Hid (E2 ≤ Y) := by
        have h1 := HKB.out
        have h2 := HY.out
        show _ ≤ _
        omega
      obtain ⟨D, hD⟩ : ∃ D : Nat, (D : Int) = Y - E2 := ⟨(Y - E2).toNat, by have := HYE.out; omega⟩
      have HD : Hid ((D : Int) = Y - E2) := hD
      have hout : (K < 38 ∧ E2 < Y) = False := by simp only [hgo]
      have HAL : ∀ (XA XB : Nat) (mo : Bool), XA = M1 * 2 ^ k → XB = M2 / 2 ^ D → mo = decide (M2 % 2 ^ D ≠ 0) → Al M1 M2 E1 E2 k D XA XB mo Y := by
        intro XA XB mo h1 h2 h3
        have h4 := HRG.out
        have h5 := HFAR.out
        have h6 := HNN.out
        refine ⟨HKB.out.1, HY.out, hD, by omega, by omega, by omega, by omega, by omega, by omega, by omega, h1, h2, h3⟩
      have HALH : Hid _ := HAL
      clear HAL hD hK
      by_cases h38 : K < 38
      · have hEY : ¬ E2 < Y := by intro h; exact hgo ⟨h38, h⟩
        clear hgo hout
        go_wp2_with fail
        clear p0 p1 p2 p3 g1 g2 q0 q1 q2 q3 h38 hEY
        have p0 := P.k0
        go_loopw [7] (fun t w' => ∃ (m2 : Nat) (e2 : Int) (mo : Bool), t = .bool mo ∧ e2 ≤ Y ∧ -149 ≤ e2 ∧ N4 w' w.heap.size 0 1 2 3 (.bool n1) (.int .i64 X) (.int .i64 Y) (.bool false) ∧ N4 w' (w.heap.size + 1) 0 1 2 3 (.bool n2) (.int .i64 m2) (.int .i64 e2) (.bool false) ∧ Rs w w' (w.heap.size + 1 + 1) ∧ m2 < 16777216 ∧
            ((∃ s : Nat, s ≤ D ∧ m2 = M2 / 2 ^ s ∧ e2 = E2 + s ∧ mo = decide (M2 % 2 ^ s ≠ 0)) ∨ (e2 = Y ∧ m2 = M2 / 2 ^ D ∧ mo = decide (M2 % 2 ^ D ≠ 0)))) (fun _ w' => (Y - intOf ((w'.cell? ⟨w.heap.size + 1, 2, none⟩).getD undef)).toNat)
        case atStart =>
          refine ⟨M2, E2, false, rfl, HYE.out, by have := HRG.out; omega, P, by rw [← HV.out]; exact Q, R, by have := HRG.out; omega, Or.inl ⟨0, by omega, by simp, by simp, by simp [Nat.mod_one]⟩⟩
        case round =>
          obtain ⟨m2, e2, mo, rfl, he2, he2', P3, Q3, R3, hm2, hdis⟩ := hrel
          clear P Q R p0
          obtain ⟨Z, hZ⟩ : ∃ Z : Int, Z = (m2 : Int) := ⟨_, rfl⟩
          rw [← hZ] at Q3
          have HZ : Hid (Z = (m2 : Int)) := hZ
          have z0 : 0 ≤ Z := by omega
          have z1 : Z < 16777216 := by omega
          have HE2 : Hid (e2 ≤ Y ∧ -149 ≤ e2 ∧ m2 < 16777216) := ⟨he2, he2', hm2⟩
          have HDIS : Hid _ := hdis
          clear hZ hm2 he2 hdis
          have p0 := P3.k0
          have p1 := P3.k1
          have p2 := P3.k2
          have p3 := P3.k3
          have q0 := Q3.k0
          have q1 := Q3.k1
          have q2 := Q3.k2
          have q3 := Q3.k3
          have g1 := Q3.f1
          have g2 := Q3.f2
          by_cases hlt : e2 < Y
          · have HS : ∃ s : Nat, s + 1 ≤ D ∧ m2 = M2 / 2 ^ s ∧ e2 = E2 + s ∧ mo = decide (M2 % 2 ^ s ≠ 0) := by
              rcases HDIS.out with ⟨s, h1, h2, h3, h4⟩ | ⟨h1, h2, h3⟩
              · exact ⟨s, by have := HD.out; omega, h2, h3, h4⟩
              · omega
            obtain ⟨s, hs⟩ := HS
            have HS : Hid (s + 1 ≤ D ∧ m2 = M2 / 2 ^ s ∧ e2 = E2 + s ∧ mo = decide (M2 % 2 ^ s ≠ 0)) := hs
            clear hs
            have HZ2 : Hid (Z / 2 = ((M2 / 2 ^ (s + 1) : Nat) : Int)) := by
              show _ = _
              rw [HZ.out, HS.out.2.1, ← shift_div]; omega
            have HMO : Hid ((mo || (Z % 2 != 0)) = decide (M2 % 2 ^ (s + 1) ≠ 0)) := by
              show _ = _
              rw [← shift_more M2 s mo HS.out.2.2.2, ← HS.out.2.1, HZ.out]
              congr 1
              rw [Bool.eq_iff_iff]
              simp only [bne_iff_ne, decide_eq_true_eq, ne_eq]; omega
            have HLT : Hid (M2 / 2 ^ (s + 1) < 16777216) := by
              show _ < _
              have := HRG.out
              exact Nat.lt_of_le_of_lt (Nat.div_le_self _ _) (by omega)
            by_cases hz : Z / 2 = 0
            · have HDN : Hid (M2 / 2 ^ D = 0 ∧ decide (M2 % 2 ^ (s + 1) ≠ 0) = decide (M2 % 2 ^ D ≠ 0)) := shift_done (by have := HRG.out; omega) (by have := HZ2.out; omega) HS.out.1
              cases mo
              all_goals
                go_wp2_with fail
                go_roundw
                case rel =>
                  refine ⟨0, Y, decide (M2 % 2 ^ (s + 1) ≠ 0), ?_, Int.le_refl _, by have := HE2.out; omega, ?_, ?_, ?_, by omega, Or.inr ⟨rfl, HDN.out.1.symm, HDN.out.2⟩⟩
                  · rw [← HMO.out]; simp
                  · exact ((P3.other _ _ _ (by omega)).other _ _ _ (by omega)).other _ _ _ (by omega)
                  · have h9 := ((Q3.set1 (by omega) (.int .i64 (Z / 2))).set2 (by omega) (.int .i64 (e2 + 1))).set2 (by omega) (.int .i64 Y)
                    rw [hz] at h9
                    simpa [hz] using h9
                  · exact ((R3.set _ _ _ (by omega) (by omega)).set _ _ _ (by omega) (by omega)).set _ _ _ (by omega) (by omega)
                case measure =>
                  have h9 := (((Q3.set1 (by omega) (.int .i64 (Z / 2))).set2 (by omega) (.int .i64 (e2 + 1))).set2 (by omega) (.int .i64 Y)).k2
                  simp [hz] at h9
                  first
                    | (rw [h9, q2]; simp [intOf]; omega)
                    | (simp [hz, h9, q2, intOf]; omega)
            · cases mo
              all_goals
                go_wp2_with fail
                go_roundw
                case rel =>
                  refine ⟨M2 / 2 ^ (s + 1), e2 + 1, decide (M2 % 2 ^ (s + 1) ≠ 0), ?_, by omega, by have := HE2.out; omega, ?_, ?_, ?_, HLT.out, Or.inl ⟨s + 1, HS.out.1, rfl, by have := HS.out.2.2.1; omega, rfl⟩⟩
                  · rw [← HMO.out]; simp
                  · exact (P3.other _ _ _ (by omega)).other _ _ _ (by omega)
                  · rw [← HZ2.out]; exact (Q3.set1 (by omega) (.int .i64 (Z / 2))).set2 (by omega) (.int .i64 (e2 + 1))
                  · exact (R3.set _ _ _ (by omega) (by omega)).set _ _ _ (by omega) (by omega)
                case measure =>
                  have h9 := ((Q3.set1 (by omega) (.int .i64 (Z / 2))).set2 (by omega) (.int .i64 (e2 + 1))).k2
                  rw [h9, q2]; simp [intOf]; omega
          · have HAX : Hid (∃ XA : Nat, X = (XA : Int) ∧ Al M1 M2 E1 E2 k D XA m2 mo Y) := by
              have h1 := HE2.out
              have h2 := HD.out
              refine ⟨M1 * 2 ^ k, HX.out, HALH.out _ _ _ rfl ?_ ?_⟩
              · rcases HDIS.out with ⟨s, h3, h4, h5, h6⟩ | ⟨h3, h4, h5⟩
                · rw [show D = s by omega]; exact h4
                · exact h4
              · rcases HDIS.out with ⟨s, h3, h4, h5, h6⟩ | ⟨h3, h4, h5⟩
                · rw [show D = s by omega]; exact h6
                · exact h5
            have e2Y : e2 = Y := by have := HE2.out; omega
            subst e2Y
            obtain ⟨XA, hXA, AL⟩ := HAX.out
            obtain ⟨bg1, bg2, bg3⟩ := AL.big
            have HX3 : Hid (X = (XA : Int)) := hXA
            have HALX : Hid (Al M1 M2 E1 E2 k D XA m2 mo e2) := AL
            have x3 : X ≤ 4611685743549480960 := by omega
            have HBG : Hid (XA ≤ 4611685743549480960 ∧ m2 < 16777216 ∧ (mo = true → 2305843009213693952 ≤ XA)) := ⟨bg1, bg2, bg3⟩
            clear AL bg1 bg2 bg3 hXA HAX HALH HDIS g1 g2
            by_cases hnn : n1 = n2
            · have HV2 : Hid (roundK n1 (XA + m2) e2 mo up = kr) := by
                show _ = _
                rw [HKR.out]
                exact HALX.out.same up HVA.out (by have := HVB.out; rw [← hnn] at this; exact this)
              have HSM : Hid (X + Z = ((XA + m2 : Nat) : Int)) := by show _ = _; rw [HX3.out, HZ.out]; push_cast; rfl
              subst hnn
              go_wp2_with fail
              rw [HSM.out]
              refine (round_calls n1 mo up (XA + m2) e2 _ (by have := HBG.out; omega) (by omega) (by omega) (fun h => by have := HBG.out.2.2 h; omega)).mono ?_
              rintro e w5 ⟨rfl, hw5⟩
              rw [HV2.out]
              have R5 := R3.step hw5
              clear hw5 R3 P3 Q3 p0 p1 p2 p3 q0 q1 q2 q3
              obtain ⟨r0', r1', r2', r3', f0, f1, f2, f3, sz, lo, bl⟩ := R5
              unfold numV
              go_wp2_with fail
              refine bodyPost_ret (v := numV kr) (by simp [numV, results, Try.results50, go_sem, r0', r1', r2', r3']) rfl ⟨rfl, ?_⟩
              exact Rs.put ⟨r0', r1', r2', r3', f0, f1, f2, f3, sz, lo, bl⟩ _ _ _ _
            · have hnb : n2 = !n1 := by cases n1 <;> cases n2 <;> simp at hnn ⊢
              have HNB : Hid (n2 = !n1) := hnb
              have hneq : (n1 == n2) = false := by rw [beq_eq_false_iff_ne]; exact hnn
              clear hnn hnb
              cases mo
              · by_cases hle : Z ≤ X
                · have hneg : ¬ X - Z < 0 := by omega
                  have HSM : Hid (X - Z = ((XA - m2 : Nat) : Int)) := by show _ = _; have := HX3.out; have := HZ.out; omega
                  have HV2 : Hid (roundK n1 (XA - m2) e2 false up = kr) := by
                    show _ = _
                    rw [HKR.out]
                    exact HALX.out.diff up HNB.out HVA.out HVB.out (by have := HX3.out; have := HZ.out; omega)
                  go_wp2_with fail
                  rw [HSM.out]
                  refine (round_calls n1 false up (XA - m2) e2 _ (by have := HBG.out; omega) (by omega) (by omega) (fun h => by simp at h)).mono ?_
                  rintro e w5 ⟨rfl, hw5⟩
                  rw [HV2.out]
                  have R5 := R3.step hw5
                  clear hw5 R3 P3 Q3 p0 p1 p2 p3 q0 q1 q2 q3
                  obtain ⟨r0', r1', r2', r3', f0, f1, f2, f3, sz, lo, bl⟩ := R5
                  unfold numV
                  go_wp2_with fail
                  refine bodyPost_ret (v := numV kr) (by simp [numV, results, Try.results50, go_sem, r0', r1', r2', r3']) rfl ⟨rfl, ?_⟩
                  exact Rs.put ⟨r0', r1', r2', r3', f0, f1, f2, f3, sz, lo, bl⟩ _ _ _ _
                · have hneg : X - Z < 0 := by omega
                  have HSM : Hid (-(X - Z) = ((m2 - XA : Nat) : Int)) := by show _ = _; have := HX3.out; have := HZ.out; omega
                  have HV2 : Hid (roundK n2 (m2 - XA) e2 false up = kr) := by
                    show _ = _
                    rw [HKR.out]
                    exact HALX.out.diff' up (by have := HNB.out; rw [this]; simp) HVA.out HVB.out (by have := HX3.out; have := HZ.out; omega)
                  go_wp2_with fail
                  rw [HSM.out]
                  refine (round_calls n2 false up (m2 - XA) e2 _ (by have := HBG.out; omega) (by omega) (by omega) (fun h => by simp at h)).mono ?_
                  rintro e w5 ⟨rfl, hw5⟩
                  rw [HV2.out]
                  have R5 := R3.step hw5
                  clear hw5 R3 P3 Q3 p0 p1 p2 p3 q0 q1 q2 q3
                  obtain ⟨r0', r1', r2', r3', f0, f1, f2, f3, sz, lo, bl⟩ := R5
                  unfold numV
                  go_wp2_with fail
                  refine bodyPost_ret (v := numV kr) (by simp [numV, results, Try.results50, go_sem, r0', r1', r2', r3']) rfl ⟨rfl, ?_⟩
                  exact Rs.put ⟨r0', r1', r2', r3', f0, f1, f2, f3, sz, lo, bl⟩ _ _ _ _
              · have hbig : 2305843009213693951 < X := by have := HBG.out.2.2 rfl; have := HX3.out; omega
                have hneg : ¬ X - Z < 0 := by omega
                have HSM : Hid (X - Z - 1 = ((XA - m2 - 1 : Nat) : Int)) := by show _ = _; have := HX3.out; have := HZ.out; omega
                have HV2 : Hid (roundK n1 (XA - m2 - 1) e2 true up = kr) := by
                  show _ = _
                  rw [HKR.out]
                  exact HALX.out.more up HNB.out HVA.out HVB.out
                go_wp2_with fail
                rw [HSM.out]
                refine (round_calls n1 true up (XA - m2 - 1) e2 _ (by have := HBG.out; omega) (by omega) (by omega) (fun h => by have := HBG.out.2.2 (by simp); have := HBG.out; omega)).mono ?_
                rintro e w5 ⟨rfl, hw5⟩
                rw [HV2.out]
                have R5 := R3.step hw5
                clear hw5 R3 P3 Q3 p0 p1 p2 p3 q0 q1 q2 q3
                obtain ⟨r0', r1', r2', r3', f0, f1, f2, f3, sz, lo, bl⟩ := R5
                unfold numV
                go_wp2_with fail
                refine bodyPost_ret (v := numV kr) (by simp [numV, results, Try.results50, go_sem, r0', r1', r2', r3']) rfl ⟨rfl, ?_⟩
                exact Rs.put ⟨r0', r1', r2', r3', f0, f1, f2, f3, sz, lo, bl⟩ _ _ _ _
      · clear hgo hout
        go_wp2_with fail
        clear p0 p1 p2 p3 g1 g2 q0 q1 q2 q3 h38
        have p0 := P.k0
        go_loopw [7] (fun t w' => ∃ (m2 : Nat) (e2 : Int) (mo : Bool), t = .bool mo ∧ e2 ≤ Y ∧ -149 ≤ e2 ∧ N4 w' w.heap.size 0 1 2 3 (.bool n1) (.int .i64 X) (.int .i64 Y) (.bool false) ∧ N4 w' (w.heap.size + 1) 0 1 2 3 (.bool n2) (.int .i64 m2) (.int .i64 e2) (.bool false) ∧ Rs w w' (w.heap.size + 1 + 1) ∧ m2 < 16777216 ∧
            ((∃ s : Nat, s ≤ D ∧ m2 = M2 / 2 ^ s ∧ e2 = E2 + s ∧ mo = decide (M2 % 2 ^ s ≠ 0)) ∨ (e2 = Y ∧ m2 = M2 / 2 ^ D ∧ mo = decide (M2 % 2 ^ D ≠ 0)))) (fun _ w' => (Y - intOf ((w'.cell? ⟨w.heap.size + 1, 2, none⟩).getD undef)).toNat)
        case atStart =>
          refine ⟨M2, E2, false, rfl, HYE.out, by have := HRG.out; omega, P, by rw [← HV.out]; exact Q, R, by have := HRG.out; omega, Or.inl ⟨0, by omega, by simp, by simp, by simp [Nat.mod_one]⟩⟩
        case round =>
          obtain ⟨m2, e2, mo, rfl, he2, he2', P3, Q3, R3, hm2, hdis⟩ := hrel
          clear P Q R p0
          obtain ⟨Z, hZ⟩ : ∃ Z : Int, Z = (m2 : Int) := ⟨_, rfl⟩
          rw [← hZ] at Q3
          have HZ : Hid (Z = (m2 : Int)) := hZ
          have z0 : 0 ≤ Z := by omega
          have z1 : Z < 16777216 := by omega
          have HE2 : Hid (e2 ≤ Y ∧ -149 ≤ e2 ∧ m2 < 16777216) := ⟨he2, he2', hm2⟩
          have HDIS : Hid _ := hdis
          clear hZ hm2 he2 hdis
          have p0 := P3.k0
          have p1 := P3.k1
          have p2 := P3.k2
          have p3 := P3.k3
          have q0 := Q3.k0
          have q1 := Q3.k1
          have q2 := Q3.k2
          have q3 := Q3.k3
          have g1 := Q3.f1
          have g2 := Q3.f2
          by_cases hlt : e2 < Y
          · have HS : ∃ s : Nat, s + 1 ≤ D ∧ m2 = M2 / 2 ^ s ∧ e2 = E2 + s ∧ mo = decide (M2 % 2 ^ s ≠ 0) := by
              rcases HDIS.out with ⟨s, h1, h2, h3, h4⟩ | ⟨h1, h2, h3⟩
              · exact ⟨s, by have := HD.out; omega, h2, h3, h4⟩
              · omega
            obtain ⟨s, hs⟩ := HS
            have HS : Hid (s + 1 ≤ D ∧ m2 = M2 / 2 ^ s ∧ e2 = E2 + s ∧ mo = decide (M2 % 2 ^ s ≠ 0)) := hs
            clear hs
            have HZ2 : Hid (Z / 2 = ((M2 / 2 ^ (s + 1) : Nat) : Int)) := by
              show _ = _
              rw [HZ.out, HS.out.2.1, ← shift_div]; omega
            have HMO : Hid ((mo || (Z % 2 != 0)) = decide (M2 % 2 ^ (s + 1) ≠ 0)) := by
              show _ = _
              rw [← shift_more M2 s mo HS.out.2.2.2, ← HS.out.2.1, HZ.out]
              congr 1
              rw [Bool.eq_iff_iff]
              simp only [bne_iff_ne, decide_eq_true_eq, ne_eq]; omega
            have HLT : Hid (M2 / 2 ^ (s + 1) < 16777216) := by
              show _ < _
              have := HRG.out
              exact Nat.lt_of_le_of_lt (Nat.div_le_self _ _) (by omega)
            by_cases hz : Z / 2 = 0
            · have HDN : Hid (M2 / 2 ^ D = 0 ∧ decide (M2 % 2 ^ (s + 1) ≠ 0) = decide (M2 % 2 ^ D ≠ 0)) := shift_done (by have := HRG.out; omega) (by have := HZ2.out; omega) HS.out.1
              cases mo
              all_goals
                go_wp2_with fail
                go_roundw
                case rel =>
                  refine ⟨0, Y, decide (M2 % 2 ^ (s + 1) ≠ 0), ?_, Int.le_refl _, by have := HE2.out; omega, ?_, ?_, ?_, by omega, Or.inr ⟨rfl, HDN.out.1.symm, HDN.out.2⟩⟩
                  · rw [← HMO.out]; simp
                  · exact ((P3.other _ _ _ (by omega)).other _ _ _ (by omega)).other _ _ _ (by omega)
                  · have h9 := ((Q3.set1 (by omega) (.int .i64 (Z / 2))).set2 (by omega) (.int .i64 (e2 + 1))).set2 (by omega) (.int .i64 Y)
                    rw [hz] at h9
                    simpa [hz] using h9
                  · exact ((R3.set _ _ _ (by omega) (by omega)).set _ _ _ (by omega) (by omega)).set _ _ _ (by omega) (by omega)
                case measure =>
                  have h9 := (((Q3.set1 (by omega) (.int .i64 (Z / 2))).set2 (by omega) (.int .i64 (e2 + 1))).set2 (by omega) (.int .i64 Y)).k2
                  simp [hz] at h9
                  first
                    | (rw [h9, q2]; simp [intOf]; omega)
                    | (simp [hz, h9, q2, intOf]; omega)
            · cases mo
              all_goals
                go_wp2_with fail
                go_roundw
                case rel =>
                  refine ⟨M2 / 2 ^ (s + 1), e2 + 1, decide (M2 % 2 ^ (s + 1) ≠ 0), ?_, by omega, by have := HE2.out; omega, ?_, ?_, ?_, HLT.out, Or.inl ⟨s + 1, HS.out.1, rfl, by have := HS.out.2.2.1; omega, rfl⟩⟩
                  · rw [← HMO.out]; simp
                  · exact (P3.other _ _ _ (by omega)).other _ _ _ (by omega)
                  · rw [← HZ2.out]; exact (Q3.set1 (by omega) (.int .i64 (Z / 2))).set2 (by omega) (.int .i64 (e2 + 1))
                  · exact (R3.set _ _ _ (by omega) (by omega)).set _ _ _ (by omega) (by omega)
                case measure =>
                  have h9 := ((Q3.set1 (by omega) (.int .i64 (Z / 2))).set2 (by omega) (.int .i64 (e2 + 1))).k2
                  rw [h9, q2]; simp [intOf]; omega
          · have HAX : Hid (∃ XA : Nat, X = (XA : Int) ∧ Al M1 M2 E1 E2 k D XA m2 mo Y) := by
              have h1 := HE2.out
              have h2 := HD.out
              refine ⟨M1 * 2 ^ k, HX.out, HALH.out _ _ _ rfl ?_ ?_⟩
              · rcases HDIS.out with ⟨s, h3, h4, h5, h6⟩ | ⟨h3, h4, h5⟩
                · rw [show D = s by omega]; exact h4
                · exact h4
              · rcases HDIS.out with ⟨s, h3, h4, h5, h6⟩ | ⟨h3, h4, h5⟩
                · rw [show D = s by omega]; exact h6
                · exact h5
            have e2Y : e2 = Y := by have := HE2.out; omega
            subst e2Y
            obtain ⟨XA, hXA, AL⟩ := HAX.out
            obtain ⟨bg1, bg2, bg3⟩ := AL.big
            have HX3 : Hid (X = (XA : Int)) := hXA
            have HALX : Hid (Al M1 M2 E1 E2 k D XA m2 mo e2) := AL
            have x3 : X ≤ 4611685743549480960 := by omega
            have HBG : Hid (XA ≤ 4611685743549480960 ∧ m2 < 16777216 ∧ (mo = true → 2305843009213693952 ≤ XA)) := ⟨bg1, bg2, bg3⟩
            clear AL bg1 bg2 bg3 hXA HAX HALH HDIS g1 g2
            by_cases hnn : n1 = n2
            · have HV2 : Hid (roundK n1 (XA + m2) e2 mo up = kr) := by
                show _ = _
                rw [HKR.out]
                exact HALX.out.same up HVA.out (by have := HVB.out; rw [← hnn] at this; exact this)
              have HSM : Hid (X + Z = ((XA + m2 : Nat) : Int)) := by show _ = _; rw [HX3.out, HZ.out]; push_cast; rfl
              subst hnn
              go_wp2_with fail
              rw [HSM.out]
              refine (round_calls n1 mo up (XA + m2) e2 _ (by have := HBG.out; omega) (by omega) (by omega) (fun h => by have := HBG.out.2.2 h; omega)).mono ?_
              rintro e w5 ⟨rfl, hw5⟩
              rw [HV2.out]
              have R5 := R3.step hw5
              clear hw5 R3 P3 Q3 p0 p1 p2 p3 q0 q1 q2 q3
              obtain ⟨r0', r1', r2', r3', f0, f1, f2, f3, sz, lo, bl⟩ := R5
              unfold numV
              go_wp2_with fail
              refine bodyPost_ret (v := numV kr) (by simp [numV, results, Try.results50, go_sem, r0', r1', r2', r3']) rfl ⟨rfl, ?_⟩
              exact Rs.put ⟨r0', r1', r2', r3', f0, f1, f2, f3, sz, lo, bl⟩ _ _ _ _
            · have hnb : n2 = !n1 := by cases n1 <;> cases n2 <;> simp at hnn ⊢
              have HNB : Hid (n2 = !n1) := hnb
              have hneq : (n1 == n2) = false := by rw [beq_eq_false_iff_ne]; exact hnn
              clear hnn hnb
              cases mo
              · by_cases hle : Z ≤ X
                · have hneg : ¬ X - Z < 0 := by omega
                  have HSM : Hid (X - Z = ((XA - m2 : Nat) : Int)) := by show _ = _; have := HX3.out; have := HZ.out; omega
                  have HV2 : Hid (roundK n1 (XA - m2) e2 false up = kr) := by
                    show _ = _
                    rw [HKR.out]
                    exact HALX.out.diff up HNB.out HVA.out HVB.out (by have := HX3.out; have := HZ.out; omega)
                  go_wp2_with fail
                  rw [HSM.out]
                  refine (round_calls n1 false up (XA - m2) e2 _ (by have := HBG.out; omega) (by omega) (by omega) (fun h => by simp at h)).mono ?_
                  rintro e w5 ⟨rfl, hw5⟩
                  rw [HV2.out]
                  have R5 := R3.step hw5
                  clear hw5 R3 P3 Q3 p0 p1 p2 p3 q0 q1 q2 q3
                  obtain ⟨r0', r1', r2', r3', f0, f1, f2, f3, sz, lo, bl⟩ := R5
                  unfold numV
                  go_wp2_with fail
                  refine bodyPost_ret (v := numV kr) (by simp [numV, results, Try.results50, go_sem, r0', r1', r2', r3']) rfl ⟨rfl, ?_⟩
                  exact Rs.put ⟨r0', r1', r2', r3', f0, f1, f2, f3, sz, lo, bl⟩ _ _ _ _
                · have hneg : X - Z < 0 := by omega
                  have HSM : Hid (-(X - Z) = ((m2 - XA : Nat) : Int)) := by show _ = _; have := HX3.out; have := HZ.out; omega
                  have HV2 : Hid (roundK n2 (m2 - XA) e2 false up = kr) := by
                    show _ = _
                    rw [HKR.out]
                    exact HALX.out.diff' up (by have := HNB.out; rw [this]; simp) HVA.out HVB.out (by have := HX3.out; have := HZ.out; omega)
                  go_wp2_with fail
                  rw [HSM.out]
                  refine (round_calls n2 false up (m2 - XA) e2 _ (by have := HBG.out; omega) (by omega) (by omega) (fun h => by simp at h)).mono ?_
                  rintro e w5 ⟨rfl, hw5⟩
                  rw [HV2.out]
                  have R5 := R3.step hw5
                  clear hw5 R3 P3 Q3 p0 p1 p2 p3 q0 q1 q2 q3
                  obtain ⟨r0', r1', r2', r3', f0, f1, f2, f3, sz, lo, bl⟩ := R5
                  unfold numV
                  go_wp2_with fail
                  refine bodyPost_ret (v := numV kr) (by simp [numV, results, Try.results50, go_sem, r0', r1', r2', r3']) rfl ⟨rfl, ?_⟩
                  exact Rs.put ⟨r0', r1', r2', r3', f0, f1, f2, f3, sz, lo, bl⟩ _ _ _ _
              · have hbig : 2305843009213693951 < X := by have := HBG.out.2.2 rfl; have := HX3.out; omega
                have hneg : ¬ X - Z < 0 := by omega
                have HSM : Hid (X - Z - 1 = ((XA - m2 - 1 : Nat) : Int)) := by show _ = _; have := HX3.out; have := HZ.out; omega
                have HV2 : Hid (roundK n1 (XA - m2 - 1) e2 true up = kr) := by
                  show _ = _
                  rw [HKR.out]
                  exact HALX.out.more up HNB.out HVA.out HVB.out
                go_wp2_with fail
                rw [HSM.out]
                refine (round_calls n1 true up (XA - m2 - 1) e2 _ (by have := HBG.out; omega) (by omega) (by omega) (fun h => by have := HBG.out.2.2 (by simp); have := HBG.out; omega)).mono ?_
                rintro e w5 ⟨rfl, hw5⟩
                rw [HV2.out]
                have R5 := R3.step hw5
                clear hw5 R3 P3 Q3 p0 p1 p2 p3 q0 q1 q2 q3
                obtain ⟨r0', r1', r2', r3', f0, f1, f2, f3, sz, lo, bl⟩ := R5
                unfold numV
                go_wp2_with fail
                refine bodyPost_ret (v := numV kr) (by simp [numV, results, Try.results50, go_sem, r0', r1', r2', r3']) rfl ⟨rfl, ?_⟩
                exact Rs.put ⟨r0', r1', r2', r3', f0, f1, f2, f3, sz, lo, bl⟩ _ _ _ _

end Go.Proofs.Ytakpfdhopodleaa
