import Derived.Test.YtakpfdhopodleaaRefCN
namespace Go.Proofs.Ytakpfdhopodleaa
open Go.ChangeShapes Go.WideShapes Go.ChangeAt Go.RowKit Hedge
set_option linter.unusedSimpArgs false
set_option linter.unusedVariables false
set_option linter.unnecessarySimpa false

theorem bits62 {M c : Nat} (hM : M < 4611686018427387904) (h : 0 < M / 2 ^ c) : c ≤ 61 := by
  apply Nat.le_of_not_lt
  intro hc
  have h1 : 2 ^ 62 ≤ 2 ^ c := Nat.pow_le_pow_right (by omega) hc
  have h2 : M / 2 ^ c = 0 := Nat.div_eq_of_lt (by omega)
  omega
theorem Lp_E_le {M M1 : Nat} {E E1 : Int} {more m1 : Bool} (h : Lp M E more M1 E1 m1) (hM : M < 4611686018427387904) (h0 : 0 < M1) : E ≤ E1 ∧ E1 ≤ E + 61 ∧ M1 ≤ M := by
  obtain ⟨⟨c, e1, e2, e3⟩, ok⟩ := h
  rw [e1] at h0
  have := bits62 hM h0
  have := Nat.div_le_self M (2 ^ c)
  omega

set_option maxHeartbeats 8000000 in
set_option maxRecDepth 100000 in
theorem round_calls (neg more up : Bool) (M : Nat) (E : Int) (w : World) (hM : M < 4611686018427387904) (hE1 : -1000 ≤ E) (hE2 : E ≤ 1000) (hm : more = true → 8388608 ≤ M) :
    Calls Try.prog 67 #[.agg #[.bool neg, .int .i64 M, .int .i64 E, .bool false], .bool more, .bool up] w fun e w' => e = .returned (numV (roundK neg M E more up)) ∧ Below w.heap.size w w' := by
  go_enter Try.func67, Try.ntmps67
  go_wp2_with fail
  have F := Nf.init w neg M E false 53 53
  have HM : Hid (more = true → 8388608 ≤ M) := hm
  have HB : Hid (M < 4611686018427387904) := hM
  clear hm hM
  go_loopw [1] (fun t w' => ∃ (M1 : Nat) (E1 : Int) (m1 : Bool), t = .bool m1 ∧ Nf w w' neg M1 E1 false ∧ Lp M E more M1 E1 m1 ∧ M1 ≤ M ∧ -1000 ≤ E1 ∧ E1 ≤ 1062) (fun _ w' => (intOf ((w'.cell? ⟨w.heap.size, 1, none⟩).getD undef)).toNat)
  case atStart => exact ⟨M, E, more, rfl, F, Lp.start M E more, Nat.le_refl _, hE1, by omega⟩
  case round =>
    obtain ⟨M1, E1, m1, rfl, N, L, hle, e1, e2⟩ := hrel
    clear F
    obtain ⟨X, hX⟩ : ∃ X : Int, X = (M1 : Int) := ⟨_, rfl⟩
    rw [← hX] at N
    have HX : Hid (X = (M1 : Int)) := hX
    by_cases hA : 16777216 ≤ M1 ∨ (E1 < -149 ∧ 0 < M1)
    · have h0 : 0 < M1 := by omega
      have hb := Lp_E_le L HB.out h0
      have L2 := L.next hA
      have x0 : 0 ≤ X := by omega
      have x1 : X < 4611686018427387904 := by have := HB.out; omega
      have c1 := N.c1
      have c2 := N.c2
      have g1 := N.g1
      have g2 := N.g2
      have N2 := (N.setM (X / 2)).setE (E1 + 1)
      have e3 : E1 + 1 ≤ 1062 := by omega
      have H0 : Hid (0 < M1) := h0
      have HL : Hid (M1 ≤ M) := hle
      have hd2 : X / 2 = ((M1 / 2 : Nat) : Int) := by omega
      rw [hd2] at N2
      have HD2 : Hid (X / 2 = ((M1 / 2 : Nat) : Int)) := hd2
      clear hd2 hle
      have fin : ∀ (m' : Bool) (wn : World), wn = (wr.setCell ⟨w.heap.size, 1, none⟩ (.int .i64 (X / 2))).setCell ⟨w.heap.size, 2, none⟩ (.int .i64 (E1 + 1)) → m' = (m1 || decide (M1 % 2 ≠ 0)) →
          (∃ (M2 : Nat) (E2 : Int) (m2 : Bool), Value.bool m' = .bool m2 ∧ Nf w wn neg M2 E2 false ∧ Lp M E more M2 E2 m2 ∧ M2 ≤ M ∧ -1000 ≤ E2 ∧ E2 ≤ 1062) ∧
          (intOf ((wn.cell? ⟨w.heap.size, 1, none⟩).getD undef)).toNat < (intOf ((wr.cell? ⟨w.heap.size, 1, none⟩).getD undef)).toNat := by
        intro m' wn ew em
        rw [HD2.out] at ew
        rw [ew, em]
        refine ⟨⟨M1 / 2, E1 + 1, _, rfl, N2, L2, by have := HL.out; omega, by omega, e3⟩, ?_⟩
        rw [N2.c1, c1]
        have := HX.out
        have := H0.out
        simp [intOf]; omega
      have FIN : Hid _ := fin
      clear fin N2 L2 hb
      have hcase : (16777216 ≤ X) ∨ (X < 16777216 ∧ E1 < -149 ∧ 0 < X) := by omega
      have hpar : (m1 = true) ∨ (m1 = false ∧ X % 2 = 0 ∧ M1 % 2 = 0) ∨ (m1 = false ∧ X % 2 = 1 ∧ M1 % 2 = 1) := by cases m1 <;> simp <;> omega
      clear hA hX h0
      rcases hcase with t1 | ⟨t1, t2, t3⟩ <;> rcases hpar with rfl | ⟨rfl, p1, p2⟩ | ⟨rfl, p1, p2⟩
      · go_wp2_with fail
        exact FIN.out _ _ rfl (by simp)
      · go_wp2_with fail
        exact FIN.out _ _ rfl (by simp [p2])
      · go_wp2_with fail
        exact FIN.out _ _ rfl (by simp [p2])
      · go_wp2_with fail
        exact FIN.out _ _ rfl (by simp)
      · go_wp2_with fail
        exact FIN.out _ _ rfl (by simp [p2])
      · go_wp2_with fail
        exact FIN.out _ _ rfl (by simp [p2])
    · have md := Md.of_loop L HM.out (show M1 < 16777216 by omega) (by omega)
      have x0 : 0 ≤ X := by omega
      have x1 : X < 16777216 := by omega
      have hcase : (E1 < -149 ∧ X = 0) ∨ (¬ E1 < -149) := by omega
      clear hA hX hle
      obtain ⟨aw, haw⟩ : ∃ aw, aw = (up != neg) := ⟨_, rfl⟩
      have c0 := N.c0
      have c1 := N.c1
      have c2 := N.c2
      have c3 := N.c3
      have g1 := N.g1
      have g2 := N.g2
      rcases hcase with ⟨t1, t2⟩ | t1
      · rw [if_pos t1] at md
        have MD : Hid _ := md
        have HT2 : Hid (X = 0) := t2
        have t3 : ¬ 0 < X := by omega
        clear md t2
        cases m1
        · go_wp2_with fail
          obtain ⟨wo, ewo⟩ : ∃ wo : World, wo = wr.setCell ⟨w.heap.size, 2, none⟩ (.int .i64 (-149)) := ⟨_, rfl⟩
          rw [← ewo]
          have NS : Nf w wo neg X (-149) false := by rw [ewo]; exact N.setE (-149)
          clear ewo c0 c1 c2 c3 g1 g2 N
          go_loopw [] (fun w' => ∃ (M4 : Nat) (E4 : Int), Nf w w' neg M4 E4 false ∧ M4 * 2 ^ (E4 + 149).toNat = M1 * 2 ^ ((-149) + 149).toNat ∧ M4 < 16777216 ∧ -149 ≤ E4 ∧ E4 ≤ 1062) (fun w' => (intOf ((w'.cell? ⟨w.heap.size, 2, none⟩).getD undef) + 149).toNat)
          case atStart => exact ⟨M1, (-149), by rw [← HX.out]; exact NS, rfl, MD.out.lt, MD.out.ge, by omega⟩
          case round =>
            obtain ⟨M4, E4, N4, hv, hlt, hge, hle4⟩ := hrel
            clear NS
            obtain ⟨X4, hX4⟩ : ∃ X4 : Int, X4 = (M4 : Int) := ⟨_, rfl⟩
            rw [← hX4] at N4
            have HX4 : Hid (X4 = (M4 : Int)) := hX4
            have HV : Hid (M4 * 2 ^ (E4 + 149).toNat = M1 * 2 ^ ((-149) + 149).toNat) := hv
            have HLT : Hid (M4 < 16777216) := hlt
            have HGE : Hid (-149 ≤ E4) := hge
            have x4a : 0 ≤ X4 := by omega
            have x4b : X4 < 16777216 := by omega
            clear hv hlt
            have c0 := N4.c0
            have c1 := N4.c1
            have c2 := N4.c2
            have c3 := N4.c3
            have g1 := N4.g1
            have g2 := N4.g2
            by_cases hC : M4 < 8388608 ∧ -149 < E4 ∧ 0 < M4
            · have v1 : X4 < 8388608 := by omega
              have v2 : -149 < E4 := hC.2.1
              have v3 : 0 < X4 := by omega
              have H0 : Hid (M4 < 8388608 ∧ -149 < E4 ∧ 0 < M4) := hC
              clear hC hX4
              go_wp2_with fail
              have N5 := (N4.setM (X4 * 2)).setE (E4 - 1)
              have hp : M4 * 2 * 2 ^ (E4 - 1 + 149).toNat = M1 * 2 ^ ((-149) + 149).toNat := by
                rw [← HV.out, show (E4 + 149).toNat = (E4 - 1 + 149).toNat + 1 by omega, Nat.pow_succ, Nat.mul_assoc, Nat.mul_comm 2]
              refine ⟨⟨M4 * 2, E4 - 1, ?_, hp, by have := H0.out; omega, by omega, by omega⟩, ?_⟩
              · have e5 : ((M4 * 2 : Nat) : Int) = X4 * 2 := by have := HX4.out; omega
                rw [e5]; exact N5
              · rw [N5.c2, N4.c2]; simp [intOf]; omega
            · have hn : 8388608 ≤ M4 ∨ E4 = -149 ∨ M4 = 0 := by omega
              have hex : M4 * 2 ^ (E4 + 149).toNat * rD E = rN M E more := by rw [HV.out]; exact MD.out.eq.1 rfl
              have key := fun aw (haw : aw = (up != neg)) => fin_sgn (neg := neg) (M := M) (E := E) (more := more) (round_exact aw (rD_pos E) hex HLT.out HGE.out hn) haw
              have KEY : Hid (sgn neg (finR M4 E4 aw) = roundK neg M E more up) := key aw haw
              have AW : Hid (aw = (!up == neg)) := by show _ = _; rw [haw]; cases up <;> cases neg <;> rfl
              clear hn hex key haw hX4
              have r0 := N4.r0
              have r1 := N4.r1
              have r2 := N4.r2
              have r3 := N4.r3
              have f0 := N4.f0
              have f1 := N4.f1
              have f2 := N4.f2
              have f3 := N4.f3
              have hcase : (X4 = 0 ∧ ¬ -149 < E4) ∨ (X4 = 0 ∧ -149 < E4) ∨ (¬ X4 = 0 ∧ ¬ X4 < 8388608 ∧ 104 < E4) ∨ (¬ X4 = 0 ∧ ¬ X4 < 8388608 ∧ ¬ 104 < E4) ∨ (¬ X4 = 0 ∧ X4 < 8388608 ∧ ¬ -149 < E4) := by have := HX4.out; omega
              have HC : Hid (¬ (M4 < 8388608 ∧ -149 < E4 ∧ 0 < M4)) := hC
              clear hC
              rcases hcase with ⟨u1, u2⟩ | ⟨u1, u2⟩ | ⟨u1, u2, u3⟩ | ⟨u1, u2, u3⟩ | ⟨u1, u2, u3⟩
              · have VAL : Hid (numV (roundK neg M E more up) = (.agg #[.bool false, .int .i64 0, .int .i64 0, .bool false])) := by
                  show _ = _
                  have h0 : M4 = 0 := by have := HX4.out; omega
                  rw [← KEY.out, finR, if_pos h0]
                  have : sgn neg 0 = 0 := by cases neg <;> rfl
                  rw [this]; exact numV_zero
                subst u1
                go_wp2_with fail
                refine bodyPost_ret (v := (.agg #[.bool false, .int .i64 0, .int .i64 0, .bool false])) (by simp [results, Try.results67, go_sem, r0, r1, r2, r3]) rfl ?_
                exact ⟨by rw [VAL.out], N4.put _ _ _ _⟩
              · have VAL : Hid (numV (roundK neg M E more up) = (.agg #[.bool false, .int .i64 0, .int .i64 0, .bool false])) := by
                  show _ = _
                  have h0 : M4 = 0 := by have := HX4.out; omega
                  rw [← KEY.out, finR, if_pos h0]
                  have : sgn neg 0 = 0 := by cases neg <;> rfl
                  rw [this]; exact numV_zero
                subst u1
                go_wp2_with fail
                refine bodyPost_ret (v := (.agg #[.bool false, .int .i64 0, .int .i64 0, .bool false])) (by simp [results, Try.results67, go_sem, r0, r1, r2, r3]) rfl ?_
                exact ⟨by rw [VAL.out], N4.put _ _ _ _⟩
              · cases aw
                · have A : (!up == neg) = false := by rw [← AW.out]
                  have VAL : Hid (numV (roundK neg M E more up) = (.agg #[.bool neg, .int .i64 16777215, .int .i64 104, .bool false])) := by
                    show _ = _
                    have h0 : ¬ M4 = 0 := by have := HX4.out; omega
                    rw [← KEY.out, finR, if_neg h0, if_pos u3, if_neg (by simp)]
                    exact numV_max neg
                  have U1 : (X4 == 0) = false := by rw [beq_eq_false_iff_ne]; exact u1
                  clear u1
                  go_wp2_with fail
                  refine bodyPost_ret (v := (.agg #[.bool neg, .int .i64 16777215, .int .i64 104, .bool false])) (by simp [results, Try.results67, go_sem, r0, r1, r2, r3]) rfl ?_
                  exact ⟨by rw [VAL.out], N4.put _ _ _ _⟩
                · have A : (!up == neg) = true := by rw [← AW.out]
                  have VAL : Hid (numV (roundK neg M E more up) = (.agg #[.bool neg, .int .i64 0, .int .i64 0, .bool true])) := by
                    show _ = _
                    have h0 : ¬ M4 = 0 := by have := HX4.out; omega
                    rw [← KEY.out, finR, if_neg h0, if_pos u3, if_pos rfl]
                    exact numV_inf neg
                  have U1 : (X4 == 0) = false := by rw [beq_eq_false_iff_ne]; exact u1
                  clear u1
                  go_wp2_with fail
                  refine bodyPost_ret (v := (.agg #[.bool neg, .int .i64 0, .int .i64 0, .bool true])) (by simp [results, Try.results67, go_sem, r0, r1, r2, r3]) rfl ?_
                  exact ⟨by rw [VAL.out], N4.put _ _ _ _⟩
              · have VAL : Hid (numV (roundK neg M E more up) = (.agg #[.bool neg, .int .i64 X4, .int .i64 E4, .bool false])) := by
                  show _ = _
                  have h0 : ¬ M4 = 0 := by have := HX4.out; omega
                  have h104 : ¬ 104 < E4 := by omega
                  have hX := HX4.out
                  have hg4 := HGE.out
                  rw [← KEY.out, finR, if_neg h0, if_neg h104, numV_fin neg (by omega) (by omega) (by omega) HGE.out (by omega), hX]
                have U1 : (X4 == 0) = false := by rw [beq_eq_false_iff_ne]; exact u1
                have u4 : ¬ 104 < E4 := by omega
                clear u1
                go_wp2_with fail
                refine bodyPost_ret (v := (.agg #[.bool neg, .int .i64 X4, .int .i64 E4, .bool false])) (by simp [results, Try.results67, go_sem, r0, r1, r2, r3]) rfl ?_
                exact ⟨by rw [VAL.out], N4.put _ _ _ _⟩
              · have VAL : Hid (numV (roundK neg M E more up) = (.agg #[.bool neg, .int .i64 X4, .int .i64 E4, .bool false])) := by
                  show _ = _
                  have h0 : ¬ M4 = 0 := by have := HX4.out; omega
                  have h104 : ¬ 104 < E4 := by omega
                  have hX := HX4.out
                  have hg4 := HGE.out
                  rw [← KEY.out, finR, if_neg h0, if_neg h104, numV_fin neg (by omega) (by omega) (by omega) HGE.out (by omega), hX]
                have U1 : (X4 == 0) = false := by rw [beq_eq_false_iff_ne]; exact u1
                have u4 : ¬ 104 < E4 := by omega
                clear u1
                go_wp2_with fail
                refine bodyPost_ret (v := (.agg #[.bool neg, .int .i64 X4, .int .i64 E4, .bool false])) (by simp [results, Try.results67, go_sem, r0, r1, r2, r3]) rfl ?_
                exact ⟨by rw [VAL.out], N4.put _ _ _ _⟩
        · have hb : (aw = false ∧ (!up == neg) = false) ∨ (aw = true ∧ (!up == neg) = true) := by rw [haw]; cases up <;> cases neg <;> simp
          rcases hb with ⟨ha, A⟩ | ⟨ha, A⟩
          · have HAW : Hid (aw = false) := ha
            clear ha
            go_wp2_with fail
            obtain ⟨wo, ewo⟩ : ∃ wo : World, wo = wr.setCell ⟨w.heap.size, 2, none⟩ (.int .i64 (-149)) := ⟨_, rfl⟩
            rw [← ewo]
            have NS : Nf w wo neg X (-149) false := by rw [ewo]; exact N.setE (-149)
            clear ewo c0 c1 c2 c3 g1 g2 N
            go_loopw [] (fun w' => ∃ (M4 : Nat) (E4 : Int), Nf w w' neg M4 E4 false ∧ M4 = M1 ∧ E4 = (-149)) (fun w' => (intOf ((w'.cell? ⟨w.heap.size, 2, none⟩).getD undef) + 149).toNat)
            case atStart =>
              refine ⟨M1, (-149), ?_, rfl, rfl⟩
              have hx := HX.out
              have e9 : ((M1 : Nat) : Int) = X := by omega
              rw [e9]; exact NS
            case round =>
              obtain ⟨M4, E4, N4, hM4, hE4⟩ := hrel
              clear NS
              obtain ⟨X4, hX4⟩ : ∃ X4 : Int, X4 = (M4 : Int) := ⟨_, rfl⟩
              rw [← hX4] at N4
              have HX4 : Hid (X4 = (M4 : Int)) := hX4
              have hlt := MD.out.lt
              have hge := MD.out.ge
              have hok : 8388608 ≤ M1 ∨ (-149) = -149 := by have := MD.out.ok; simpa using this
              have HLT : Hid (M4 < 16777216) := by show _ < _; omega
              have HGE : Hid (-149 ≤ E4) := by show _ ≤ _; omega
              have x4a : 0 ≤ X4 := by omega
              have x4b : X4 < 16777216 := by omega
              have hC : ¬ (M4 < 8388608 ∧ -149 < E4 ∧ 0 < M4) := by omega
              have key : sgn neg (finR M4 E4 aw) = roundK neg M E more up := by
                rw [hM4, hE4]
                exact fin_sgn (aw := aw) (by rw [HAW.out]; simpa using round_down MD.out rfl) haw
              have KEY : Hid (sgn neg (finR M4 E4 aw) = roundK neg M E more up) := key
              have hub : E4 ≤ 1063 := by omega
              clear key hlt hok haw hX4 hM4 hE4
              have c0 := N4.c0
              have c1 := N4.c1
              have c2 := N4.c2
              have c3 := N4.c3
              have g1 := N4.g1
              have g2 := N4.g2
              have r0 := N4.r0
              have r1 := N4.r1
              have r2 := N4.r2
              have r3 := N4.r3
              have f0 := N4.f0
              have f1 := N4.f1
              have f2 := N4.f2
              have f3 := N4.f3
              have hcase : (X4 = 0 ∧ ¬ -149 < E4) ∨ (X4 = 0 ∧ -149 < E4) ∨ (¬ X4 = 0 ∧ ¬ X4 < 8388608 ∧ 104 < E4) ∨ (¬ X4 = 0 ∧ ¬ X4 < 8388608 ∧ ¬ 104 < E4) ∨ (¬ X4 = 0 ∧ X4 < 8388608 ∧ ¬ -149 < E4) := by have := HX4.out; omega
              have HC : Hid (¬ (M4 < 8388608 ∧ -149 < E4 ∧ 0 < M4)) := hC
              clear hC
              rcases hcase with ⟨u1, u2⟩ | ⟨u1, u2⟩ | ⟨u1, u2, u3⟩ | ⟨u1, u2, u3⟩ | ⟨u1, u2, u3⟩
              · have VAL : Hid (numV (roundK neg M E more up) = (.agg #[.bool false, .int .i64 0, .int .i64 0, .bool false])) := by
                  show _ = _
                  have h0 : M4 = 0 := by have := HX4.out; omega
                  rw [← KEY.out, finR, if_pos h0]
                  have : sgn neg 0 = 0 := by cases neg <;> rfl
                  rw [this]; exact numV_zero
                subst u1
                go_wp2_with fail
                refine bodyPost_ret (v := (.agg #[.bool false, .int .i64 0, .int .i64 0, .bool false])) (by simp [results, Try.results67, go_sem, r0, r1, r2, r3]) rfl ?_
                exact ⟨by rw [VAL.out], N4.put _ _ _ _⟩
              · have VAL : Hid (numV (roundK neg M E more up) = (.agg #[.bool false, .int .i64 0, .int .i64 0, .bool false])) := by
                  show _ = _
                  have h0 : M4 = 0 := by have := HX4.out; omega
                  rw [← KEY.out, finR, if_pos h0]
                  have : sgn neg 0 = 0 := by cases neg <;> rfl
                  rw [this]; exact numV_zero
                subst u1
                go_wp2_with fail
                refine bodyPost_ret (v := (.agg #[.bool false, .int .i64 0, .int .i64 0, .bool false])) (by simp [results, Try.results67, go_sem, r0, r1, r2, r3]) rfl ?_
                exact ⟨by rw [VAL.out], N4.put _ _ _ _⟩
              · have VAL : Hid (numV (roundK neg M E more up) = (.agg #[.bool neg, .int .i64 16777215, .int .i64 104, .bool false])) := by
                  show _ = _
                  have h0 : ¬ M4 = 0 := by have := HX4.out; omega
                  rw [← KEY.out, finR, if_neg h0, if_pos u3, if_neg (by rw [HAW.out]; simp)]
                  exact numV_max neg
                have U1 : (X4 == 0) = false := by rw [beq_eq_false_iff_ne]; exact u1
                clear u1
                go_wp2_with fail
                refine bodyPost_ret (v := (.agg #[.bool neg, .int .i64 16777215, .int .i64 104, .bool false])) (by simp [results, Try.results67, go_sem, r0, r1, r2, r3]) rfl ?_
                exact ⟨by rw [VAL.out], N4.put _ _ _ _⟩
              · have VAL : Hid (numV (roundK neg M E more up) = (.agg #[.bool neg, .int .i64 X4, .int .i64 E4, .bool false])) := by
                  show _ = _
                  have h0 : ¬ M4 = 0 := by have := HX4.out; omega
                  have h104 : ¬ 104 < E4 := by omega
                  have hX := HX4.out
                  have hg4 := HGE.out
                  rw [← KEY.out, finR, if_neg h0, if_neg h104, numV_fin neg (by omega) (by omega) (by omega) HGE.out (by omega), hX]
                have U1 : (X4 == 0) = false := by rw [beq_eq_false_iff_ne]; exact u1
                have u4 : ¬ 104 < E4 := by omega
                clear u1
                go_wp2_with fail
                refine bodyPost_ret (v := (.agg #[.bool neg, .int .i64 X4, .int .i64 E4, .bool false])) (by simp [results, Try.results67, go_sem, r0, r1, r2, r3]) rfl ?_
                exact ⟨by rw [VAL.out], N4.put _ _ _ _⟩
              · have VAL : Hid (numV (roundK neg M E more up) = (.agg #[.bool neg, .int .i64 X4, .int .i64 E4, .bool false])) := by
                  show _ = _
                  have h0 : ¬ M4 = 0 := by have := HX4.out; omega
                  have h104 : ¬ 104 < E4 := by omega
                  have hX := HX4.out
                  have hg4 := HGE.out
                  rw [← KEY.out, finR, if_neg h0, if_neg h104, numV_fin neg (by omega) (by omega) (by omega) HGE.out (by omega), hX]
                have U1 : (X4 == 0) = false := by rw [beq_eq_false_iff_ne]; exact u1
                have u4 : ¬ 104 < E4 := by omega
                clear u1
                go_wp2_with fail
                refine bodyPost_ret (v := (.agg #[.bool neg, .int .i64 X4, .int .i64 E4, .bool false])) (by simp [results, Try.results67, go_sem, r0, r1, r2, r3]) rfl ?_
                exact ⟨by rw [VAL.out], N4.put _ _ _ _⟩
          · have HAW : Hid (aw = true) := ha
            clear ha
            go_wp2_with fail
            obtain ⟨wo, ewo⟩ : ∃ wo : World, wo = (wr.setCell ⟨w.heap.size, 2, none⟩ (.int .i64 (-149))).setCell ⟨w.heap.size, 1, none⟩ (.int .i64 (X + 1)) := ⟨_, rfl⟩
            rw [← ewo]
            have NS : Nf w wo neg (X + 1) (-149) false := by rw [ewo]; exact (N.setE (-149)).setM (X + 1)
            clear ewo c0 c1 c2 c3 g1 g2 N
            go_loopw [] (fun w' => ∃ (M4 : Nat) (E4 : Int), Nf w w' neg M4 E4 false ∧ M4 = M1 + 1 ∧ E4 = (-149)) (fun w' => (intOf ((w'.cell? ⟨w.heap.size, 2, none⟩).getD undef) + 149).toNat)
            case atStart =>
              refine ⟨M1 + 1, (-149), ?_, rfl, rfl⟩
              have hx := HX.out
              have e9 : ((M1 + 1 : Nat) : Int) = (X + 1) := by omega
              rw [e9]; exact NS
            case round =>
              obtain ⟨M4, E4, N4, hM4, hE4⟩ := hrel
              clear NS
              obtain ⟨X4, hX4⟩ : ∃ X4 : Int, X4 = (M4 : Int) := ⟨_, rfl⟩
              rw [← hX4] at N4
              have HX4 : Hid (X4 = (M4 : Int)) := hX4
              have hq9 := HT2.out
              have hx9 := HX.out
              have hlt := MD.out.lt
              have hge := MD.out.ge
              have hok : 8388608 ≤ M1 ∨ (-149) = -149 := by have := MD.out.ok; simpa using this
              have HLT : Hid (M4 < 16777216) := by show _ < _; omega
              have HGE : Hid (-149 ≤ E4) := by show _ ≤ _; omega
              have x4a : 0 ≤ X4 := by omega
              have x4b : X4 < 16777216 := by omega
              have hC : ¬ (M4 < 8388608 ∧ -149 < E4 ∧ 0 < M4) := by omega
              have key : sgn neg (finR M4 E4 aw) = roundK neg M E more up := by
                rw [hM4, hE4]
                have hne : ¬ M1 + 1 = 16777216 := by have := HX.out; have := HT2.out; omega
                have hu := round_up MD.out rfl
                rw [if_neg hne, if_neg hne] at hu
                refine fin_sgn (aw := aw) ?_ haw
                rw [HAW.out, if_pos rfl]; exact hu
              have KEY : Hid (sgn neg (finR M4 E4 aw) = roundK neg M E more up) := key
              have hub : E4 ≤ 1063 := by omega
              clear key hlt hok haw hX4 hM4 hE4
              clear hq9 hx9
              have c0 := N4.c0
              have c1 := N4.c1
              have c2 := N4.c2
              have c3 := N4.c3
              have g1 := N4.g1
              have g2 := N4.g2
              have r0 := N4.r0
              have r1 := N4.r1
              have r2 := N4.r2
              have r3 := N4.r3
              have f0 := N4.f0
              have f1 := N4.f1
              have f2 := N4.f2
              have f3 := N4.f3
              have hcase : (X4 = 0 ∧ ¬ -149 < E4) ∨ (X4 = 0 ∧ -149 < E4) ∨ (¬ X4 = 0 ∧ ¬ X4 < 8388608 ∧ 104 < E4) ∨ (¬ X4 = 0 ∧ ¬ X4 < 8388608 ∧ ¬ 104 < E4) ∨ (¬ X4 = 0 ∧ X4 < 8388608 ∧ ¬ -149 < E4) := by have := HX4.out; omega
              have HC : Hid (¬ (M4 < 8388608 ∧ -149 < E4 ∧ 0 < M4)) := hC
              clear hC
              rcases hcase with ⟨u1, u2⟩ | ⟨u1, u2⟩ | ⟨u1, u2, u3⟩ | ⟨u1, u2, u3⟩ | ⟨u1, u2, u3⟩
              · have VAL : Hid (numV (roundK neg M E more up) = (.agg #[.bool false, .int .i64 0, .int .i64 0, .bool false])) := by
                  show _ = _
                  have h0 : M4 = 0 := by have := HX4.out; omega
                  rw [← KEY.out, finR, if_pos h0]
                  have : sgn neg 0 = 0 := by cases neg <;> rfl
                  rw [this]; exact numV_zero
                subst u1
                go_wp2_with fail
                refine bodyPost_ret (v := (.agg #[.bool false, .int .i64 0, .int .i64 0, .bool false])) (by simp [results, Try.results67, go_sem, r0, r1, r2, r3]) rfl ?_
                exact ⟨by rw [VAL.out], N4.put _ _ _ _⟩
              · have VAL : Hid (numV (roundK neg M E more up) = (.agg #[.bool false, .int .i64 0, .int .i64 0, .bool false])) := by
                  show _ = _
                  have h0 : M4 = 0 := by have := HX4.out; omega
                  rw [← KEY.out, finR, if_pos h0]
                  have : sgn neg 0 = 0 := by cases neg <;> rfl
                  rw [this]; exact numV_zero
                subst u1
                go_wp2_with fail
                refine bodyPost_ret (v := (.agg #[.bool false, .int .i64 0, .int .i64 0, .bool false])) (by simp [results, Try.results67, go_sem, r0, r1, r2, r3]) rfl ?_
                exact ⟨by rw [VAL.out], N4.put _ _ _ _⟩
              · have VAL : Hid (numV (roundK neg M E more up) = (.agg #[.bool neg, .int .i64 0, .int .i64 0, .bool true])) := by
                  show _ = _
                  have h0 : ¬ M4 = 0 := by have := HX4.out; omega
                  rw [← KEY.out, finR, if_neg h0, if_pos u3, if_pos HAW.out]
                  exact numV_inf neg
                have U1 : (X4 == 0) = false := by rw [beq_eq_false_iff_ne]; exact u1
                clear u1
                go_wp2_with fail
                refine bodyPost_ret (v := (.agg #[.bool neg, .int .i64 0, .int .i64 0, .bool true])) (by simp [results, Try.results67, go_sem, r0, r1, r2, r3]) rfl ?_
                exact ⟨by rw [VAL.out], N4.put _ _ _ _⟩
              · have VAL : Hid (numV (roundK neg M E more up) = (.agg #[.bool neg, .int .i64 X4, .int .i64 E4, .bool false])) := by
                  show _ = _
                  have h0 : ¬ M4 = 0 := by have := HX4.out; omega
                  have h104 : ¬ 104 < E4 := by omega
                  have hX := HX4.out
                  have hg4 := HGE.out
                  rw [← KEY.out, finR, if_neg h0, if_neg h104, numV_fin neg (by omega) (by omega) (by omega) HGE.out (by omega), hX]
                have U1 : (X4 == 0) = false := by rw [beq_eq_false_iff_ne]; exact u1
                have u4 : ¬ 104 < E4 := by omega
                clear u1
                go_wp2_with fail
                refine bodyPost_ret (v := (.agg #[.bool neg, .int .i64 X4, .int .i64 E4, .bool false])) (by simp [results, Try.results67, go_sem, r0, r1, r2, r3]) rfl ?_
                exact ⟨by rw [VAL.out], N4.put _ _ _ _⟩
              · have VAL : Hid (numV (roundK neg M E more up) = (.agg #[.bool neg, .int .i64 X4, .int .i64 E4, .bool false])) := by
                  show _ = _
                  have h0 : ¬ M4 = 0 := by have := HX4.out; omega
                  have h104 : ¬ 104 < E4 := by omega
                  have hX := HX4.out
                  have hg4 := HGE.out
                  rw [← KEY.out, finR, if_neg h0, if_neg h104, numV_fin neg (by omega) (by omega) (by omega) HGE.out (by omega), hX]
                have U1 : (X4 == 0) = false := by rw [beq_eq_false_iff_ne]; exact u1
                have u4 : ¬ 104 < E4 := by omega
                clear u1
                go_wp2_with fail
                refine bodyPost_ret (v := (.agg #[.bool neg, .int .i64 X4, .int .i64 E4, .bool false])) (by simp [results, Try.results67, go_sem, r0, r1, r2, r3]) rfl ?_
                exact ⟨by rw [VAL.out], N4.put _ _ _ _⟩
      · rw [if_neg t1] at md
        have MD : Hid _ := md
        clear md
        cases m1
        · go_wp2_with fail
          obtain ⟨wo, ewo⟩ : ∃ wo : World, wo = wr := ⟨_, rfl⟩
          rw [← ewo]
          have NS : Nf w wo neg X E1 false := by rw [ewo]; exact N
          clear ewo c0 c1 c2 c3 g1 g2 N
          go_loopw [] (fun w' => ∃ (M4 : Nat) (E4 : Int), Nf w w' neg M4 E4 false ∧ M4 * 2 ^ (E4 + 149).toNat = M1 * 2 ^ (E1 + 149).toNat ∧ M4 < 16777216 ∧ -149 ≤ E4 ∧ E4 ≤ 1062) (fun w' => (intOf ((w'.cell? ⟨w.heap.size, 2, none⟩).getD undef) + 149).toNat)
          case atStart => exact ⟨M1, E1, by rw [← HX.out]; exact NS, rfl, MD.out.lt, MD.out.ge, by omega⟩
          case round =>
            obtain ⟨M4, E4, N4, hv, hlt, hge, hle4⟩ := hrel
            clear NS
            obtain ⟨X4, hX4⟩ : ∃ X4 : Int, X4 = (M4 : Int) := ⟨_, rfl⟩
            rw [← hX4] at N4
            have HX4 : Hid (X4 = (M4 : Int)) := hX4
            have HV : Hid (M4 * 2 ^ (E4 + 149).toNat = M1 * 2 ^ (E1 + 149).toNat) := hv
            have HLT : Hid (M4 < 16777216) := hlt
            have HGE : Hid (-149 ≤ E4) := hge
            have x4a : 0 ≤ X4 := by omega
            have x4b : X4 < 16777216 := by omega
            clear hv hlt
            have c0 := N4.c0
            have c1 := N4.c1
            have c2 := N4.c2
            have c3 := N4.c3
            have g1 := N4.g1
            have g2 := N4.g2
            by_cases hC : M4 < 8388608 ∧ -149 < E4 ∧ 0 < M4
            · have v1 : X4 < 8388608 := by omega
              have v2 : -149 < E4 := hC.2.1
              have v3 : 0 < X4 := by omega
              have H0 : Hid (M4 < 8388608 ∧ -149 < E4 ∧ 0 < M4) := hC
              clear hC hX4
              go_wp2_with fail
              have N5 := (N4.setM (X4 * 2)).setE (E4 - 1)
              have hp : M4 * 2 * 2 ^ (E4 - 1 + 149).toNat = M1 * 2 ^ (E1 + 149).toNat := by
                rw [← HV.out, show (E4 + 149).toNat = (E4 - 1 + 149).toNat + 1 by omega, Nat.pow_succ, Nat.mul_assoc, Nat.mul_comm 2]
              refine ⟨⟨M4 * 2, E4 - 1, ?_, hp, by have := H0.out; omega, by omega, by omega⟩, ?_⟩
              · have e5 : ((M4 * 2 : Nat) : Int) = X4 * 2 := by have := HX4.out; omega
                rw [e5]; exact N5
              · rw [N5.c2, N4.c2]; simp [intOf]; omega
            · have hn : 8388608 ≤ M4 ∨ E4 = -149 ∨ M4 = 0 := by omega
              have hex : M4 * 2 ^ (E4 + 149).toNat * rD E = rN M E more := by rw [HV.out]; exact MD.out.eq.1 rfl
              have key := fun aw (haw : aw = (up != neg)) => fin_sgn (neg := neg) (M := M) (E := E) (more := more) (round_exact aw (rD_pos E) hex HLT.out HGE.out hn) haw
              have KEY : Hid (sgn neg (finR M4 E4 aw) = roundK neg M E more up) := key aw haw
              have AW : Hid (aw = (!up == neg)) := by show _ = _; rw [haw]; cases up <;> cases neg <;> rfl
              clear hn hex key haw hX4
              have r0 := N4.r0
              have r1 := N4.r1
              have r2 := N4.r2
              have r3 := N4.r3
              have f0 := N4.f0
              have f1 := N4.f1
              have f2 := N4.f2
              have f3 := N4.f3
              have hcase : (X4 = 0 ∧ ¬ -149 < E4) ∨ (X4 = 0 ∧ -149 < E4) ∨ (¬ X4 = 0 ∧ ¬ X4 < 8388608 ∧ 104 < E4) ∨ (¬ X4 = 0 ∧ ¬ X4 < 8388608 ∧ ¬ 104 < E4) ∨ (¬ X4 = 0 ∧ X4 < 8388608 ∧ ¬ -149 < E4) := by have := HX4.out; omega
              have HC : Hid (¬ (M4 < 8388608 ∧ -149 < E4 ∧ 0 < M4)) := hC
              clear hC
              rcases hcase with ⟨u1, u2⟩ | ⟨u1, u2⟩ | ⟨u1, u2, u3⟩ | ⟨u1, u2, u3⟩ | ⟨u1, u2, u3⟩
              · have VAL : Hid (numV (roundK neg M E more up) = (.agg #[.bool false, .int .i64 0, .int .i64 0, .bool false])) := by
                  show _ = _
                  have h0 : M4 = 0 := by have := HX4.out; omega
                  rw [← KEY.out, finR, if_pos h0]
                  have : sgn neg 0 = 0 := by cases neg <;> rfl
                  rw [this]; exact numV_zero
                subst u1
                go_wp2_with fail
                refine bodyPost_ret (v := (.agg #[.bool false, .int .i64 0, .int .i64 0, .bool false])) (by simp [results, Try.results67, go_sem, r0, r1, r2, r3]) rfl ?_
                exact ⟨by rw [VAL.out], N4.put _ _ _ _⟩
              · have VAL : Hid (numV (roundK neg M E more up) = (.agg #[.bool false, .int .i64 0, .int .i64 0, .bool false])) := by
                  show _ = _
                  have h0 : M4 = 0 := by have := HX4.out; omega
                  rw [← KEY.out, finR, if_pos h0]
                  have : sgn neg 0 = 0 := by cases neg <;> rfl
                  rw [this]; exact numV_zero
                subst u1
                go_wp2_with fail
                refine bodyPost_ret (v := (.agg #[.bool false, .int .i64 0, .int .i64 0, .bool false])) (by simp [results, Try.results67, go_sem, r0, r1, r2, r3]) rfl ?_
                exact ⟨by rw [VAL.out], N4.put _ _ _ _⟩
              · cases aw
                · have A : (!up == neg) = false := by rw [← AW.out]
                  have VAL : Hid (numV (roundK neg M E more up) = (.agg #[.bool neg, .int .i64 16777215, .int .i64 104, .bool false])) := by
                    show _ = _
                    have h0 : ¬ M4 = 0 := by have := HX4.out; omega
                    rw [← KEY.out, finR, if_neg h0, if_pos u3, if_neg (by simp)]
                    exact numV_max neg
                  have U1 : (X4 == 0) = false := by rw [beq_eq_false_iff_ne]; exact u1
                  clear u1
                  go_wp2_with fail
                  refine bodyPost_ret (v := (.agg #[.bool neg, .int .i64 16777215, .int .i64 104, .bool false])) (by simp [results, Try.results67, go_sem, r0, r1, r2, r3]) rfl ?_
                  exact ⟨by rw [VAL.out], N4.put _ _ _ _⟩
                · have A : (!up == neg) = true := by rw [← AW.out]
                  have VAL : Hid (numV (roundK neg M E more up) = (.agg #[.bool neg, .int .i64 0, .int .i64 0, .bool true])) := by
                    show _ = _
                    have h0 : ¬ M4 = 0 := by have := HX4.out; omega
                    rw [← KEY.out, finR, if_neg h0, if_pos u3, if_pos rfl]
                    exact numV_inf neg
                  have U1 : (X4 == 0) = false := by rw [beq_eq_false_iff_ne]; exact u1
                  clear u1
                  go_wp2_with fail
                  refine bodyPost_ret (v := (.agg #[.bool neg, .int .i64 0, .int .i64 0, .bool true])) (by simp [results, Try.results67, go_sem, r0, r1, r2, r3]) rfl ?_
                  exact ⟨by rw [VAL.out], N4.put _ _ _ _⟩
              · have VAL : Hid (numV (roundK neg M E more up) = (.agg #[.bool neg, .int .i64 X4, .int .i64 E4, .bool false])) := by
                  show _ = _
                  have h0 : ¬ M4 = 0 := by have := HX4.out; omega
                  have h104 : ¬ 104 < E4 := by omega
                  have hX := HX4.out
                  have hg4 := HGE.out
                  rw [← KEY.out, finR, if_neg h0, if_neg h104, numV_fin neg (by omega) (by omega) (by omega) HGE.out (by omega), hX]
                have U1 : (X4 == 0) = false := by rw [beq_eq_false_iff_ne]; exact u1
                have u4 : ¬ 104 < E4 := by omega
                clear u1
                go_wp2_with fail
                refine bodyPost_ret (v := (.agg #[.bool neg, .int .i64 X4, .int .i64 E4, .bool false])) (by simp [results, Try.results67, go_sem, r0, r1, r2, r3]) rfl ?_
                exact ⟨by rw [VAL.out], N4.put _ _ _ _⟩
              · have VAL : Hid (numV (roundK neg M E more up) = (.agg #[.bool neg, .int .i64 X4, .int .i64 E4, .bool false])) := by
                  show _ = _
                  have h0 : ¬ M4 = 0 := by have := HX4.out; omega
                  have h104 : ¬ 104 < E4 := by omega
                  have hX := HX4.out
                  have hg4 := HGE.out
                  rw [← KEY.out, finR, if_neg h0, if_neg h104, numV_fin neg (by omega) (by omega) (by omega) HGE.out (by omega), hX]
                have U1 : (X4 == 0) = false := by rw [beq_eq_false_iff_ne]; exact u1
                have u4 : ¬ 104 < E4 := by omega
                clear u1
                go_wp2_with fail
                refine bodyPost_ret (v := (.agg #[.bool neg, .int .i64 X4, .int .i64 E4, .bool false])) (by simp [results, Try.results67, go_sem, r0, r1, r2, r3]) rfl ?_
                exact ⟨by rw [VAL.out], N4.put _ _ _ _⟩
        · have hb : (aw = false ∧ (!up == neg) = false) ∨ (aw = true ∧ (!up == neg) = true) := by rw [haw]; cases up <;> cases neg <;> simp
          rcases hb with ⟨ha, A⟩ | ⟨ha, A⟩
          · have HAW : Hid (aw = false) := ha
            clear ha
            go_wp2_with fail
            obtain ⟨wo, ewo⟩ : ∃ wo : World, wo = wr := ⟨_, rfl⟩
            rw [← ewo]
            have NS : Nf w wo neg X E1 false := by rw [ewo]; exact N
            clear ewo c0 c1 c2 c3 g1 g2 N
            go_loopw [] (fun w' => ∃ (M4 : Nat) (E4 : Int), Nf w w' neg M4 E4 false ∧ M4 = M1 ∧ E4 = E1) (fun w' => (intOf ((w'.cell? ⟨w.heap.size, 2, none⟩).getD undef) + 149).toNat)
            case atStart =>
              refine ⟨M1, E1, ?_, rfl, rfl⟩
              have hx := HX.out
              have e9 : ((M1 : Nat) : Int) = X := by omega
              rw [e9]; exact NS
            case round =>
              obtain ⟨M4, E4, N4, hM4, hE4⟩ := hrel
              clear NS
              obtain ⟨X4, hX4⟩ : ∃ X4 : Int, X4 = (M4 : Int) := ⟨_, rfl⟩
              rw [← hX4] at N4
              have HX4 : Hid (X4 = (M4 : Int)) := hX4
              have hlt := MD.out.lt
              have hge := MD.out.ge
              have hok : 8388608 ≤ M1 ∨ E1 = -149 := by have := MD.out.ok; simpa using this
              have HLT : Hid (M4 < 16777216) := by show _ < _; omega
              have HGE : Hid (-149 ≤ E4) := by show _ ≤ _; omega
              have x4a : 0 ≤ X4 := by omega
              have x4b : X4 < 16777216 := by omega
              have hC : ¬ (M4 < 8388608 ∧ -149 < E4 ∧ 0 < M4) := by omega
              have key : sgn neg (finR M4 E4 aw) = roundK neg M E more up := by
                rw [hM4, hE4]
                exact fin_sgn (aw := aw) (by rw [HAW.out]; simpa using round_down MD.out rfl) haw
              have KEY : Hid (sgn neg (finR M4 E4 aw) = roundK neg M E more up) := key
              have hub : E4 ≤ 1063 := by omega
              clear key hlt hok haw hX4 hM4 hE4
              have c0 := N4.c0
              have c1 := N4.c1
              have c2 := N4.c2
              have c3 := N4.c3
              have g1 := N4.g1
              have g2 := N4.g2
              have r0 := N4.r0
              have r1 := N4.r1
              have r2 := N4.r2
              have r3 := N4.r3
              have f0 := N4.f0
              have f1 := N4.f1
              have f2 := N4.f2
              have f3 := N4.f3
              have hcase : (X4 = 0 ∧ ¬ -149 < E4) ∨ (X4 = 0 ∧ -149 < E4) ∨ (¬ X4 = 0 ∧ ¬ X4 < 8388608 ∧ 104 < E4) ∨ (¬ X4 = 0 ∧ ¬ X4 < 8388608 ∧ ¬ 104 < E4) ∨ (¬ X4 = 0 ∧ X4 < 8388608 ∧ ¬ -149 < E4) := by have := HX4.out; omega
              have HC : Hid (¬ (M4 < 8388608 ∧ -149 < E4 ∧ 0 < M4)) := hC
              clear hC
              rcases hcase with ⟨u1, u2⟩ | ⟨u1, u2⟩ | ⟨u1, u2, u3⟩ | ⟨u1, u2, u3⟩ | ⟨u1, u2, u3⟩
              · have VAL : Hid (numV (roundK neg M E more up) = (.agg #[.bool false, .int .i64 0, .int .i64 0, .bool false])) := by
                  show _ = _
                  have h0 : M4 = 0 := by have := HX4.out; omega
                  rw [← KEY.out, finR, if_pos h0]
                  have : sgn neg 0 = 0 := by cases neg <;> rfl
                  rw [this]; exact numV_zero
                subst u1
                go_wp2_with fail
                refine bodyPost_ret (v := (.agg #[.bool false, .int .i64 0, .int .i64 0, .bool false])) (by simp [results, Try.results67, go_sem, r0, r1, r2, r3]) rfl ?_
                exact ⟨by rw [VAL.out], N4.put _ _ _ _⟩
              · have VAL : Hid (numV (roundK neg M E more up) = (.agg #[.bool false, .int .i64 0, .int .i64 0, .bool false])) := by
                  show _ = _
                  have h0 : M4 = 0 := by have := HX4.out; omega
                  rw [← KEY.out, finR, if_pos h0]
                  have : sgn neg 0 = 0 := by cases neg <;> rfl
                  rw [this]; exact numV_zero
                subst u1
                go_wp2_with fail
                refine bodyPost_ret (v := (.agg #[.bool false, .int .i64 0, .int .i64 0, .bool false])) (by simp [results, Try.results67, go_sem, r0, r1, r2, r3]) rfl ?_
                exact ⟨by rw [VAL.out], N4.put _ _ _ _⟩
              · have VAL : Hid (numV (roundK neg M E more up) = (.agg #[.bool neg, .int .i64 16777215, .int .i64 104, .bool false])) := by
                  show _ = _
                  have h0 : ¬ M4 = 0 := by have := HX4.out; omega
                  rw [← KEY.out, finR, if_neg h0, if_pos u3, if_neg (by rw [HAW.out]; simp)]
                  exact numV_max neg
                have U1 : (X4 == 0) = false := by rw [beq_eq_false_iff_ne]; exact u1
                clear u1
                go_wp2_with fail
                refine bodyPost_ret (v := (.agg #[.bool neg, .int .i64 16777215, .int .i64 104, .bool false])) (by simp [results, Try.results67, go_sem, r0, r1, r2, r3]) rfl ?_
                exact ⟨by rw [VAL.out], N4.put _ _ _ _⟩
              · have VAL : Hid (numV (roundK neg M E more up) = (.agg #[.bool neg, .int .i64 X4, .int .i64 E4, .bool false])) := by
                  show _ = _
                  have h0 : ¬ M4 = 0 := by have := HX4.out; omega
                  have h104 : ¬ 104 < E4 := by omega
                  have hX := HX4.out
                  have hg4 := HGE.out
                  rw [← KEY.out, finR, if_neg h0, if_neg h104, numV_fin neg (by omega) (by omega) (by omega) HGE.out (by omega), hX]
                have U1 : (X4 == 0) = false := by rw [beq_eq_false_iff_ne]; exact u1
                have u4 : ¬ 104 < E4 := by omega
                clear u1
                go_wp2_with fail
                refine bodyPost_ret (v := (.agg #[.bool neg, .int .i64 X4, .int .i64 E4, .bool false])) (by simp [results, Try.results67, go_sem, r0, r1, r2, r3]) rfl ?_
                exact ⟨by rw [VAL.out], N4.put _ _ _ _⟩
              · have VAL : Hid (numV (roundK neg M E more up) = (.agg #[.bool neg, .int .i64 X4, .int .i64 E4, .bool false])) := by
                  show _ = _
                  have h0 : ¬ M4 = 0 := by have := HX4.out; omega
                  have h104 : ¬ 104 < E4 := by omega
                  have hX := HX4.out
                  have hg4 := HGE.out
                  rw [← KEY.out, finR, if_neg h0, if_neg h104, numV_fin neg (by omega) (by omega) (by omega) HGE.out (by omega), hX]
                have U1 : (X4 == 0) = false := by rw [beq_eq_false_iff_ne]; exact u1
                have u4 : ¬ 104 < E4 := by omega
                clear u1
                go_wp2_with fail
                refine bodyPost_ret (v := (.agg #[.bool neg, .int .i64 X4, .int .i64 E4, .bool false])) (by simp [results, Try.results67, go_sem, r0, r1, r2, r3]) rfl ?_
                exact ⟨by rw [VAL.out], N4.put _ _ _ _⟩
          · have HAW : Hid (aw = true) := ha
            clear ha
            by_cases hq : X + 1 = 16777216
            · have Q : (X + 1 == 16777216) = true := by rw [hq]; rfl
              have HQ : Hid (X + 1 = 16777216) := hq
              clear hq
              go_wp2_with fail
              obtain ⟨wo, ewo⟩ : ∃ wo : World, wo = (((wr).setCell ⟨w.heap.size, 1, none⟩ (.int .i64 (X + 1))).setCell ⟨w.heap.size, 1, none⟩ (.int .i64 8388608)).setCell ⟨w.heap.size, 2, none⟩ (.int .i64 (E1 + 1)) := ⟨_, rfl⟩
              rw [← ewo]
              have NS : Nf w wo neg 8388608 (E1 + 1) false := by rw [ewo]; exact (((N).setM (X + 1)).setM 8388608).setE (E1 + 1)
              clear ewo c0 c1 c2 c3 g1 g2 N
              go_loopw [] (fun w' => ∃ (M4 : Nat) (E4 : Int), Nf w w' neg M4 E4 false ∧ M4 = 8388608 ∧ E4 = (E1 + 1)) (fun w' => (intOf ((w'.cell? ⟨w.heap.size, 2, none⟩).getD undef) + 149).toNat)
              case atStart =>
                refine ⟨8388608, (E1 + 1), ?_, rfl, rfl⟩
                have hx := HX.out
                have e9 : ((8388608 : Nat) : Int) = 8388608 := by omega
                rw [e9]; exact NS
              case round =>
                obtain ⟨M4, E4, N4, hM4, hE4⟩ := hrel
                clear NS
                obtain ⟨X4, hX4⟩ : ∃ X4 : Int, X4 = (M4 : Int) := ⟨_, rfl⟩
                rw [← hX4] at N4
                have HX4 : Hid (X4 = (M4 : Int)) := hX4
                have hlt := MD.out.lt
                have hge := MD.out.ge
                have hok : 8388608 ≤ M1 ∨ E1 = -149 := by have := MD.out.ok; simpa using this
                have HLT : Hid (M4 < 16777216) := by show _ < _; omega
                have HGE : Hid (-149 ≤ E4) := by show _ ≤ _; omega
                have x4a : 0 ≤ X4 := by omega
                have x4b : X4 < 16777216 := by omega
                have hC : ¬ (M4 < 8388608 ∧ -149 < E4 ∧ 0 < M4) := by omega
                have key : sgn neg (finR M4 E4 aw) = roundK neg M E more up := by
                  rw [hM4, hE4]
                  have hne : M1 + 1 = 16777216 := by have := HX.out; have := HQ.out; omega
                  have hu := round_up MD.out rfl
                  rw [if_pos hne, if_pos hne] at hu
                  refine fin_sgn (aw := aw) ?_ haw
                  rw [HAW.out, if_pos rfl]; exact hu
                have KEY : Hid (sgn neg (finR M4 E4 aw) = roundK neg M E more up) := key
                have hub : E4 ≤ 1063 := by omega
                clear key hlt hok haw hX4 hM4 hE4
                have c0 := N4.c0
                have c1 := N4.c1
                have c2 := N4.c2
                have c3 := N4.c3
                have g1 := N4.g1
                have g2 := N4.g2
                have r0 := N4.r0
                have r1 := N4.r1
                have r2 := N4.r2
                have r3 := N4.r3
                have f0 := N4.f0
                have f1 := N4.f1
                have f2 := N4.f2
                have f3 := N4.f3
                have hcase : (X4 = 0 ∧ ¬ -149 < E4) ∨ (X4 = 0 ∧ -149 < E4) ∨ (¬ X4 = 0 ∧ ¬ X4 < 8388608 ∧ 104 < E4) ∨ (¬ X4 = 0 ∧ ¬ X4 < 8388608 ∧ ¬ 104 < E4) ∨ (¬ X4 = 0 ∧ X4 < 8388608 ∧ ¬ -149 < E4) := by have := HX4.out; omega
                have HC : Hid (¬ (M4 < 8388608 ∧ -149 < E4 ∧ 0 < M4)) := hC
                clear hC
                rcases hcase with ⟨u1, u2⟩ | ⟨u1, u2⟩ | ⟨u1, u2, u3⟩ | ⟨u1, u2, u3⟩ | ⟨u1, u2, u3⟩
                · have VAL : Hid (numV (roundK neg M E more up) = (.agg #[.bool false, .int .i64 0, .int .i64 0, .bool false])) := by
                    show _ = _
                    have h0 : M4 = 0 := by have := HX4.out; omega
                    rw [← KEY.out, finR, if_pos h0]
                    have : sgn neg 0 = 0 := by cases neg <;> rfl
                    rw [this]; exact numV_zero
                  subst u1
                  go_wp2_with fail
                  refine bodyPost_ret (v := (.agg #[.bool false, .int .i64 0, .int .i64 0, .bool false])) (by simp [results, Try.results67, go_sem, r0, r1, r2, r3]) rfl ?_
                  exact ⟨by rw [VAL.out], N4.put _ _ _ _⟩
                · have VAL : Hid (numV (roundK neg M E more up) = (.agg #[.bool false, .int .i64 0, .int .i64 0, .bool false])) := by
                    show _ = _
                    have h0 : M4 = 0 := by have := HX4.out; omega
                    rw [← KEY.out, finR, if_pos h0]
                    have : sgn neg 0 = 0 := by cases neg <;> rfl
                    rw [this]; exact numV_zero
                  subst u1
                  go_wp2_with fail
                  refine bodyPost_ret (v := (.agg #[.bool false, .int .i64 0, .int .i64 0, .bool false])) (by simp [results, Try.results67, go_sem, r0, r1, r2, r3]) rfl ?_
                  exact ⟨by rw [VAL.out], N4.put _ _ _ _⟩
                · have VAL : Hid (numV (roundK neg M E more up) = (.agg #[.bool neg, .int .i64 0, .int .i64 0, .bool true])) := by
                    show _ = _
                    have h0 : ¬ M4 = 0 := by have := HX4.out; omega
                    rw [← KEY.out, finR, if_neg h0, if_pos u3, if_pos HAW.out]
                    exact numV_inf neg
                  have U1 : (X4 == 0) = false := by rw [beq_eq_false_iff_ne]; exact u1
                  clear u1
                  go_wp2_with fail
                  refine bodyPost_ret (v := (.agg #[.bool neg, .int .i64 0, .int .i64 0, .bool true])) (by simp [results, Try.results67, go_sem, r0, r1, r2, r3]) rfl ?_
                  exact ⟨by rw [VAL.out], N4.put _ _ _ _⟩
                · have VAL : Hid (numV (roundK neg M E more up) = (.agg #[.bool neg, .int .i64 X4, .int .i64 E4, .bool false])) := by
                    show _ = _
                    have h0 : ¬ M4 = 0 := by have := HX4.out; omega
                    have h104 : ¬ 104 < E4 := by omega
                    have hX := HX4.out
                    have hg4 := HGE.out
                    rw [← KEY.out, finR, if_neg h0, if_neg h104, numV_fin neg (by omega) (by omega) (by omega) HGE.out (by omega), hX]
                  have U1 : (X4 == 0) = false := by rw [beq_eq_false_iff_ne]; exact u1
                  have u4 : ¬ 104 < E4 := by omega
                  clear u1
                  go_wp2_with fail
                  refine bodyPost_ret (v := (.agg #[.bool neg, .int .i64 X4, .int .i64 E4, .bool false])) (by simp [results, Try.results67, go_sem, r0, r1, r2, r3]) rfl ?_
                  exact ⟨by rw [VAL.out], N4.put _ _ _ _⟩
                · have VAL : Hid (numV (roundK neg M E more up) = (.agg #[.bool neg, .int .i64 X4, .int .i64 E4, .bool false])) := by
                    show _ = _
                    have h0 : ¬ M4 = 0 := by have := HX4.out; omega
                    have h104 : ¬ 104 < E4 := by omega
                    have hX := HX4.out
                    have hg4 := HGE.out
                    rw [← KEY.out, finR, if_neg h0, if_neg h104, numV_fin neg (by omega) (by omega) (by omega) HGE.out (by omega), hX]
                  have U1 : (X4 == 0) = false := by rw [beq_eq_false_iff_ne]; exact u1
                  have u4 : ¬ 104 < E4 := by omega
                  clear u1
                  go_wp2_with fail
                  refine bodyPost_ret (v := (.agg #[.bool neg, .int .i64 X4, .int .i64 E4, .bool false])) (by simp [results, Try.results67, go_sem, r0, r1, r2, r3]) rfl ?_
                  exact ⟨by rw [VAL.out], N4.put _ _ _ _⟩
            · have Q : (X + 1 == 16777216) = false := by rw [beq_eq_false_iff_ne]; exact hq
              have HQ : Hid (¬ X + 1 = 16777216) := hq
              clear hq
              go_wp2_with fail
              obtain ⟨wo, ewo⟩ : ∃ wo : World, wo = (wr).setCell ⟨w.heap.size, 1, none⟩ (.int .i64 (X + 1)) := ⟨_, rfl⟩
              rw [← ewo]
              have NS : Nf w wo neg (X + 1) E1 false := by rw [ewo]; exact (N).setM (X + 1)
              clear ewo c0 c1 c2 c3 g1 g2 N
              go_loopw [] (fun w' => ∃ (M4 : Nat) (E4 : Int), Nf w w' neg M4 E4 false ∧ M4 = M1 + 1 ∧ E4 = E1) (fun w' => (intOf ((w'.cell? ⟨w.heap.size, 2, none⟩).getD undef) + 149).toNat)
              case atStart =>
                refine ⟨M1 + 1, E1, ?_, rfl, rfl⟩
                have hx := HX.out
                have e9 : ((M1 + 1 : Nat) : Int) = (X + 1) := by omega
                rw [e9]; exact NS
              case round =>
                obtain ⟨M4, E4, N4, hM4, hE4⟩ := hrel
                clear NS
                obtain ⟨X4, hX4⟩ : ∃ X4 : Int, X4 = (M4 : Int) := ⟨_, rfl⟩
                rw [← hX4] at N4
                have HX4 : Hid (X4 = (M4 : Int)) := hX4
                have hq9 := HQ.out
                have hx9 := HX.out
                have hlt := MD.out.lt
                have hge := MD.out.ge
                have hok : 8388608 ≤ M1 ∨ E1 = -149 := by have := MD.out.ok; simpa using this
                have HLT : Hid (M4 < 16777216) := by show _ < _; omega
                have HGE : Hid (-149 ≤ E4) := by show _ ≤ _; omega
                have x4a : 0 ≤ X4 := by omega
                have x4b : X4 < 16777216 := by omega
                have hC : ¬ (M4 < 8388608 ∧ -149 < E4 ∧ 0 < M4) := by omega
                have key : sgn neg (finR M4 E4 aw) = roundK neg M E more up := by
                  rw [hM4, hE4]
                  have hne : ¬ M1 + 1 = 16777216 := by have := HX.out; have := HQ.out; omega
                  have hu := round_up MD.out rfl
                  rw [if_neg hne, if_neg hne] at hu
                  refine fin_sgn (aw := aw) ?_ haw
                  rw [HAW.out, if_pos rfl]; exact hu
                have KEY : Hid (sgn neg (finR M4 E4 aw) = roundK neg M E more up) := key
                have hub : E4 ≤ 1063 := by omega
                clear key hlt hok haw hX4 hM4 hE4
                clear hq9 hx9
                have c0 := N4.c0
                have c1 := N4.c1
                have c2 := N4.c2
                have c3 := N4.c3
                have g1 := N4.g1
                have g2 := N4.g2
                have r0 := N4.r0
                have r1 := N4.r1
                have r2 := N4.r2
                have r3 := N4.r3
                have f0 := N4.f0
                have f1 := N4.f1
                have f2 := N4.f2
                have f3 := N4.f3
                have hcase : (X4 = 0 ∧ ¬ -149 < E4) ∨ (X4 = 0 ∧ -149 < E4) ∨ (¬ X4 = 0 ∧ ¬ X4 < 8388608 ∧ 104 < E4) ∨ (¬ X4 = 0 ∧ ¬ X4 < 8388608 ∧ ¬ 104 < E4) ∨ (¬ X4 = 0 ∧ X4 < 8388608 ∧ ¬ -149 < E4) := by have := HX4.out; omega
                have HC : Hid (¬ (M4 < 8388608 ∧ -149 < E4 ∧ 0 < M4)) := hC
                clear hC
                rcases hcase with ⟨u1, u2⟩ | ⟨u1, u2⟩ | ⟨u1, u2, u3⟩ | ⟨u1, u2, u3⟩ | ⟨u1, u2, u3⟩
                · have VAL : Hid (numV (roundK neg M E more up) = (.agg #[.bool false, .int .i64 0, .int .i64 0, .bool false])) := by
                    show _ = _
                    have h0 : M4 = 0 := by have := HX4.out; omega
                    rw [← KEY.out, finR, if_pos h0]
                    have : sgn neg 0 = 0 := by cases neg <;> rfl
                    rw [this]; exact numV_zero
                  subst u1
                  go_wp2_with fail
                  refine bodyPost_ret (v := (.agg #[.bool false, .int .i64 0, .int .i64 0, .bool false])) (by simp [results, Try.results67, go_sem, r0, r1, r2, r3]) rfl ?_
                  exact ⟨by rw [VAL.out], N4.put _ _ _ _⟩
                · have VAL : Hid (numV (roundK neg M E more up) = (.agg #[.bool false, .int .i64 0, .int .i64 0, .bool false])) := by
                    show _ = _
                    have h0 : M4 = 0 := by have := HX4.out; omega
                    rw [← KEY.out, finR, if_pos h0]
                    have : sgn neg 0 = 0 := by cases neg <;> rfl
                    rw [this]; exact numV_zero
                  subst u1
                  go_wp2_with fail
                  refine bodyPost_ret (v := (.agg #[.bool false, .int .i64 0, .int .i64 0, .bool false])) (by simp [results, Try.results67, go_sem, r0, r1, r2, r3]) rfl ?_
                  exact ⟨by rw [VAL.out], N4.put _ _ _ _⟩
                · have VAL : Hid (numV (roundK neg M E more up) = (.agg #[.bool neg, .int .i64 0, .int .i64 0, .bool true])) := by
                    show _ = _
                    have h0 : ¬ M4 = 0 := by have := HX4.out; omega
                    rw [← KEY.out, finR, if_neg h0, if_pos u3, if_pos HAW.out]
                    exact numV_inf neg
                  have U1 : (X4 == 0) = false := by rw [beq_eq_false_iff_ne]; exact u1
                  clear u1
                  go_wp2_with fail
                  refine bodyPost_ret (v := (.agg #[.bool neg, .int .i64 0, .int .i64 0, .bool true])) (by simp [results, Try.results67, go_sem, r0, r1, r2, r3]) rfl ?_
                  exact ⟨by rw [VAL.out], N4.put _ _ _ _⟩
                · have VAL : Hid (numV (roundK neg M E more up) = (.agg #[.bool neg, .int .i64 X4, .int .i64 E4, .bool false])) := by
                    show _ = _
                    have h0 : ¬ M4 = 0 := by have := HX4.out; omega
                    have h104 : ¬ 104 < E4 := by omega
                    have hX := HX4.out
                    have hg4 := HGE.out
                    rw [← KEY.out, finR, if_neg h0, if_neg h104, numV_fin neg (by omega) (by omega) (by omega) HGE.out (by omega), hX]
                  have U1 : (X4 == 0) = false := by rw [beq_eq_false_iff_ne]; exact u1
                  have u4 : ¬ 104 < E4 := by omega
                  clear u1
                  go_wp2_with fail
                  refine bodyPost_ret (v := (.agg #[.bool neg, .int .i64 X4, .int .i64 E4, .bool false])) (by simp [results, Try.results67, go_sem, r0, r1, r2, r3]) rfl ?_
                  exact ⟨by rw [VAL.out], N4.put _ _ _ _⟩
                · have VAL : Hid (numV (roundK neg M E more up) = (.agg #[.bool neg, .int .i64 X4, .int .i64 E4, .bool false])) := by
                    show _ = _
                    have h0 : ¬ M4 = 0 := by have := HX4.out; omega
                    have h104 : ¬ 104 < E4 := by omega
                    have hX := HX4.out
                    have hg4 := HGE.out
                    rw [← KEY.out, finR, if_neg h0, if_neg h104, numV_fin neg (by omega) (by omega) (by omega) HGE.out (by omega), hX]
                  have U1 : (X4 == 0) = false := by rw [beq_eq_false_iff_ne]; exact u1
                  have u4 : ¬ 104 < E4 := by omega
                  clear u1
                  go_wp2_with fail
                  refine bodyPost_ret (v := (.agg #[.bool neg, .int .i64 X4, .int .i64 E4, .bool false])) (by simp [results, Try.results67, go_sem, r0, r1, r2, r3]) rfl ?_
                  exact ⟨by rw [VAL.out], N4.put _ _ _ _⟩
end Go.Proofs.Ytakpfdhopodleaa
