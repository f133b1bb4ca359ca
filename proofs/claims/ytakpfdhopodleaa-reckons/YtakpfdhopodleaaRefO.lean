import Derived.Test.YtakpfdhopodleaaRefM
import Derived.Test.YtakpfdhopodleaaRefJK
namespace Go.Proofs.Ytakpfdhopodleaa
open Go.ChangeShapes Go.WideShapes Go.ChangeAt Go.RowKit Hedge
set_option linter.unusedSimpArgs false
set_option linter.unusedVariables false
set_option linter.unnecessarySimpa false

theorem N4.set1 {W : World} {b o0 o1 o2 o3 : Nat} {x0 x1 x2 x3 : Value} (h : N4 W b o0 o1 o2 o3 x0 x1 x2 x3) (hd : o0 < o1 ∧ o1 < o2 ∧ o2 < o3) (v : Value) : N4 (W.setCell ⟨b, o1, none⟩ v) b o0 o1 o2 o3 x0 v x2 x3 := by
  obtain ⟨k0, k1, k2, k3, f0, f1, f2, f3, sz⟩ := h
  refine ⟨?_, set_same k1, ?_, ?_, by simpa using f0, by simpa using f1, by simpa using f2, by simpa using f3, by rw [size_set]; exact sz⟩
  · rw [set_other (by simp <;> omega)]; exact k0
  · rw [set_other (by simp <;> omega)]; exact k2
  · rw [set_other (by simp <;> omega)]; exact k3
theorem N4.set2 {W : World} {b o0 o1 o2 o3 : Nat} {x0 x1 x2 x3 : Value} (h : N4 W b o0 o1 o2 o3 x0 x1 x2 x3) (hd : o0 < o1 ∧ o1 < o2 ∧ o2 < o3) (v : Value) : N4 (W.setCell ⟨b, o2, none⟩ v) b o0 o1 o2 o3 x0 x1 v x3 := by
  obtain ⟨k0, k1, k2, k3, f0, f1, f2, f3, sz⟩ := h
  refine ⟨?_, ?_, set_same k2, ?_, by simpa using f0, by simpa using f1, by simpa using f2, by simpa using f3, by rw [size_set]; exact sz⟩
  · rw [set_other (by simp <;> omega)]; exact k0
  · rw [set_other (by simp <;> omega)]; exact k1
  · rw [set_other (by simp <;> omega)]; exact k3
theorem Rs.set {w W : World} {b : Nat} (h : Rs w W b) (b' o : Nat) (v : Value) (hne : b' ≠ b) (hlo : w.heap.size ≤ b') : Rs w (W.setCell ⟨b', o, none⟩ v) b := by
  obtain ⟨r0, r1, r2, r3, f0, f1, f2, f3, sz, lo, bl⟩ := h
  refine ⟨?_, ?_, ?_, ?_, by simpa using f0, by simpa using f1, by simpa using f2, by simpa using f3, by rw [size_set]; exact sz, lo, bl.setCell (p := ⟨b', o, none⟩) hlo _⟩
  · rw [set_other (by simp [hne])]; exact r0
  · rw [set_other (by simp [hne])]; exact r1
  · rw [set_other (by simp [hne])]; exact r2
  · rw [set_other (by simp [hne])]; exact r3
theorem Rs.sets {w W : World} {b : Nat} (h : Rs w W b) (b' : Nat) (y0 y1 y2 y3 : Value) (hne : b' ≠ b) (hlo : w.heap.size ≤ b') :
    Rs w ((((W.setCell ⟨b', 0, none⟩ y0).setCell ⟨b', 1, none⟩ y1).setCell ⟨b', 2, none⟩ y2).setCell ⟨b', 3, none⟩ y3) b :=
  (((h.set b' 0 y0 hne hlo).set b' 1 y1 hne hlo).set b' 2 y2 hne hlo).set b' 3 y3 hne hlo

theorem tmod2 (Y : Int) : Y.tmod 2 = 0 ↔ Y % 2 = 0 := by
  rcases Int.le_total 0 Y with h | h
  · rw [Int.tmod_eq_emod_of_nonneg h]
  · have e : Y = -(-Y) := by omega
    have e2 : Y.tmod 2 = -((-Y) % 2) := by
      have h3 : (-(-Y)).tmod 2 = -((-Y).tmod 2) := Int.neg_tmod _ _
      rw [← e] at h3
      rw [h3, Int.tmod_eq_emod_of_nonneg (by omega)]
    rw [e2]; omega
theorem tdiv2 {Y : Int} (h : Y % 2 = 0) : Y.tdiv 2 = Y / 2 := Int.tdiv_eq_ediv_of_dvd (Int.dvd_of_emod_eq_zero h)

/-- What is left to be tried of a root: the bit. -/
def bitOf (n : Nat) : Nat := if n = 0 then 0 else 2 ^ (n - 1)
theorem bitOf_half {n : Nat} : bitOf (n + 1) / 2 = bitOf n := by
  unfold bitOf
  rw [if_neg (by omega)]
  by_cases h : n = 0
  · subst h; rfl
  · rw [if_neg h]
    have : 2 ^ (n + 1 - 1) = 2 ^ (n - 1) * 2 := by rw [← Nat.pow_succ]; congr 1; omega
    rw [this]; omega
structure Rt (N r n : Nat) : Prop where
  lo : r * r ≤ N
  hi : N < (r + 2 ^ n) * (r + 2 ^ n)
  bd : (n = 32 ∧ r = 0) ∨ (n ≤ 31 ∧ r + 2 ^ n ≤ 2147483648)
theorem Rt.bit {N r n : Nat} (h : Rt N r (n + 1)) : 0 < bitOf (n + 1) ∧ r + bitOf (n + 1) ≤ 2147483648 ∧ bitOf (n + 1) ≤ 2147483648 := by
  have e : bitOf (n + 1) = 2 ^ n := by unfold bitOf; rw [if_neg (by omega)]; congr 1
  rw [e]
  have hp := Nat.two_pow_pos n
  have e2 : 2 ^ (n + 1) = 2 ^ n * 2 := Nat.pow_succ _ _
  rcases h.bd with ⟨h1, h2⟩ | ⟨h1, h2⟩
  · have : n = 31 := by omega
    subst this; subst h2
    refine ⟨hp, ?_, ?_⟩ <;> omega
  · omega
theorem Rt.yes {N r n : Nat} (h : Rt N r (n + 1)) (hN : N < 4611686018427387904) (hc : (r + bitOf (n + 1)) * (r + bitOf (n + 1)) ≤ N) : Rt N (r + bitOf (n + 1)) n := by
  have e : bitOf (n + 1) = 2 ^ n := by unfold bitOf; rw [if_neg (by omega)]; congr 1
  rw [e] at hc ⊢
  have e2 : 2 ^ (n + 1) = 2 ^ n * 2 := Nat.pow_succ _ _
  have hh := h.hi
  refine ⟨hc, by rw [show r + 2 ^ n + 2 ^ n = r + 2 ^ (n + 1) by omega]; exact hh, ?_⟩
  rcases h.bd with ⟨h1, h2⟩ | ⟨h1, h2⟩
  · have : n = 31 := by omega
    subst this; subst h2
    exfalso
    have : (0 + 2 ^ 31) * (0 + 2 ^ 31) = 4611686018427387904 := by decide
    omega
  · right; omega
theorem Rt.no {N r n : Nat} (h : Rt N r (n + 1)) (hc : ¬ (r + bitOf (n + 1)) * (r + bitOf (n + 1)) ≤ N) : Rt N r n := by
  have e : bitOf (n + 1) = 2 ^ n := by unfold bitOf; rw [if_neg (by omega)]; congr 1
  rw [e] at hc
  have e2 : 2 ^ (n + 1) = 2 ^ n * 2 := Nat.pow_succ _ _
  refine ⟨h.lo, by omega, ?_⟩
  rcases h.bd with ⟨h1, h2⟩ | ⟨h1, h2⟩
  · have : n = 31 := by omega
    subst this; subst h2
    right; exact ⟨by omega, by decide⟩
  · right; omega

set_option maxHeartbeats 4000000 in
set_option maxRecDepth 100000 in
theorem sqrt_fin (up : Bool) (M : Nat) (E : Int) (a0 : 0 < M) (a1 : M < 16777216) (a2 : 8388608 ≤ M ∨ E = -149) (a3 : -149 ≤ E) (a4 : E ≤ 104) (w : World) :
    Calls Try.prog 58 #[.agg #[.bool false, .int .i64 M, .int .i64 E, .bool false], .bool up] w fun e w' =>
      e = .returned (numV (if up then sqU (sgn false (rungOf M E)) else sqD (sgn false (rungOf M E)))) ∧ Below w.heap.size w w' := by
  obtain ⟨kr, hkr⟩ : ∃ kr, kr = (if up then sqU (sgn false (rungOf M E)) else sqD (sgn false (rungOf M E))) := ⟨_, rfl⟩
  rw [← hkr]
  have HKR : Hid (kr = _) := hkr
  clear hkr
  have DR := fun (c c2 r : Nat) (h : Int) => @sqrt_round M c c2 r E h up a0 a1 a2 a3 a4
  have HDR : Hid _ := DR
  clear DR
  have u1 : ((M : Int) == 0) = false := by rw [beq_eq_false_iff_ne]; omega
  have A0 : Hid (0 < M ∧ M < 16777216) := ⟨a0, a1⟩
  have R0 := Rs.init (below_alloc1 w (.cells #[.bool false, .int .i64 M, .int .i64 E, .bool false] 53)) 53
  simp only [World.size_alloc] at R0
  clear a0 a1 a2
  go_enter Try.func58, Try.ntmps58
  go_wp2_with fail
  refine (full_calls false M E _ A0.out.1 A0.out.2 (by omega) (by omega)).mono ?_
  rintro e w1 ⟨A, EA, rfl, A1, A2, ⟨c, hA, hEA, hc⟩, hw1⟩
  have R1 := R0.step hw1
  clear R0 hw1
  have hz : w1.heap.size ≠ w.heap.size + 1 := by have := R1.sz; omega
  have hz' : w.heap.size ≤ w1.heap.size := by have := R1.sz; omega
  have HA : Hid (8388608 ≤ A ∧ A < 16777216 ∧ A = M * 2 ^ c ∧ EA = E - c ∧ c ≤ 23) := ⟨A1, A2, hA, hEA, hc⟩
  have ea1 : -200 ≤ EA := by omega
  have ea2 : EA ≤ 104 := by omega
  have R2 := R1.step (below_alloc1 w1 (.cells #[.bool false, .int .i64 A, .int .i64 EA, .bool false] 53))
  have N2 := N4.init w1 (.bool false) (.int .i64 A) (.int .i64 EA) (.bool false) 53
  clear A1 A2 hA hEA hc R1
  go_wp2_with fail
  generalize w1.alloc (.cells #[.bool false, .int .i64 A, .int .i64 EA, .bool false] 53) = W2 at *
  go_loopw [6] (fun t w' => ∃ (k : Nat), t = .int .i64 k ∧ k ≤ 37 ∧ N4 w' w1.heap.size 0 1 2 3 (.bool false) (.int .i64 ((A * 2 ^ k : Nat) : Int)) (.int .i64 (EA - k)) (.bool false) ∧ Rs w w' (w.heap.size + 1) ∧ (k = 37 → (EA - 37) % 2 = 0)) (fun t _ => 40 - (intOf t).toNat)
  case atStart => exact ⟨0, rfl, by omega, by simpa using N2, R2, by omega⟩
  case round =>
    obtain ⟨k, rfl, hk, N, R, hk7⟩ := hrel
    clear N2 R2
    obtain ⟨K, hK⟩ : ∃ K : Int, K = (k : Int) := ⟨_, rfl⟩
    obtain ⟨X, hX⟩ : ∃ X : Int, X = ((A * 2 ^ k : Nat) : Int) := ⟨_, rfl⟩
    obtain ⟨Y, hY⟩ : ∃ Y : Int, Y = EA - k := ⟨_, rfl⟩
    rw [← hX, ← hY] at N
    rw [← hK]
    have hX2 : ((A * 2 ^ (k + 1) : Nat) : Int) = X * 2 := by rw [hX, Nat.pow_succ, ← Nat.mul_assoc]; push_cast; rfl
    have HK : Hid (K = (k : Int)) := hK
    have HX : Hid (X = ((A * 2 ^ k : Nat) : Int)) := hX
    have HX2 : Hid (((A * 2 ^ (k + 1) : Nat) : Int) = X * 2) := hX2
    have HY : Hid (Y = EA - k) := hY
    have y1 : -300 ≤ Y := by omega
    have y2 : Y ≤ 200 := by omega
    have K0 : 0 ≤ K := by omega
    have K1 : K ≤ 37 := by omega
    have hpk : 2 ^ k ≤ 2 ^ 37 := Nat.pow_le_pow_right (by omega) hk
    have h37 : (2 : Nat) ^ 37 = 137438953472 := by decide
    have hXb : A * 2 ^ k < 16777216 * 137438953472 := by
      have h1 := HA.out.2.1
      have h2 := Nat.two_pow_pos k
      have h3 := Nat.mul_le_mul_left A hpk
      have h4 := Nat.mul_lt_mul_of_pos_right h1 (show 0 < 137438953472 by omega)
      rw [h37] at h3
      omega
    have x0 : 0 ≤ X := by omega
    have x1 : X < 2305843009213693952 := by omega
    have HXB : Hid (A * 2 ^ k < 2305843009213693952) := by show _ < _; omega
    clear hX hX2 hXb h37 hpk hY
    have HKB : Hid (k ≤ 37 ∧ (k = 37 → (EA - 37) % 2 = 0)) := ⟨hk, hk7⟩
    clear hk hk7
    have k0 := N.k0
    have k1 := N.k1
    have k2 := N.k2
    have k3 := N.k3
    have g1 := N.f1
    have g2 := N.f2
    by_cases hgo : K < 36 ∨ Y % 2 ≠ 0
    · have hk36 : k ≤ 36 := by
        have h1 := HKB.out
        have h2 := HY.out
        apply Nat.le_of_not_lt
        intro h3
        have h4 : k = 37 := by omega
        have := h1.2 h4
        omega
      have HK36 : Hid (k ≤ 36 ∧ (k = 36 → (EA - 37) % 2 = 0)) := ⟨hk36, by intro h; have := HY.out; omega⟩
      clear hK hk36
      by_cases h36 : K < 36
      · clear hgo
        go_wp2_with fail
        go_roundw
        case rel =>
          refine ⟨k + 1, ?_, by have := HK36.out; omega, ?_, ?_, by have := HK36.out; omega⟩
          · rw [HK.out]; simp
          · rw [HX2.out]
            have e2 : EA - ((k + 1 : Nat) : Int) = Y - 1 := by have := HY.out; omega
            rw [e2]
            exact (N.set1 (by omega) _).set2 (by omega) _
          · exact (R.set _ _ _ hz hz').set _ _ _ hz hz'
        case measure =>
          simp [intOf]; omega
      · have hY2 : Y % 2 = 1 := by omega
        have hmod : ¬ Y.tmod 2 = 0 := by rw [tmod2]; omega
        clear hgo
        go_wp2_with fail
        go_roundw
        case rel =>
          refine ⟨k + 1, ?_, by have := HK36.out; omega, ?_, ?_, by have := HK36.out; have := HK.out; omega⟩
          · rw [HK.out]; simp
          · rw [HX2.out]
            have e2 : EA - ((k + 1 : Nat) : Int) = Y - 1 := by have := HY.out; omega
            rw [e2]
            exact (N.set1 (by omega) _).set2 (by omega) _
          · exact (R.set _ _ _ hz hz').set _ _ _ hz hz'
        case measure =>
          simp [intOf]; omega
    · have h36 : ¬ K < 36 := by omega
      have hY2 : Y % 2 = 0 := by omega
      have hmod : Y.tmod 2 = 0 := by rw [tmod2]; omega
      clear hgo hK
      go_wp2_with fail
      have HL2 : Hid (A * 2 ^ k < 2305843009213693952 ∧ 576460752303423488 ≤ A * 2 ^ k ∧ X = ((A * 2 ^ k : Nat) : Int) ∧ 36 ≤ k) := by
        have h1 := HK.out
        have hk36 : 36 ≤ k := by omega
        refine ⟨HXB.out, ?_, HX.out, hk36⟩
        have h2 := Nat.pow_le_pow_right (n := 2) (by omega) hk36
        have h3 := Nat.mul_le_mul HA.out.1 h2
        have h4 : 8388608 * 2 ^ 36 = 576460752303423488 := by decide
        omega
      obtain ⟨NN, hNN⟩ : ∃ NN, NN = A * 2 ^ k := ⟨_, rfl⟩
      rw [← hNN] at HL2
      have HNN : Hid (NN = A * 2 ^ k) := hNN
      clear hNN k0 k1 k2 k3 g1 g2 hmod h36 HX HX2 HXB
      go_loopw [7, 8] (fun t b w' => ∃ (r n : Nat), t = .int .i64 r ∧ b = .int .i64 (bitOf n : Nat) ∧ n ≤ 32 ∧ Rt NN r n ∧ w' = wr) (fun _ b _ => (intOf b).toNat)
      case atStart =>
        refine ⟨0, 32, rfl, rfl, by omega, ⟨by omega, ?_, by omega⟩, rfl⟩
        have h1 := HL2.out.1
        have h2 : (0 + 2 ^ 32) * (0 + 2 ^ 32) = 18446744073709551616 := by decide
        omega
      case round =>
        obtain ⟨r, n, rfl, rfl, hn, T, rfl⟩ := hrel
        obtain ⟨RR, hR⟩ : ∃ RR : Int, RR = (r : Int) := ⟨_, rfl⟩
        rw [← hR]
        have HR : Hid (RR = (r : Int)) := hR
        have k0 := N.k0
        have k1 := N.k1
        have k2 := N.k2
        have k3 := N.k3
        cases n with
        | zero =>
          have HT : Hid (Rt NN r 0) := T
          have hr1 : 8388608 ≤ r ∧ r < 2147483648 := by
            have h1 := T.hi
            have h2 := HL2.out
            have h4 := T.bd
            have h3 : (2 : Nat) ^ 0 = 1 := rfl
            rw [h3] at h1 h4
            refine ⟨?_, by omega⟩
            apply Nat.le_of_not_lt
            intro h5
            have h6 : (r + 1) * (r + 1) ≤ 8388608 * 8388608 := Nat.mul_le_mul (by omega) (by omega)
            omega
          have hrr : r * r ≤ 2147483648 * 2147483648 := Nat.mul_le_mul (by omega) (by omega)
          have p0 : 0 ≤ RR * RR := by rw [hR]; exact Int.mul_nonneg (by omega) (by omega)
          have p1 : RR * RR ≤ 4611686018427387904 := by
            rw [hR]
            have : (r : Int) * (r : Int) = ((r * r : Nat) : Int) := by rw [Int.natCast_mul]
            omega
          have r0 : 0 ≤ RR := by omega
          have r1 : RR < 2147483648 := by omega
          have HRB : Hid (8388608 ≤ r ∧ r < 2147483648) := hr1
          have HM : Hid ((RR * RR != X) = decide (r * r ≠ A * 2 ^ k)) := by
            show _ = _
            rw [Bool.eq_iff_iff]
            have h1 := HL2.out.2.2.1
            have h2 := HNN.out
            have h3 : RR * RR = ((r * r : Nat) : Int) := by rw [hR, Int.natCast_mul]
            simp only [bne_iff_ne, decide_eq_true_eq, ne_eq]
            rw [h3, h1, ← h2]; omega
          have HY2 : Hid (Y.tdiv 2 = Y / 2) := tdiv2 hY2
          clear hR hr1 hrr T hn
          have eb : ((bitOf 0 : Nat) : Int) = 0 := rfl
          rw [eb]
          go_wp2_with fail
          rw [HM.out, HY2.out]
          have HYY : Hid (-1000 ≤ Y / 2 ∧ Y / 2 ≤ 1000 ∧ 2 * (Y / 2) = E - c - k) := by
            have h1 := HY.out
            have h2 := HA.out
            refine ⟨by omega, by omega, by omega⟩
          have HV : Hid (roundK false r (Y / 2) (decide (r * r ≠ A * 2 ^ k)) up = kr) := by
            show _ = _
            rw [HKR.out]
            have h1 := HA.out
            have h2 := HT.out
            have h3 := HNN.out
            have h4 := HDR.out c k r (Y / 2) h1.2.2.2.2 HKB.out.1 HRB.out.1
            rw [← h1.2.2.1, ← h3] at h4
            rw [← h3]
            exact h4 h2.lo (by simpa using h2.hi) HYY.out.2.2
          obtain ⟨kk, hkk⟩ : ∃ kk, kk = roundK false r (Y / 2) (decide (r * r ≠ A * 2 ^ k)) up := ⟨_, rfl⟩
          rw [← hkk] at HV
          have HK2 : Hid (roundK false r (Y / 2) (decide (r * r ≠ A * 2 ^ k)) up = kk) := hkk.symm
          clear hkk
          rw [HR.out]
          refine (round_calls false (decide (r * r ≠ A * 2 ^ k)) up r (Y / 2) _ (by have := HRB.out; omega) HYY.out.1 HYY.out.2.1 (fun _ => HRB.out.1)).mono ?_
          rintro e w5 ⟨rfl, hw5⟩
          rw [HK2.out]
          have R5 := R.step hw5
          clear hw5 R N k0 k1 k2 k3
          obtain ⟨r0', r1', r2', r3', f0, f1, f2, f3, sz, lo, bl⟩ := R5
          unfold numV
          go_wp2_with fail
          refine bodyPost_ret (v := numV kk) (by simp [numV, results, Try.results58, go_sem, r0', r1', r2', r3']) rfl ⟨by rw [HV.out], ?_⟩
          exact Rs.put ⟨r0', r1', r2', r3', f0, f1, f2, f3, sz, lo, bl⟩ _ _ _ _
        | succ m =>
          obtain ⟨b1, b2, b3⟩ := T.bit
          obtain ⟨BB, hB⟩ : ∃ BB : Int, BB = ((bitOf (m + 1) : Nat) : Int) := ⟨_, rfl⟩
          rw [← hB]
          have HB : Hid (BB = ((bitOf (m + 1) : Nat) : Int)) := hB
          have HT : Hid (Rt NN r (m + 1)) := T
          have HN : Hid (m + 1 ≤ 32) := hn
          have r0 : 0 ≤ RR := by omega
          have c1 : 0 < BB := by omega
          have c2 : RR + BB ≤ 2147483648 := by omega
          have c3 : BB ≤ 2147483648 := by omega
          have hsum : RR + BB = ((r + bitOf (m + 1) : Nat) : Int) := by rw [hR, hB]; push_cast; rfl
          have HS : Hid (RR + BB = ((r + bitOf (m + 1) : Nat) : Int)) := hsum
          have hsq : (r + bitOf (m + 1)) * (r + bitOf (m + 1)) ≤ 2147483648 * 2147483648 := Nat.mul_le_mul b2 b2
          have p0 : 0 ≤ (RR + BB) * (RR + BB) := by rw [hsum]; exact Int.mul_nonneg (by omega) (by omega)
          have hsq2 : (RR + BB) * (RR + BB) = (((r + bitOf (m + 1)) * (r + bitOf (m + 1)) : Nat) : Int) := by rw [hsum, Int.natCast_mul]
          have p1 : (RR + BB) * (RR + BB) ≤ 4611686018427387904 := by rw [hsq2]; omega
          have HSQ : Hid ((RR + BB) * (RR + BB) = (((r + bitOf (m + 1)) * (r + bitOf (m + 1)) : Nat) : Int)) := hsq2
          have HH : Hid (BB / 2 = ((bitOf m : Nat) : Int)) := by
            show _ = _
            rw [hB, ← bitOf_half (n := m)]; omega
          clear hR hB hsum hsq hsq2 T hn b1 b2 b3
          by_cases hc : (RR + BB) * (RR + BB) ≤ X
          · have HT2 : Hid (Rt NN (r + bitOf (m + 1)) m) := by
              refine HT.out.yes ?_ ?_
              · have := HL2.out; omega
              · have h1 := HL2.out
                have h2 := HSQ.out
                rw [h2, h1.2.2.1] at hc
                exact_mod_cast hc
            go_wp2_with fail
            go_roundw
            case rel =>
              refine ⟨r + bitOf (m + 1), m, ?_, ?_, by have := HN.out; omega, HT2.out, trivial⟩
              · rw [HS.out]
              · rw [HH.out]
            case measure =>
              simp [intOf]; omega
          · have HT2 : Hid (Rt NN r m) := by
              refine HT.out.no ?_
              intro h3
              have h1 := HL2.out
              have h2 := HSQ.out
              apply hc
              rw [h2, h1.2.2.1]
              exact_mod_cast h3
            go_wp2_with fail
            go_roundw
            case rel =>
              refine ⟨r, m, ?_, ?_, by have := HN.out; omega, HT2.out, trivial⟩
              · rw [HR.out]
              · rw [HH.out]
            case measure =>
              simp [intOf]; omega

theorem sq_zero (up : Bool) : (if up then sqU 0 else sqD 0) = 0 := by
  have hI := I_pos
  have hS : dnS 0 = 0 := by
    have h1 := dnS_nn (Int.le_refl 0)
    obtain ⟨p, q, c⟩ := dnS_spec 0
    by_cases h2 : dnS 0 = 0
    · exact h2
    · exfalso
      rcases (c (dnS 0) (by omega) q).2 (Int.le_refl _) with h | h
      · omega
      · rw [v32_zero, Int.zero_mul] at h
        have h3 : 0 < v32 (dnS 0) := v32_pos.2 (by omega)
        have := Int.mul_pos h3 h3
        omega
  have e1 : sqD 0 = 0 := by unfold sqD; rw [if_neg (by omega), hS]
  have e2 : sqU 0 = 0 := by unfold sqU; rw [if_neg (by omega), hS, if_pos (by rw [v32_zero]; simp)]
  cases up <;> simp [e1, e2]

theorem sqrt_calls {k : Int} (k1 : 0 ≤ k) (k2 : k ≤ I) (up : Bool) (w : World) :
    Calls Try.prog 58 #[numV k, .bool up] w fun e w' => e = .returned (numV (if up then sqU k else sqD k)) ∧ Below w.heap.size w w' := by
  have hI := I_pos
  rcases num_cases (show -I ≤ k by omega) k2 with rfl | ⟨neg, rfl⟩ | ⟨neg, M, E, rfl, m0, m1, m2, e1, e2⟩
  · rw [sq_zero up, numV_zero]
    clear k1 k2
    go_enter Try.func58, Try.ntmps58
    go_wp2_with fail
    refine bodyPost_ret (v := .agg #[.bool false, .int .i64 0, .int .i64 0, .bool false]) (by simp [results, Try.results58, go_sem]) rfl ⟨rfl, ?_⟩
    exact below2 w _ _
  · have hn : neg = false := by
      cases neg
      · rfl
      · exfalso; simp [sgn, I32] at k1
    subst hn
    have e : (if up then sqU (sgn false I32) else sqD (sgn false I32)) = sgn false I32 := by
      have : sgn false I32 = I := rfl
      rw [this]; cases up
      · simp [sqD]
      · simp [sqU]
    rw [e, numV_inf]
    clear k1 k2
    go_enter Try.func58, Try.ntmps58
    go_wp2_with fail
    refine bodyPost_ret (v := .agg #[.bool false, .int .i64 0, .int .i64 0, .bool true]) (by simp [results, Try.results58, go_sem]) rfl ⟨rfl, ?_⟩
    exact below2 w _ _
  · have hr : 0 < rungOf M E := by unfold rungOf; omega
    have hn : neg = false := by
      cases neg
      · rfl
      · exfalso; simp [sgn] at k1; omega
    subst hn
    rw [numV_fin false m0 m1 m2 e1 e2]
    exact sqrt_fin up M E m0 m1 m2 e1 e2 w
end Go.Proofs.Ytakpfdhopodleaa
