import Derived.Test.YtakpfdhopodleaaRefCN
import Derived.Test.YtakpfdhopodleaaKeepAB
namespace Go.Proofs.Ytakpfdhopodleaa
open Go.ChangeShapes Go.WideShapes Go.ChangeAt Go.RowKit Hedge
set_option linter.unusedSimpArgs false
set_option linter.unusedVariables false
set_option linter.unnecessarySimpa false

/-- An index is 0, infinite, or a mantissa and an exponent. -/
theorem num_cases {k : Int} (h1 : -I ≤ k) (h2 : k ≤ I) : k = 0 ∨ (∃ neg, k = sgn neg I32) ∨
    (∃ (neg : Bool) (M : Nat) (E : Int), k = sgn neg (rungOf M E) ∧ 0 < M ∧ M < 16777216 ∧ (8388608 ≤ M ∨ E = -149) ∧ -149 ≤ E ∧ E ≤ 104) := by
  by_cases h0 : k = 0
  · exact Or.inl h0
  right
  by_cases hI : k = I ∨ k = -I
  · left
    rcases hI with h | h
    · exact ⟨false, h⟩
    · exact ⟨true, h⟩
  · right
    obtain ⟨a, b, c⟩ := split_rung Ieee.single.binade k.natAbs hB32
    rw [bi32] at a b c
    have hr : k.natAbs < 2139095040 := by unfold I at *; omega
    refine ⟨decide (k < 0), sig 8388608 k.natAbs, (ex 8388608 k.natAbs : Int) - 149, ?_, by omega, by omega, by omega, by omega, by omega⟩
    have e : rungOf (sig 8388608 k.natAbs) ((ex 8388608 k.natAbs : Int) - 149) = k.natAbs := by
      unfold rungOf
      have : ((ex 8388608 k.natAbs : Int) - 149 + 149).toNat = ex 8388608 k.natAbs := by omega
      rw [this]; omega
    rw [e]
    unfold sgn
    by_cases hk : k < 0 <;> simp [hk] <;> omega

theorem sign_calls {k : Int} (h1 : -I ≤ k) (h2 : k ≤ I) (w : World) :
    Calls Try.prog 57 #[numV k] w fun e w' => e = .returned (.int .i64 (if k < 0 then -1 else if k = 0 then 0 else 1)) ∧ Below w.heap.size w w' := by
  have hI := I_pos
  rcases num_cases h1 h2 with rfl | ⟨neg, rfl⟩ | ⟨neg, M, E, rfl, m0, m1, m2, e1, e2⟩
  · rw [numV_zero]
    simp only [Int.lt_irrefl, if_false, if_true]
    go_enter Try.func57, Try.ntmps57
    go_wp2_with fail
    go_ret
    exact ⟨rfl, below_alloc1 _ _⟩
  · rw [numV_inf]
    cases neg
    · have e : (if sgn false I32 < 0 then (-1 : Int) else if sgn false I32 = 0 then 0 else 1) = 1 := by decide
      rw [e]
      go_enter Try.func57, Try.ntmps57
      go_wp2_with fail
      go_ret
      exact ⟨rfl, below_alloc1 _ _⟩
    · have e : (if sgn true I32 < 0 then (-1 : Int) else if sgn true I32 = 0 then 0 else 1) = -1 := by decide
      rw [e]
      go_enter Try.func57, Try.ntmps57
      go_wp2_with fail
      go_ret
      exact ⟨rfl, below_alloc1 _ _⟩
  · rw [numV_fin neg m0 m1 m2 e1 e2]
    have hr : 0 < rungOf M E := by unfold rungOf; omega
    have u : ((M : Int) == 0) = false := by rw [beq_eq_false_iff_ne]; omega
    cases neg
    · have e : (if sgn false (rungOf M E) < 0 then (-1 : Int) else if sgn false (rungOf M E) = 0 then 0 else 1) = 1 := by
        unfold sgn; simp; omega
      rw [e]
      clear m0 m1 m2 e1 e2 hr e h1 h2
      go_enter Try.func57, Try.ntmps57
      go_wp2_with fail
      go_ret
      exact ⟨rfl, below_alloc1 _ _⟩
    · have e : (if sgn true (rungOf M E) < 0 then (-1 : Int) else if sgn true (rungOf M E) = 0 then 0 else 1) = -1 := by
        unfold sgn; simp; omega
      rw [e]
      clear m0 m1 m2 e1 e2 hr e h1 h2
      go_enter Try.func57, Try.ntmps57
      go_wp2_with fail
      go_ret
      exact ⟨rfl, below_alloc1 _ _⟩

theorem and23 (b : Nat) (h : b < 4294967296) : bits .and .u32 (b : Int) 8388607 = ((b % 8388608 : Nat) : Int) := by
  have e := u32_and_nat b 8388607 h (by omega)
  have e2 : b &&& 8388607 = b % 8388608 := Nat.and_two_pow_sub_one_eq_mod b 23
  rw [e2] at e; exact e

def sgb (b : Nat) : Bool := ((b : Int) / 2147483648 != 0)
theorem i32_sgb (b : Nat) (h : b < 4294967296) : i32 b = sgn (sgb b) (b % 2147483648) := by
  rw [i32_eq b h]
  unfold sgb sgn
  by_cases hs : b < 2147483648
  · have e : ((b : Int) / 2147483648 != 0) = false := by rw [bne_eq_false_iff_eq]; omega
    rw [if_pos hs, e]; simp; omega
  · have e : ((b : Int) / 2147483648 != 0) = true := by rw [bne_iff_ne]; omega
    rw [if_neg hs, e]; simp; omega

set_option maxRecDepth 100000 in
theorem bits_nan (b : Nat) (h : b < 4294967296) (hn : ¬ Num32 b) (w : World) :
    Calls Try.prog 48 #[.int .u32 b] w fun e w' => e = .returned (.tuple #[numV 0, .bool false]) ∧ Below w.heap.size w w' := by
  have hb : b / 8388608 % 256 = 255 ∧ b % 8388608 ≠ 0 := by unfold Num32 at hn; omega
  have t1 : (b : Int) / 8388608 % 256 = 255 := by omega
  have t2 : ((b : Int) % 8388608 != 0) = true := by rw [bne_iff_ne]; omega
  rw [numV_zero]
  have ea := and255 b h
  have eb := and23 b h
  clear hb hn
  go_enter Try.func48, Try.ntmps48
  go_wp2_with fail
  refine bodyPost_ret (v := .tuple #[.agg #[.bool false, .int .i64 0, .int .i64 0, .bool false], .bool false]) (by simp [results, Try.results48, go_sem]) rfl ⟨rfl, ?_⟩
  exact below2 w _ _

set_option maxRecDepth 100000 in
theorem bits_inf (b : Nat) (h : b < 4294967296) (h1 : b / 8388608 % 256 = 255) (h2 : b % 8388608 = 0) (w : World) :
    Calls Try.prog 48 #[.int .u32 b] w fun e w' => e = .returned (.tuple #[numV (i32 b), .bool true]) ∧ Below w.heap.size w w' := by
  have hv : numV (i32 b) = .agg #[.bool (sgb b), .int .i64 0, .int .i64 0, .bool true] := by
    rw [i32_sgb b h, ← numV_inf]; congr 2; unfold I32; omega
  rw [hv]
  have t1 : (b : Int) / 8388608 % 256 = 255 := by omega
  have t2 : ((b : Int) % 8388608 != 0) = false := by rw [bne_eq_false_iff_eq]; omega
  have ea := and255 b h
  have eb := and23 b h
  have HS : Hid (sgb b = ((b : Int) / 2147483648 != 0)) := rfl
  clear h1 h2 hv
  go_enter Try.func48, Try.ntmps48
  go_wp2_with fail
  refine bodyPost_ret (v := .tuple #[.agg #[.bool ((b : Int) / 2147483648 != 0), .int .i64 0, .int .i64 0, .bool true], .bool true]) (by simp [results, Try.results48, go_sem]) rfl ⟨rfl, ?_⟩
  exact below2 w _ _

set_option maxRecDepth 100000 in
theorem bits_zero (b : Nat) (h : b < 4294967296) (h1 : b / 8388608 % 256 = 0) (h2 : b % 8388608 = 0) (w : World) :
    Calls Try.prog 48 #[.int .u32 b] w fun e w' => e = .returned (.tuple #[numV (i32 b), .bool true]) ∧ Below w.heap.size w w' := by
  have hv : i32 b = 0 := by
    rw [i32_sgb b h, show b % 2147483648 = 0 by omega]; cases sgb b <;> rfl
  rw [hv, numV_zero]
  have t1 : (b : Int) / 8388608 % 256 = 0 := by omega
  have t2 : ((b : Int) % 8388608 == 0) = true := by rw [beq_iff_eq]; omega
  have ea := and255 b h
  have eb := and23 b h
  clear h1 h2 hv
  go_enter Try.func48, Try.ntmps48
  go_wp2_with fail
  refine bodyPost_ret (v := .tuple #[.agg #[.bool false, .int .i64 0, .int .i64 0, .bool false], .bool true]) (by simp [results, Try.results48, go_sem]) rfl ⟨rfl, ?_⟩
  exact below2 w _ _

set_option maxRecDepth 100000 in
theorem bits_sub (b : Nat) (h : b < 4294967296) (h1 : b / 8388608 % 256 = 0) (h2 : b % 8388608 ≠ 0) (w : World) :
    Calls Try.prog 48 #[.int .u32 b] w fun e w' => e = .returned (.tuple #[numV (i32 b), .bool true]) ∧ Below w.heap.size w w' := by
  have hv : numV (i32 b) = .agg #[.bool (sgb b), .int .i64 ((b : Int) % 8388608), .int .i64 (-149), .bool false] := by
    have e : (b : Int) % 8388608 = ((b % 8388608 : Nat) : Int) := by omega
    rw [i32_sgb b h, e, ← numV_fin (sgb b) (M := b % 8388608) (E := -149) (by omega) (by omega) (Or.inr rfl) (by omega) (by omega)]
    have : b % 2147483648 = rungOf (b % 8388608) (-149) := by unfold rungOf; simp; omega
    rw [this]
  rw [hv]
  have t1 : (b : Int) / 8388608 % 256 = 0 := by omega
  have t2 : ((b : Int) % 8388608 == 0) = false := by rw [beq_eq_false_iff_ne]; omega
  have ea := and255 b h
  have eb := and23 b h
  clear h1 h2 hv
  go_enter Try.func48, Try.ntmps48
  go_wp2_with fail
  refine bodyPost_ret (v := .tuple #[.agg #[.bool ((b : Int) / 2147483648 != 0), .int .i64 ((b : Int) % 8388608), .int .i64 (-149), .bool false], .bool true]) (by simp [results, Try.results48, go_sem]) rfl ⟨rfl, ?_⟩
  exact below2 w _ _

set_option maxRecDepth 100000 in
theorem bits_norm (b : Nat) (h : b < 4294967296) (h1 : b / 8388608 % 256 ≠ 0) (h2 : b / 8388608 % 256 ≠ 255) (w : World) :
    Calls Try.prog 48 #[.int .u32 b] w fun e w' => e = .returned (.tuple #[numV (i32 b), .bool true]) ∧ Below w.heap.size w w' := by
  have hv : numV (i32 b) = .agg #[.bool (sgb b), .int .i64 ((b : Int) % 8388608 + 8388608), .int .i64 ((b : Int) / 8388608 % 256 - 150), .bool false] := by
    have e : (b : Int) % 8388608 + 8388608 = ((b % 8388608 + 8388608 : Nat) : Int) := by omega
    rw [i32_sgb b h, e, ← numV_fin (sgb b) (M := b % 8388608 + 8388608) (E := (b : Int) / 8388608 % 256 - 150) (by omega) (by omega) (Or.inl (by omega)) (by omega) (by omega)]
    have : b % 2147483648 = rungOf (b % 8388608 + 8388608) ((b : Int) / 8388608 % 256 - 150) := by unfold rungOf; omega
    rw [this]
  rw [hv]
  have t1 : ((b : Int) / 8388608 % 256 == 255) = false := by rw [beq_eq_false_iff_ne]; omega
  have t2 : ((b : Int) / 8388608 % 256 == 0) = false := by rw [beq_eq_false_iff_ne]; omega
  have ea := and255 b h
  have eb := and23 b h
  clear h1 h2 hv
  go_enter Try.func48, Try.ntmps48
  go_wp2_with fail
  refine bodyPost_ret (v := .tuple #[.agg #[.bool ((b : Int) / 2147483648 != 0), .int .i64 ((b : Int) % 8388608 + 8388608), .int .i64 ((b : Int) / 8388608 % 256 - 150), .bool false], .bool true]) (by simp [results, Try.results48, go_sem]) rfl ⟨rfl, ?_⟩
  exact below2 w _ _

theorem bits_ok (b : Nat) (hn : Num32 b) (w : World) :
    Calls Try.prog 48 #[.int .u32 b] w fun e w' => e = .returned (.tuple #[numV (i32 b), .bool true]) ∧ Below w.heap.size w w' := by
  obtain ⟨h, h2⟩ := hn
  by_cases c1 : b / 8388608 % 256 = 255
  · exact bits_inf b h c1 (by omega) w
  · by_cases c2 : b / 8388608 % 256 = 0
    · by_cases c3 : b % 8388608 = 0
      · exact bits_zero b h c2 c3 w
      · exact bits_sub b h c2 c3 w
    · exact bits_norm b h c2 c1 w
end Go.Proofs.Ytakpfdhopodleaa
namespace Go.Proofs.Ytakpfdhopodleaa
open Go.ChangeShapes Go.WideShapes Go.ChangeAt Go.RowKit Hedge
set_option linter.unusedSimpArgs false
set_option linter.unusedVariables false
set_option linter.unnecessarySimpa false

theorem ret_int {k : IntKind} {a b : Int} (h : a = b) : Ending.returned (.int k a) = .returned (.int k b) := by rw [h]
theorem w32_sgn (neg : Bool) (r : Nat) (h : 0 < r) : w32 (sgn neg r) = (if neg then 2147483648 else 0) + r := by
  unfold w32 sgn
  cases neg
  · simp
  · simp; omega

theorem neg_numV {k : Int} (h1 : -I ≤ k) (h2 : k ≤ I) (w : World) :
    Calls Try.prog 68 #[numV k] w fun e w' => e = .returned (numV (-k)) ∧ Below w.heap.size w w' := by
  have hI := I_pos
  have en : ∀ (b : Bool) (n : Nat), -(sgn b n) = sgn (!b) n := by intro b n; cases b <;> simp [sgn]
  rcases num_cases h1 h2 with rfl | ⟨neg, rfl⟩ | ⟨neg, M, E, rfl, m0, m1, m2, e1, e2⟩
  · rw [show -(0 : Int) = 0 by omega, numV_zero]
    go_enter Try.func68, Try.ntmps68
    go_wp2_with fail
    refine bodyPost_ret (v := .agg #[.bool false, .int .i64 0, .int .i64 0, .bool false]) (by simp [results, Try.results68, go_sem]) rfl ⟨rfl, ?_⟩
    exact below2 w _ _
  · rw [en, numV_inf, numV_inf]
    clear h1 h2
    go_enter Try.func68, Try.ntmps68
    go_wp2_with fail
    refine bodyPost_ret (v := .agg #[.bool (!neg), .int .i64 0, .int .i64 0, .bool true]) (by simp [results, Try.results68, go_sem]) rfl ⟨rfl, ?_⟩
    exact below2 w _ _
  · rw [en, numV_fin neg m0 m1 m2 e1 e2, numV_fin (!neg) m0 m1 m2 e1 e2]
    have u : ((M : Int) != 0) = true := by rw [bne_iff_ne]; omega
    clear m0 m1 m2 e1 e2 h1 h2
    go_enter Try.func68, Try.ntmps68
    go_wp2_with fail
    refine bodyPost_ret (v := .agg #[.bool (!neg), .int .i64 M, .int .i64 E, .bool false]) (by simp [results, Try.results68, go_sem]) rfl ⟨rfl, ?_⟩
    exact below2 w _ _

theorem tell_zero (w : World) : Calls Try.prog 40 #[numV 0] w fun e w' => e = .returned (.int .u32 (w32 0 : Nat)) ∧ Below w.heap.size w w' := by
  rw [numV_zero]
  go_enter Try.func40, Try.ntmps40
  go_wp2_with fail
  go_ret
  exact ⟨rfl, below_alloc1 _ _⟩
theorem tell_inf (neg : Bool) (w : World) : Calls Try.prog 40 #[numV (sgn neg I32)] w fun e w' => e = .returned (.int .u32 (w32 (sgn neg I32) : Nat)) ∧ Below w.heap.size w w' := by
  rw [numV_inf]
  cases neg
  · go_enter Try.func40, Try.ntmps40
    go_wp2_with fail
    go_ret
    exact ⟨rfl, below_alloc1 _ _⟩
  · go_enter Try.func40, Try.ntmps40
    go_wp2_with fail
    go_ret
    exact ⟨rfl, below_alloc1 _ _⟩
set_option maxRecDepth 100000 in
theorem tell_fin (neg : Bool) (M : Nat) (E : Int) (m0 : 0 < M) (m1 : M < 16777216) (m2 : 8388608 ≤ M ∨ E = -149) (e1 : -149 ≤ E) (e2 : E ≤ 104) (w : World) :
    Calls Try.prog 40 #[numV (sgn neg (rungOf M E))] w fun e w' => e = .returned (.int .u32 (w32 (sgn neg (rungOf M E)) : Nat)) ∧ Below w.heap.size w w' := by
  have hr : 0 < rungOf M E := by unfold rungOf; omega
  rw [numV_fin neg m0 m1 m2 e1 e2, w32_sgn neg _ hr]
  obtain ⟨X, hX⟩ : ∃ X : Int, X = (M : Int) := ⟨_, rfl⟩
  rw [← hX]
  have HX : Hid (X = (M : Int)) := hX
  have u : (X == 0) = false := by rw [beq_eq_false_iff_ne]; omega
  have x0 : 0 < X := by omega
  have x1 : X < 16777216 := by omega
  have hcase : (¬ X < 8388608) ∨ (X < 8388608 ∧ ¬ -149 < E) := by omega
  have HR : Hid (rungOf M E = (E + 149).toNat * 8388608 + M) := rfl
  have H2 : Hid (8388608 ≤ M ∨ E = -149) := m2
  clear m0 m1 m2 hr hX
  have hs : (neg = true ∨ neg = false) := by cases neg <;> simp
  rcases hcase with t1 | ⟨t1, t2⟩ <;> rcases hs with rfl | rfl
  · go_enter Try.func40, Try.ntmps40
    go_wp2_with fail
    go_loopw [] (fun w' => w' = w.alloc (.cells #[.bool true, .int .i64 X, .int .i64 E, .bool false] 53)) (fun _ => 0)
    case atStart => rfl
    case round =>
      subst hrel
      go_wp2_with fail
      go_ret
      have h1 := HX.out
      have h2 := HR.out
      have h3 := H2.out
      exact ⟨ret_int (show 2147483648 + (E + 150) * 8388608 + (X - 8388608) = 2147483648 + (rungOf M E : Int) by omega), below_alloc1 _ _⟩
  · go_enter Try.func40, Try.ntmps40
    go_wp2_with fail
    go_loopw [] (fun w' => w' = w.alloc (.cells #[.bool false, .int .i64 X, .int .i64 E, .bool false] 53)) (fun _ => 0)
    case atStart => rfl
    case round =>
      subst hrel
      go_wp2_with fail
      go_ret
      have h1 := HX.out
      have h2 := HR.out
      have h3 := H2.out
      exact ⟨ret_int (show (E + 150) * 8388608 + (X - 8388608) = (rungOf M E : Int) by omega), below_alloc1 _ _⟩
  · go_enter Try.func40, Try.ntmps40
    go_wp2_with fail
    go_loopw [] (fun w' => w' = w.alloc (.cells #[.bool true, .int .i64 X, .int .i64 E, .bool false] 53)) (fun _ => 0)
    case atStart => rfl
    case round =>
      subst hrel
      go_wp2_with fail
      go_ret
      have h1 := HX.out
      have h2 := HR.out
      have h3 := H2.out
      exact ⟨ret_int (show 2147483648 + X = 2147483648 + (rungOf M E : Int) by omega), below_alloc1 _ _⟩
  · go_enter Try.func40, Try.ntmps40
    go_wp2_with fail
    go_loopw [] (fun w' => w' = w.alloc (.cells #[.bool false, .int .i64 X, .int .i64 E, .bool false] 53)) (fun _ => 0)
    case atStart => rfl
    case round =>
      subst hrel
      go_wp2_with fail
      go_ret
      have h1 := HX.out
      have h2 := HR.out
      have h3 := H2.out
      exact ⟨ret_int (show X = (rungOf M E : Int) by omega), below_alloc1 _ _⟩
theorem tell_calls {k : Int} (h1 : -I ≤ k) (h2 : k ≤ I) (w : World) :
    Calls Try.prog 40 #[numV k] w fun e w' => e = .returned (.int .u32 (w32 k : Nat)) ∧ Below w.heap.size w w' := by
  rcases num_cases h1 h2 with rfl | ⟨neg, rfl⟩ | ⟨neg, M, E, rfl, m0, m1, m2, e1, e2⟩
  · exact tell_zero w
  · exact tell_inf neg w
  · exact tell_fin neg M E m0 m1 m2 e1 e2 w
end Go.Proofs.Ytakpfdhopodleaa
