import Derived.Test.YtakpfdhopodleaaRefWD
import Derived.Test.YtakpfdhopodleaaRefX
import Derived.Test.YtakpfdhopodleaaRefI
import Derived.Test.YtakpfdhopodleaaRefL
import Derived.Test.YtakpfdhopodleaaRefO
import Derived.Test.YtakpfdhopodleaaRefT
namespace Go.Proofs.Ytakpfdhopodleaa
open Go.ChangeShapes Go.WideShapes Go.ChangeAt Go.RowKit Hedge
set_option linter.unusedSimpArgs false
set_option linter.unusedVariables false

theorem bits_all (a : Nat) (h : a < 4294967296) : ∃ (i : Int) (f : Bool), (∀ w, Calls Try.prog 48 #[.int .u32 a] w fun e w' => e = .returned (.tuple #[numV i, .bool f]) ∧ Below w.heap.size w w') ∧
    -I ≤ i ∧ i ≤ I ∧ (f = true ↔ Num32 a) ∧ (f = true → i = i32 a) := by
  have hI := I_pos
  by_cases hn : Num32 a
  · have hr := i32_range hn
    exact ⟨i32 a, true, fun w => bits_ok a hn w, hr.1, hr.2, by simp [hn], fun _ => rfl⟩
  · exact ⟨0, false, fun w => bits_nan a h hn w, by omega, by omega, by simp [hn], by simp⟩

theorem read_all (a b : Nat) (ha : a < 4294967296) (hb : b < 4294967296) : ∃ (i j : Int) (f : Bool), (∀ w, Calls Try.prog 34 #[.int .u32 a, .int .u32 b] w fun e w' => e = .returned (.tuple #[pairV i j, .bool f]) ∧ Below w.heap.size w w') ∧
    (f = true ↔ Iv a b) ∧ (f = true → i = i32 a ∧ j = i32 b) := by
  obtain ⟨i, f, H1, i1, i2, hf, hfi⟩ := bits_all a ha
  obtain ⟨j, g, H2, j1, j2, hg, hgj⟩ := bits_all b hb
  have H3 := fun w => valid_calls i1 i2 j1 j2 (fun w => below_calls j1 j2 i1 i2 w) w
  refine ⟨i, j, _, fun w => Read_calls H1 H2 H3 w, ?_, ?_⟩
  · rw [iv_iff]
    simp only [Bool.and_eq_true, decide_eq_true_eq]
    constructor
    · rintro ⟨⟨h1, h2⟩, h3⟩
      rw [hfi h1, hgj h2] at h3
      exact ⟨hf.1 h1, hg.1 h2, h3⟩
    · rintro ⟨h1, h2, h3⟩
      have g1 := hf.2 h1
      have g2 := hg.2 h2
      rw [hfi g1, hgj g2]
      exact ⟨⟨g1, g2⟩, h3⟩
  · simp only [Bool.and_eq_true]
    rintro ⟨⟨h1, h2⟩, -⟩
    exact ⟨hfi h1, hgj h2⟩
theorem read_yes {a b : Nat} (ha : a < 4294967296) (hb : b < 4294967296) (h : Iv a b) (w : World) :
    Calls Try.prog 34 #[.int .u32 a, .int .u32 b] w fun e w' => e = .returned (.tuple #[pairV (i32 a) (i32 b), .bool true]) ∧ Below w.heap.size w w' := by
  obtain ⟨i, j, f, H, hf, hij⟩ := read_all a b ha hb
  obtain rfl : f = true := hf.2 h
  obtain ⟨rfl, rfl⟩ := hij rfl
  exact H w
theorem bad_all {a b c d : Nat} (ha : a < 4294967296) (hb : b < 4294967296) (hc : c < 4294967296) (hd : d < 4294967296) {kind : Int} (h : ¬ Iv a b ∨ (¬ Iv c d ∧ kind < 4)) (w : World) :
    Calls Try.prog 24 #[.int .i64 kind, .agg #[.int .u32 a, .int .u32 b, .int .u32 c, .int .u32 d]] w fun e w' => e = .returned (.tuple #[.agg #[.int .u32 (0 : Nat), .int .u32 (0 : Nat)], .int .i64 1]) ∧ Below w.heap.size w w' := by
  obtain ⟨i, j, f, H, hf, -⟩ := read_all a b ha hb
  obtain ⟨k, l, g, G, hg, -⟩ := read_all c d hc hd
  refine Two_bad H G ?_ w
  rcases h with h | ⟨h, h4⟩
  · left; cases f <;> simp_all
  · right; cases g <;> simp_all

theorem iv_bounds {a b : Nat} (h : Iv a b) : -I ≤ i32 a ∧ i32 a < I ∧ -I < i32 b ∧ i32 b ≤ I :=
  ⟨(i32_range h.n1).1, h.l, h.h, (i32_range h.n2).2⟩

theorem bad2 {a b c d : Nat} {kind : Int} (h : ¬ (Iv a b ∧ Iv c d)) (hk : kind < 4) : ¬ Iv a b ∨ (¬ Iv c d ∧ kind < 4) := by
  by_cases h1 : Iv a b
  · exact Or.inr ⟨fun h2 => h ⟨h1, h2⟩, hk⟩
  · exact Or.inl h1
theorem add_dn {i j : Int} (i1 : -I ≤ i) (i2 : i ≤ I) (j1 : -I ≤ j) (j2 : j ≤ I) (hij : ¬ (i = I ∧ j = -I)) (hji : ¬ (i = -I ∧ j = I)) (w : World) :
    Calls Try.prog 50 #[numV i, numV j, .bool false] w fun e w' => e = .returned (numV (addD i j)) ∧ Below w.heap.size w w' := by
  have h := add_calls i1 i2 j1 j2 hij hji false w
  rw [if_neg Bool.false_ne_true] at h
  exact h
theorem add_up {i j : Int} (i1 : -I ≤ i) (i2 : i ≤ I) (j1 : -I ≤ j) (j2 : j ≤ I) (hij : ¬ (i = I ∧ j = -I)) (hji : ¬ (i = -I ∧ j = I)) (w : World) :
    Calls Try.prog 50 #[numV i, numV j, .bool true] w fun e w' => e = .returned (numV (addU i j)) ∧ Below w.heap.size w w' := by
  have h := add_calls i1 i2 j1 j2 hij hji true w
  rw [if_pos rfl] at h
  exact h
theorem mul_dn {i j : Int} (i1 : -I ≤ i) (i2 : i ≤ I) (j1 : -I ≤ j) (j2 : j ≤ I) (w : World) :
    Calls Try.prog 52 #[numV i, numV j, .bool false] w fun e w' => e = .returned (numV (mulD i j)) ∧ Below w.heap.size w w' := by
  have h := mul_calls i1 i2 j1 j2 false w
  rw [if_neg Bool.false_ne_true] at h
  exact h
theorem mul_up {i j : Int} (i1 : -I ≤ i) (i2 : i ≤ I) (j1 : -I ≤ j) (j2 : j ≤ I) (w : World) :
    Calls Try.prog 52 #[numV i, numV j, .bool true] w fun e w' => e = .returned (numV (mulU i j)) ∧ Below w.heap.size w w' := by
  have h := mul_calls i1 i2 j1 j2 true w
  rw [if_pos rfl] at h
  exact h
theorem div_dn {i j : Int} (i1 : -I ≤ i) (i2 : i ≤ I) (j1 : -I ≤ j) (j2 : j ≤ I) (j0 : j ≠ 0) (w : World) :
    Calls Try.prog 56 #[numV i, numV j, .bool false] w fun e w' => e = .returned (numV (divD i j)) ∧ Below w.heap.size w w' := by
  have h := div_calls i1 i2 j1 j2 j0 false w
  rw [if_neg Bool.false_ne_true] at h
  exact h
theorem div_up {i j : Int} (i1 : -I ≤ i) (i2 : i ≤ I) (j1 : -I ≤ j) (j2 : j ≤ I) (j0 : j ≠ 0) (w : World) :
    Calls Try.prog 56 #[numV i, numV j, .bool true] w fun e w' => e = .returned (numV (divU i j)) ∧ Below w.heap.size w w' := by
  have h := div_calls i1 i2 j1 j2 j0 true w
  rw [if_pos rfl] at h
  exact h
theorem sqrt_dn {k : Int} (k1 : 0 ≤ k) (k2 : k ≤ I) (w : World) :
    Calls Try.prog 58 #[numV k, .bool false] w fun e w' => e = .returned (numV (sqD k)) ∧ Below w.heap.size w w' := by
  have h := sqrt_calls k1 k2 false w
  rw [if_neg Bool.false_ne_true] at h
  exact h
theorem sqrt_up {k : Int} (k1 : 0 ≤ k) (k2 : k ≤ I) (w : World) :
    Calls Try.prog 58 #[numV k, .bool true] w fun e w' => e = .returned (numV (sqU k)) ∧ Below w.heap.size w w' := by
  have h := sqrt_calls k1 k2 true w
  rw [if_pos rfl] at h
  exact h
theorem sign_sg {k : Int} (h1 : -I ≤ k) (h2 : k ≤ I) (w : World) :
    Calls Try.prog 57 #[numV k] w fun e w' => e = .returned (.int .i64 (sg k)) ∧ Below w.heap.size w w' := by
  have h := sign_calls h1 h2 w
  unfold sg
  exact h
theorem sg_nn {k : Int} : 0 ≤ sg k ↔ 0 ≤ k := by
  unfold sg
  by_cases h : k < 0
  · rw [if_pos h]; omega
  · rw [if_neg h]; split <;> omega
theorem least_lows {m : Nat → Int} (h : ∀ k, -I ≤ m k ∧ m k ≤ I) (k : Nat) (w : World) :
    Calls Try.prog 53 #[numV (lows m k), numV (m k)] w fun e w' => e = .returned (numV (lows m (k + 1))) ∧ Below w.heap.size w w' := by
  have hm := h k
  have hl := lows_range h k
  have hc := least_calls (i := lows m k) (j := m k) (fun w => below_calls hm.1 hm.2 hl.1 hl.2 w) w
  have e : lows m (k + 1) = if m k < lows m k then m k else lows m k := by rw [lows]
  rw [e]
  exact hc
theorem most_highs {m : Nat → Int} (h : ∀ k, -I ≤ m k ∧ m k ≤ I) (k : Nat) (w : World) :
    Calls Try.prog 54 #[numV (highs m k), numV (m k)] w fun e w' => e = .returned (numV (highs m (k + 1))) ∧ Below w.heap.size w w' := by
  have hm := h k
  have hl := highs_range h k
  have hc := most_calls (i := highs m k) (j := m k) (fun w => below_calls hl.1 hl.2 hm.1 hm.2 w) w
  have e : highs m (k + 1) = if highs m k < m k then m k else highs m k := by rw [highs]
  rw [e]
  exact hc
/-- Of two by two numbers the k-th pair. -/
def four (f : Int → Int → Int) (i j k l : Int) (n : Nat) : Int := f (if n / 2 = 0 then i else j) (if n % 2 = 0 then k else l)
theorem four_lows (f : Int → Int → Int) (i j k l : Int) : lows (four f i j k l) 4 = min4 (f i k) (f i l) (f j k) (f j l) := by
  rw [lows4]
  unfold four
  simp only [Nat.reduceDiv, Nat.reduceMod, if_true, Nat.reduceEqDiff, if_false, Nat.one_ne_zero, Nat.zero_div, Nat.zero_mod]
theorem four_highs (f : Int → Int → Int) (i j k l : Int) : highs (four f i j k l) 4 = max4 (f i k) (f i l) (f j k) (f j l) := by
  rw [highs4]
  unfold four
  simp only [Nat.reduceDiv, Nat.reduceMod, if_true, Nat.reduceEqDiff, if_false, Nat.one_ne_zero, Nat.zero_div, Nat.zero_mod]


theorem two_add {a b c d : Nat} (ha : a < 4294967296) (hb : b < 4294967296) (hc : c < 4294967296) (hd : d < 4294967296) (w : World) : Calls Try.prog 9 #[.int .i64 0, .agg #[.int .u32 a, .int .u32 b, .int .u32 c, .int .u32 d]] w fun e w' => e = .returned (.bool true) ∧ Below w.heap.size w w' := by
  by_cases h1 : Iv a b ∧ Iv c d
  · obtain ⟨h1, h2⟩ := h1
    have b1 := iv_bounds h1
    have b2 := iv_bounds h2
    have r1 := addD_range (i32 a) (i32 c)
    have r2 := addU_range (i32 b) (i32 d)
    have P := fun w => hadd_ok h1 h2 w
    have A : ∀ w, Calls Try.prog 35 #[pairV (i32 a) (i32 b), pairV (i32 c) (i32 d)] w fun e w' => e = .returned (pairV (addD (i32 a) (i32 c)) (addU (i32 b) (i32 d))) ∧ Below w.heap.size w w' :=
      fun w => Add_calls (fun w => add_dn (by omega) (by omega) (by omega) (by omega) (by omega) (by omega) w) (fun w => add_up (by omega) (by omega) (by omega) (by omega) (by omega) (by omega) w) w
    generalize addD (i32 a) (i32 c) = r at *
    generalize addU (i32 b) (i32 d) = s at *
    exact two_0 P (fun w => Two_0 (fun w => read_yes ha hb h1 w) (fun w => read_yes hc hd h2 w) A (fun w => tell_calls r1.1 r1.2 w) (fun w => tell_calls r2.1 r2.2 w) w) w
  · exact two_0 (fun w => hadd_bad ha hb hc hd h1 w) (fun w => bad_all ha hb hc hd (bad2 h1 (by omega)) w) w

theorem two_sub {a b c d : Nat} (ha : a < 4294967296) (hb : b < 4294967296) (hc : c < 4294967296) (hd : d < 4294967296) (w : World) : Calls Try.prog 9 #[.int .i64 1, .agg #[.int .u32 a, .int .u32 b, .int .u32 c, .int .u32 d]] w fun e w' => e = .returned (.bool true) ∧ Below w.heap.size w w' := by
  by_cases h1 : Iv a b ∧ Iv c d
  · obtain ⟨h1, h2⟩ := h1
    have b1 := iv_bounds h1
    have b2 := iv_bounds h2
    have r1 := addD_range (i32 a) (-i32 d)
    have r2 := addU_range (i32 b) (-i32 c)
    have P := fun w => hsub_ok h1 h2 w
    have A : ∀ w, Calls Try.prog 35 #[pairV (i32 a) (i32 b), pairV (-i32 d) (-i32 c)] w fun e w' => e = .returned (pairV (addD (i32 a) (-i32 d)) (addU (i32 b) (-i32 c))) ∧ Below w.heap.size w w' :=
      fun w => Add_calls (fun w => add_dn (by omega) (by omega) (by omega) (by omega) (by omega) (by omega) w) (fun w => add_up (by omega) (by omega) (by omega) (by omega) (by omega) (by omega) w) w
    have N : ∀ w, Calls Try.prog 51 #[pairV (i32 c) (i32 d)] w fun e w' => e = .returned (pairV (-i32 d) (-i32 c)) ∧ Below w.heap.size w w' := fun w => Neg_calls (by omega) (by omega) (by omega) (by omega) w
    generalize addD (i32 a) (-i32 d) = r at *
    generalize addU (i32 b) (-i32 c) = s at *
    exact two_1 P (fun w => Two_1 (fun w => read_yes ha hb h1 w) (fun w => read_yes hc hd h2 w) (fun w => Sub_calls N A w) (fun w => tell_calls r1.1 r1.2 w) (fun w => tell_calls r2.1 r2.2 w) w) w
  · exact two_1 (fun w => hsub_bad ha hb hc hd h1 w) (fun w => bad_all ha hb hc hd (bad2 h1 (by omega)) w) w

theorem two_mul {a b c d : Nat} (ha : a < 4294967296) (hb : b < 4294967296) (hc : c < 4294967296) (hd : d < 4294967296) (w : World) : Calls Try.prog 9 #[.int .i64 2, .agg #[.int .u32 a, .int .u32 b, .int .u32 c, .int .u32 d]] w fun e w' => e = .returned (.bool true) ∧ Below w.heap.size w w' := by
  by_cases h1 : Iv a b ∧ Iv c d
  · obtain ⟨h1, h2⟩ := h1
    have b1 := iv_bounds h1
    have b2 := iv_bounds h2
    have g1 : ∀ n, -I ≤ four mulD (i32 a) (i32 b) (i32 c) (i32 d) n ∧ four mulD (i32 a) (i32 b) (i32 c) (i32 d) n ≤ I := fun n => mulD_range _ _
    have g2 : ∀ n, -I ≤ four mulU (i32 a) (i32 b) (i32 c) (i32 d) n ∧ four mulU (i32 a) (i32 b) (i32 c) (i32 d) n ≤ I := fun n => mulU_range _ _
    have r1 := lows_range g1 4
    have r2 := highs_range g2 4
    have P := fun w => hmul_ok h1 h2 w
    have A : ∀ w, Calls Try.prog 37 #[pairV (i32 a) (i32 b), pairV (i32 c) (i32 d)] w fun e w' => e = .returned (pairV (lows (four mulD (i32 a) (i32 b) (i32 c) (i32 d)) 4) (highs (four mulU (i32 a) (i32 b) (i32 c) (i32 d)) 4)) ∧ Below w.heap.size w w' :=
      fun w => Mul_calls (m := four mulD (i32 a) (i32 b) (i32 c) (i32 d)) (o := four mulU (i32 a) (i32 b) (i32 c) (i32 d)) (L := lows (four mulD (i32 a) (i32 b) (i32 c) (i32 d))) (H := highs (four mulU (i32 a) (i32 b) (i32 c) (i32 d)))
        (fun n _ w => mul_dn (by split <;> omega) (by split <;> omega) (by split <;> omega) (by split <;> omega) w) (fun n _ w => mul_up (by split <;> omega) (by split <;> omega) (by split <;> omega) (by split <;> omega) w)
        (fun n _ w => least_lows g1 n w) (fun n _ w => most_highs g2 n w) (by rw [lows]) (by rw [highs]) w
    rw [four_lows] at r1 A
    rw [four_highs] at r2 A
    clear g1 g2
    generalize min4 (mulD (i32 a) (i32 c)) (mulD (i32 a) (i32 d)) (mulD (i32 b) (i32 c)) (mulD (i32 b) (i32 d)) = r at *
    generalize max4 (mulU (i32 a) (i32 c)) (mulU (i32 a) (i32 d)) (mulU (i32 b) (i32 c)) (mulU (i32 b) (i32 d)) = s at *
    exact two_2 P (fun w => Two_2 (fun w => read_yes ha hb h1 w) (fun w => read_yes hc hd h2 w) A (fun w => tell_calls r1.1 r1.2 w) (fun w => tell_calls r2.1 r2.2 w) w) w
  · exact two_2 (fun w => hmul_bad ha hb hc hd h1 w) (fun w => bad_all ha hb hc hd (bad2 h1 (by omega)) w) w

theorem two_div {a b c d : Nat} (ha : a < 4294967296) (hb : b < 4294967296) (hc : c < 4294967296) (hd : d < 4294967296) (w : World) : Calls Try.prog 9 #[.int .i64 3, .agg #[.int .u32 a, .int .u32 b, .int .u32 c, .int .u32 d]] w fun e w' => e = .returned (.bool true) ∧ Below w.heap.size w w' := by
  by_cases h1 : Iv a b ∧ Iv c d
  · obtain ⟨h1, h2⟩ := h1
    have b1 := iv_bounds h1
    have b2 := iv_bounds h2
    have Z := fun w => has0_calls (a := i32 c) (b := i32 d) (by omega) (by omega) (by omega) (by omega) w
    by_cases hz : i32 c ≤ 0 ∧ 0 ≤ i32 d
    · rw [decide_eq_true hz] at Z
      exact two_3 (fun w => hdiv_zero h1 h2 hz w) (fun w => Two_3_err (r' := 0) (s' := 0) (fun w => read_yes ha hb h1 w) (fun w => read_yes hc hd h2 w) (fun w => Div_zero Z w) w) w
    · rw [decide_eq_false hz] at Z
      have hz' : 0 < i32 c ∨ i32 d < 0 := by omega
      have hle := h2.le
      have g1 : ∀ n, -I ≤ four divD (i32 a) (i32 b) (i32 c) (i32 d) n ∧ four divD (i32 a) (i32 b) (i32 c) (i32 d) n ≤ I := fun n => divD_range _ _
      have g2 : ∀ n, -I ≤ four divU (i32 a) (i32 b) (i32 c) (i32 d) n ∧ four divU (i32 a) (i32 b) (i32 c) (i32 d) n ≤ I := fun n => divU_range _ _
      have r1 := lows_range g1 4
      have r2 := highs_range g2 4
      have P := fun w => hdiv_ok h1 h2 hz' w
      have A : ∀ w, Calls Try.prog 38 #[pairV (i32 a) (i32 b), pairV (i32 c) (i32 d)] w fun e w' => e = .returned (.tuple #[pairV (lows (four divD (i32 a) (i32 b) (i32 c) (i32 d)) 4) (highs (four divU (i32 a) (i32 b) (i32 c) (i32 d)) 4), .int .i64 0]) ∧ Below w.heap.size w w' :=
        fun w => Div_calls (m := four divD (i32 a) (i32 b) (i32 c) (i32 d)) (o := four divU (i32 a) (i32 b) (i32 c) (i32 d)) (L := lows (four divD (i32 a) (i32 b) (i32 c) (i32 d))) (H := highs (four divU (i32 a) (i32 b) (i32 c) (i32 d))) Z
          (fun n _ w => div_dn (by split <;> omega) (by split <;> omega) (by split <;> omega) (by split <;> omega) (by split <;> omega) w) (fun n _ w => div_up (by split <;> omega) (by split <;> omega) (by split <;> omega) (by split <;> omega) (by split <;> omega) w)
          (fun n _ w => least_lows g1 n w) (fun n _ w => most_highs g2 n w) (by rw [lows]) (by rw [highs]) w
      rw [four_lows] at r1 A
      rw [four_highs] at r2 A
      clear g1 g2
      generalize min4 (divD (i32 a) (i32 c)) (divD (i32 a) (i32 d)) (divD (i32 b) (i32 c)) (divD (i32 b) (i32 d)) = r at *
      generalize max4 (divU (i32 a) (i32 c)) (divU (i32 a) (i32 d)) (divU (i32 b) (i32 c)) (divU (i32 b) (i32 d)) = s at *
      exact two_3 P (fun w => Two_3 (fun w => read_yes ha hb h1 w) (fun w => read_yes hc hd h2 w) A (fun w => tell_calls r1.1 r1.2 w) (fun w => tell_calls r2.1 r2.2 w) w) w
  · exact two_3 (fun w => hdiv_bad ha hb hc hd h1 w) (fun w => bad_all ha hb hc hd (bad2 h1 (by omega)) w) w

theorem two_sqrt {a b c d : Nat} (ha : a < 4294967296) (hb : b < 4294967296) (hc : c < 4294967296) (hd : d < 4294967296) (w : World) : Calls Try.prog 9 #[.int .i64 4, .agg #[.int .u32 a, .int .u32 b, .int .u32 c, .int .u32 d]] w fun e w' => e = .returned (.bool true) ∧ Below w.heap.size w w' := by
  by_cases h1 : Iv a b
  · have b1 := iv_bounds h1
    have hle := h1.le
    obtain ⟨k, l, g, G, -, -⟩ := read_all c d hc hd
    by_cases hz : 0 ≤ i32 a
    · have r1 := sqD_range (i32 a)
      have r2 := sqU_range (i32 b)
      have P := fun w => hsqrt_ok h1 hz w
      rw [sq_min hle (by omega), sq_max hz hle (by omega)] at P
      have A : ∀ w, Calls Try.prog 39 #[pairV (i32 a) (i32 b)] w fun e w' => e = .returned (.tuple #[pairV (sqD (i32 a)) (sqU (i32 b)), .int .i64 0]) ∧ Below w.heap.size w w' :=
        fun w => Sqrt_calls (fun w => sign_sg (by omega) (by omega) w) (sg_nn.2 hz) (fun w => sqrt_dn hz (by omega) w) (fun w => sqrt_up (by omega) (by omega) w) w
      generalize sqD (i32 a) = r at *
      generalize sqU (i32 b) = s at *
      exact two_4 P (fun w => Two_4 (fun w => read_yes ha hb h1 w) G A (fun w => tell_calls r1.1 r1.2 w) (fun w => tell_calls r2.1 r2.2 w) w) w
    · have hs : sg (i32 a) < 0 := by have := @sg_nn (i32 a); omega
      exact two_4 (fun w => hsqrt_below h1 (by omega) w) (fun w => Two_4_err (r' := 0) (s' := 0) (fun w => read_yes ha hb h1 w) G (fun w => Sqrt_below (fun w => sign_sg (by omega) (by omega) w) hs w) w) w
  · exact two_4 (fun w => hsqrt_bad ha hb h1 w) (fun w => bad_all ha hb hc hd (Or.inl h1) w) w

theorem two_all {a b c d : Nat} (ha : a < 4294967296) (hb : b < 4294967296) (hc : c < 4294967296) (hd : d < 4294967296) (k : Int) (w : World) : Calls Try.prog 9 #[.int .i64 k, .agg #[.int .u32 a, .int .u32 b, .int .u32 c, .int .u32 d]] w fun e w' => e = .returned (.bool true) ∧ Below w.heap.size w w' := by
  by_cases hk : k < 0 ∨ 4 < k
  · exact two_none hk _ _ _ _ w
  · rcases (by omega : k = 0 ∨ k = 1 ∨ k = 2 ∨ k = 3 ∨ k = 4) with rfl | rfl | rfl | rfl | rfl
    · exact two_add ha hb hc hd w
    · exact two_sub ha hb hc hd w
    · exact two_mul ha hb hc hd w
    · exact two_div ha hb hc hd w
    · exact two_sqrt ha hb hc hd w
theorem reckons_all {a b c d : Nat} (ha : a < 4294967296) (hb : b < 4294967296) (hc : c < 4294967296) (hd : d < 4294967296) (k : Int) (w : World) : Calls Try.prog 4 #[.int .i64 k, .agg #[.int .u32 a, .int .u32 b, .int .u32 c, .int .u32 d]] w fun e w' => e = .returned (.bool true) ∧ Below w.heap.size w w' :=
  reckons_calls (fun w => two_all (a := 1065353216) (b := 1073741824) (c := 1077936128) (d := 1082130432) (by omega) (by omega) (by omega) (by omega) 0 w) (fun w => two_all ha hb hc hd k w) w
end Go.Proofs.Ytakpfdhopodleaa
