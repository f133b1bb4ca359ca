import Derived.Test.YtakpfdhopodleaaCodeF
import Derived.Test.YtakpfdhopodleaaSpecEF
namespace Go.Proofs.Ytakpfdhopodleaa
open Go.ChangeShapes Go.WideShapes Go.ChangeAt Go.RowKit Hedge
set_option linter.unusedSimpArgs false
set_option linter.unusedVariables false

theorem ne0_order {x : Nat} (h : Num32 x) (h0 : i32 x ≠ 0) : (F32.order x 0 == some .eq) = false := by
  rcases Int.lt_or_gt_of_ne h0 with h1 | h1
  · rw [o32_lt h n_zero (by rw [i_zero]; exact h1)]; rfl
  · rw [o32_gt h n_zero (by rw [i_zero]; exact h1)]; rfl

theorem product_calls {x y : Nat} (hx : Num32 x) (hy : Num32 y) (w : World) :
    Calls Try.prog 44 #[.float .f32 x, .float .f32 y] w fun r w' => ∃ p, r = .returned (.float .f64 p) ∧ Num64 p ∧ dn64 (i64 p) = mulD (i32 x) (i32 y) ∧ up64 (i64 p) = mulU (i32 x) (i32 y) ∧ w' = w := by
  obtain ⟨x1, x2⟩ := i32_range hx
  obtain ⟨y1, y2⟩ := i32_range hy
  by_cases h0 : i32 x = 0 ∨ i32 y = 0
  · have e1 : mulD (i32 x) (i32 y) = 0 := by unfold mulD; rw [if_pos h0]
    have e2 : mulU (i32 x) (i32 y) = 0 := by unfold mulU mulD; rw [if_pos (by omega)]; rfl
    have E1 : Hid (dn64 (i64 0) = mulD (i32 x) (i32 y)) := by show _ = _; rw [e1, i_zero64, dn64_0]
    have E2 : Hid (up64 (i64 0) = mulU (i32 x) (i32 y)) := by show _ = _; rw [e2, i_zero64, up64_0]
    clear e1 e2
    by_cases hx0 : i32 x = 0
    · have o1 := o32_eq hx n_zero (by rw [i_zero]; exact hx0)
      clear h0 hx0
      go_enter Try.func44, Try.ntmps44
      go_wp2
      go_ret
      exact ⟨0, rfl, n_zero64, E1.out, E2.out, rfl⟩
    · have o1 := ne0_order hx hx0
      have hy0 : i32 y = 0 := by omega
      have o2 := o32_eq hy n_zero (by rw [i_zero]; exact hy0)
      clear h0 hx0 hy0
      go_enter Try.func44, Try.ntmps44
      go_wp2
      go_ret
      exact ⟨0, rfl, n_zero64, E1.out, E2.out, rfl⟩
  · have hx0 : i32 x ≠ 0 := by omega
    have hy0 : i32 y ≠ 0 := by omega
    have o1 := ne0_order hx hx0
    have o2 := ne0_order hy hy0
    obtain ⟨u, u1, u2, u3⟩ := widen hx
    obtain ⟨v, v1, v2, v3⟩ := widen hy
    have d1 := conv_up u1
    have d2 := conv_up v1
    obtain ⟨p, p1, p2, p3, p4⟩ := prod_word u2 v2 u3 v3 hx0 hy0 x1 x2 y1 y2
    have f1 : ∀ t w, (binOp .mul t (.float .f64 u) (.float .f64 v)).run Try.prog w = .ok (.float .f64 p) w := fun t w => run_float_arith w .mul t .f64 u v p p1
    have P3 : Hid (dn64 (i64 p) = mulD (i32 x) (i32 y)) := p3
    have P4 : Hid (up64 (i64 p) = mulU (i32 x) (i32 y)) := p4
    clear h0 hx0 hy0 p1 p3 p4 u1 v1 u3 v3
    go_enter Try.func44, Try.ntmps44
    go_wp2
    go_ret
    exact ⟨p, rfl, p2, P3.out, P4.out, rfl⟩

theorem quotient_calls {x y : Nat} (hx : Num32 x) (hy : Num32 y) (hy0 : i32 y ≠ 0) (w : World) :
    Calls Try.prog 46 #[.float .f32 x, .float .f32 y] w fun r w' => ∃ p, r = .returned (.float .f64 p) ∧ Num64 p ∧ dn64 (i64 p) = divD (i32 x) (i32 y) ∧ up64 (i64 p) = divU (i32 x) (i32 y) ∧ w' = w := by
  have hI := I_pos
  obtain ⟨x1, x2⟩ := i32_range hx
  obtain ⟨y1, y2⟩ := i32_range hy
  obtain ⟨v, v1, v2, v3⟩ := widen hy
  have d2 := conv_up v1
  obtain ⟨q1, q2⟩ := up_J v3
  by_cases hi : i32 y = I ∨ i32 y = -I
  · have e1 : divD (i32 x) (i32 y) = 0 := by unfold divD; rw [if_pos (by omega)]
    have e2 : divU (i32 x) (i32 y) = 0 := by unfold divU divD; rw [if_pos (by omega)]; rfl
    have E1 : Hid (dn64 (i64 0) = divD (i32 x) (i32 y)) := by show _ = _; rw [e1, i_zero64, dn64_0]
    have E2 : Hid (up64 (i64 0) = divU (i32 x) (i32 y)) := by show _ = _; rw [e2, i_zero64, up64_0]
    have hv : i64 v = J ∨ i64 v = -J := by omega
    clear e1 e2 hi q1 q2 v1 v3
    go_enter Try.func46, Try.ntmps46
    go_wp2_with (go_at_call 64; refine (isInf_yes v2 hv _).mono ?_; rintro r w' ⟨rfl, rfl⟩)
    go_ret
    exact ⟨0, rfl, n_zero64, E1.out, E2.out, rfl⟩
  · obtain ⟨u, u1, u2, u3⟩ := widen hx
    have d1 := conv_up u1
    obtain ⟨p, p1, p2, p3, p4⟩ := quot_word u2 v2 u3 v3 hy0 x1 x2 (by omega) (by omega)
    have f1 : ∀ t w, (binOp .quo t (.float .f64 u) (.float .f64 v)).run Try.prog w = .ok (.float .f64 p) w := fun t w => run_float_arith w .quo t .f64 u v p p1
    have P3 : Hid (dn64 (i64 p) = divD (i32 x) (i32 y)) := p3
    have P4 : Hid (up64 (i64 p) = divU (i32 x) (i32 y)) := p4
    obtain ⟨r1, r2⟩ := i64_range v2
    have hv1 : -J < i64 v := by omega
    have hv2 : i64 v < J := by omega
    clear hi q1 q2 p1 p3 p4 u1 v1 u3 v3 r1 r2
    go_enter Try.func46, Try.ntmps46
    go_wp2_with (go_at_call 64; refine (isInf_no v2 hv1 hv2 _).mono ?_; rintro r w' ⟨rfl, rfl⟩)
    go_ret
    exact ⟨p, rfl, p2, P3.out, P4.out, rfl⟩

theorem run_sqrt {x r : Nat} (h : F64.sqrt x = some r) (w : World) : (callFunc 79 #[.float .f64 x]).run Try.prog w = .ok (.value (.float .f64 r)) w := by
  rw [run_callFunc_extern (e := Extern.MathSqrt.sqrt) Try.func79 (by kernel_rfl) (by kernel_rfl) (by kernel_rfl) (by kernel_rfl)]
  have : Extern.MathSqrt.sqrt #[.float .f64 x] = pure (.float .f64 r) := by
    change (match F64.sqrt x with
      | some r => (pure (Value.float .f64 r) : Sem Value)
      | none => (do pure (Value.float .f64 (← choose (.nanBits .f64 x x))))) = _
    rw [h]
  rw [this]; rfl

theorem msqrt_calls {x r : Nat} (h : F64.sqrt x = some r) (w : World) : Calls Try.prog 65 #[.float .f64 x] w fun e w' => e = .returned (.float .f64 r) ∧ w' = w := by
  have h1 := run_sqrt h
  clear h
  go_enter Try.func65, Try.ntmps65
  go_wp2
  go_ret
  exact ⟨rfl, rfl⟩

theorem root_calls {x : Nat} (hx : Num32 x) (hx0 : 0 ≤ i32 x) (w : World) :
    Calls Try.prog 47 #[.float .f32 x] w fun r w' => ∃ p, r = .returned (.float .f64 p) ∧ Num64 p ∧ dn64 (i64 p) = sqD (i32 x) ∧ up64 (i64 p) = sqU (i32 x) ∧ w' = w := by
  obtain ⟨x1, x2⟩ := i32_range hx
  obtain ⟨u, u1, u2, u3⟩ := widen hx
  have d1 := conv_up u1
  obtain ⟨p, p1, p2, p3, p4⟩ := root_word u2 u3 hx0 x2
  have P3 : Hid (dn64 (i64 p) = sqD (i32 x)) := p3
  have P4 : Hid (up64 (i64 p) = sqU (i32 x)) := p4
  clear p3 p4 u1 u3
  go_enter Try.func47, Try.ntmps47
  go_wp2_with (go_at_call 65; refine (msqrt_calls p1 _).mono ?_; rintro r w' ⟨rfl, rfl⟩)
  go_ret
  exact ⟨p, rfl, p2, P3.out, P4.out, rfl⟩
end Go.Proofs.Ytakpfdhopodleaa
namespace Go.Proofs.Ytakpfdhopodleaa
open Go.ChangeShapes Go.WideShapes Go.ChangeAt Go.RowKit Hedge
set_option linter.unusedSimpArgs false
set_option linter.unusedVariables false

def minW (a b : Nat) : Nat := if i64 a < i64 b then a else if i64 b < i64 a then b else if (Ieee.double.read a).neg then a else b
def maxW (a b : Nat) : Nat := if i64 a < i64 b then b else if i64 b < i64 a then a else if (Ieee.double.read a).neg then b else a

theorem minW_ok {a b : Nat} (ha : Num64 a) (hb : Num64 b) : Num64 (minW a b) ∧ i64 (minW a b) = min (i64 a) (i64 b) := by
  unfold minW
  split
  · exact ⟨ha, by omega⟩
  · split
    · exact ⟨hb, by omega⟩
    · split
      · exact ⟨ha, by omega⟩
      · exact ⟨hb, by omega⟩
theorem maxW_ok {a b : Nat} (ha : Num64 a) (hb : Num64 b) : Num64 (maxW a b) ∧ i64 (maxW a b) = max (i64 a) (i64 b) := by
  unfold maxW
  split
  · exact ⟨hb, by omega⟩
  · split
    · exact ⟨ha, by omega⟩
    · split
      · exact ⟨hb, by omega⟩
      · exact ⟨ha, by omega⟩

theorem run_min_f64 {P : Program} {a b : Nat} (ha : Num64 a) (hb : Num64 b) (ts : Array TypeId) (t : TypeId) (w : World) :
    (Builtin.min_ ts t #[.float .f64 a, .float .f64 b]).run P w = .ok (.float .f64 (minW a b)) w := by
  unfold minW
  by_cases h1 : i64 a < i64 b
  · have o := o64_lt ha hb h1
    simp [Builtin.min_, Builtin.min2, o, h1]
  · by_cases h2 : i64 b < i64 a
    · have o := o64_gt ha hb h2
      simp [Builtin.min_, Builtin.min2, o, h1, h2]
    · have o : Ieee.double.order a b = some .eq := o64_eq ha hb (by omega)
      simp [Builtin.min_, Builtin.min2, o, h1, h2, FloatKind.decode, FloatKind.format]; rfl
theorem run_max_f64 {P : Program} {a b : Nat} (ha : Num64 a) (hb : Num64 b) (ts : Array TypeId) (t : TypeId) (w : World) :
    (Builtin.max_ ts t #[.float .f64 a, .float .f64 b]).run P w = .ok (.float .f64 (maxW a b)) w := by
  unfold maxW
  by_cases h1 : i64 a < i64 b
  · have o := o64_lt ha hb h1
    simp [Builtin.max_, Builtin.max2, o, h1]
  · by_cases h2 : i64 b < i64 a
    · have o := o64_gt ha hb h2
      simp [Builtin.max_, Builtin.max2, o, h1, h2]
    · have o : Ieee.double.order a b = some .eq := o64_eq ha hb (by omega)
      simp [Builtin.max_, Builtin.max2, o, h1, h2, FloatKind.decode, FloatKind.format]; rfl

def minL (a : Nat) (ms : List Nat) : Int := ms.foldl (fun c m => min c (i64 m)) (i64 a)
def maxL (a : Nat) (ms : List Nat) : Int := ms.foldl (fun c m => max c (i64 m)) (i64 a)
theorem minL_snoc (a : Nat) (ms : List Nat) (k : Nat) (h : k < ms.length) : minL a (ms.take (k + 1)) = min (minL a (ms.take k)) (i64 ms[k]) := by
  unfold minL; rw [List.take_succ_eq_append_getElem h, List.foldl_append]; rfl
theorem maxL_snoc (a : Nat) (ms : List Nat) (k : Nat) (h : k < ms.length) : maxL a (ms.take (k + 1)) = max (maxL a (ms.take k)) (i64 ms[k]) := by
  unfold maxL; rw [List.take_succ_eq_append_getElem h, List.foldl_append]; rfl

theorem around_calls (a : Nat) (ms : List Nat) (b : Nat) (w : World) (ha : Num64 a) (hms : ∀ k (h : k < ms.length), Num64 ms[k]) (hlen : ms.length ≤ 10)
    (hcells : ∀ k (h : k < ms.length), w.cell? ⟨b, k, none⟩ = some (.float .f64 ms[k])) :
    Calls Try.prog 43 #[.float .f64 a, .slice (some ⟨b, 0, none⟩) ms.length ms.length] w fun e w' =>
      e = .returned (.agg #[.float .f32 (w32 (dn64 (minL a ms))), .float .f32 (w32 (up64 (maxL a ms)))]) ∧ w' = w.alloc (.cells #[.float .f32 (w32 (dn64 (minL a ms))), .float .f32 (w32 (up64 (maxL a ms)))] 28) := by
  go_enter Try.func43, Try.ntmps43
  go_wp2_with fail
  go_loop [5, 6, 13] (fun lo hi i => ∃ (k L H : Nat), k ≤ ms.length ∧ i = .int .i64 k ∧ lo = .float .f64 L ∧ hi = .float .f64 H ∧ Num64 L ∧ Num64 H ∧ i64 L = minL a (ms.take k) ∧ i64 H = maxL a (ms.take k)) (fun _ _ i => ms.length - (intOf i).toNat)
  case atStart => exact ⟨0, a, a, Nat.zero_le _, rfl, rfl, rfl, ha, ha, rfl, rfl⟩
  case round =>
    obtain ⟨k, L, H, hk, rfl, rfl, rfl, hL, hH, eL, eH⟩ := hrel
    have EL : Hid (i64 L = minL a (ms.take k)) := eL
    have EH : Hid (i64 H = maxL a (ms.take k)) := eH
    clear eL eH
    by_cases hlt : k < ms.length
    · have hm := hms k hlt
      have hc : ∀ o, (w.alloc o).cell? ⟨b, k, none⟩ = some (.float .f64 ms[k]) := by
        intro o
        rw [World.cell?_alloc_past]
        · exact hcells k hlt
        · exact block_lt_of_cell (hcells k hlt)
      have r1 := fun ts t w => run_min_f64 (P := Try.prog) hL hm ts t w
      have r2 := fun ts t w => run_max_f64 (P := Try.prog) hH hm ts t w
      have b1 : (k : Int) < (ms.length : Int) := by omega
      go_wp2_with fail
      go_round
      case rel =>
        obtain ⟨m1, m2⟩ := minW_ok hL hm
        obtain ⟨m3, m4⟩ := maxW_ok hH hm
        exact ⟨k + 1, minW L ms[k], maxW H ms[k], by omega, by go_num, rfl, rfl, m1, m3, by rw [m2, minL_snoc a ms k hlt, EL.out], by rw [m4, maxL_snoc a ms k hlt, EH.out]⟩
      case measure => simp [intOf]; omega
    · have hkl : k = ms.length := by omega
      have EL' : Hid (i64 L = minL a ms) := by show _ = _; rw [EL.out, hkl, List.take_length]
      have EH' : Hid (i64 H = maxL a ms) := by show _ = _; rw [EH.out, hkl, List.take_length]
      clear EL EH hkl
      go_wp2_with fail
      refine (down_calls hL _).mono ?_
      rintro e w1 ⟨rfl, rfl⟩
      go_wp2_with fail
      refine (upto_calls hH _).mono ?_
      rintro e w1 ⟨rfl, rfl⟩
      go_wp2_with fail
      rw [← EL'.out, ← EH'.out]
      exact bodyPost_ret (v := .agg #[.float .f32 (w32 (dn64 (i64 L))), .float .f32 (w32 (up64 (i64 H)))]) (by simp [results, Try.results43, go_sem]) rfl ⟨rfl, rfl⟩

theorem around3 {a p q r b : Nat} {w : World} (ha : Num64 a) (hp : Num64 p) (hq : Num64 q) (hr : Num64 r)
    (c0 : w.cell? ⟨b, 0, none⟩ = some (.float .f64 p)) (c1 : w.cell? ⟨b, 1, none⟩ = some (.float .f64 q)) (c2 : w.cell? ⟨b, 2, none⟩ = some (.float .f64 r)) :
    Calls Try.prog 43 #[.float .f64 a, .slice (some ⟨b, 0, none⟩) 3 3] w fun e w' =>
      e = .returned (.agg #[.float .f32 (w32 (dn64 (minL a [p, q, r]))), .float .f32 (w32 (up64 (maxL a [p, q, r])))]) ∧ w' = w.alloc (.cells #[.float .f32 (w32 (dn64 (minL a [p, q, r]))), .float .f32 (w32 (up64 (maxL a [p, q, r])))] 28) := by
  refine around_calls a [p, q, r] b w ha ?_ (by simp) ?_
  · intro k h
    match k, h with
    | 0, _ => exact hp
    | 1, _ => exact hq
    | 2, _ => exact hr
  · intro k h
    match k, h with
    | 0, _ => exact c0
    | 1, _ => exact c1
    | 2, _ => exact c2
theorem around1 {a p b : Nat} {w : World} (ha : Num64 a) (hp : Num64 p) (c0 : w.cell? ⟨b, 0, none⟩ = some (.float .f64 p)) :
    Calls Try.prog 43 #[.float .f64 a, .slice (some ⟨b, 0, none⟩) 1 1] w fun e w' =>
      e = .returned (.agg #[.float .f32 (w32 (dn64 (minL a [p]))), .float .f32 (w32 (up64 (maxL a [p])))]) ∧ w' = w.alloc (.cells #[.float .f32 (w32 (dn64 (minL a [p]))), .float .f32 (w32 (up64 (maxL a [p])))] 28) := by
  refine around_calls a [p] b w ha ?_ (by simp) ?_
  · intro k h
    match k, h with
    | 0, _ => exact hp
  · intro k h
    match k, h with
    | 0, _ => exact c0
end Go.Proofs.Ytakpfdhopodleaa
