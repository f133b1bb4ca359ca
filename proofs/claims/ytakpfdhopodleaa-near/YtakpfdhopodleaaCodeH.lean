import Derived.Test.YtakpfdhopodleaaCodeG
namespace Go.Proofs.Ytakpfdhopodleaa
open Go.ChangeShapes Go.WideShapes Go.ChangeAt Go.RowKit Hedge
set_option linter.unusedSimpArgs false
set_option linter.unusedVariables false

def minW (a b : Nat) : Nat := if i64 a < i64 b then a else if i64 b < i64 a then b else if (Ieee.double.read a).neg then a else b
def maxW (a b : Nat) : Nat := if i64 a < i64 b then b else if i64 b < i64 a then a else if (Ieee.double.read a).neg then b else a

theorem minW_ok {a b : Nat} (ha : Num64 a) (hb : Num64 b) : Num64 (minW a b) ∧ i64 (minW a b) = min (i64 a) (i64 b) := by
  unfold minW
  split
  · exact ⟨ha, by omega⟩
  · split
    · exact ⟨hb, by omega⟩
    · split
      · exact ⟨ha, by omega⟩
      · exact ⟨hb, by omega⟩
theorem maxW_ok {a b : Nat} (ha : Num64 a) (hb : Num64 b) : Num64 (maxW a b) ∧ i64 (maxW a b) = max (i64 a) (i64 b) := by
  unfold maxW
  split
  · exact ⟨hb, by omega⟩
  · split
    · exact ⟨ha, by omega⟩
    · split
      · exact ⟨hb, by omega⟩
      · exact ⟨ha, by omega⟩

theorem run_min_f64 {P : Program} {a b : Nat} (ha : Num64 a) (hb : Num64 b) (ts : Array TypeId) (t : TypeId) (w : World) :
    (Builtin.min_ ts t #[.float .f64 a, .float .f64 b]).run P w = .ok (.float .f64 (minW a b)) w := by
  unfold minW
  by_cases h1 : i64 a < i64 b
  · have o := o64_lt ha hb h1
    simp [Builtin.min_, Builtin.min2, o, h1]
  · by_cases h2 : i64 b < i64 a
    · have o := o64_gt ha hb h2
      simp [Builtin.min_, Builtin.min2, o, h1, h2]
    · have o : Ieee.double.order a b = some .eq := o64_eq ha hb (by omega)
      simp [Builtin.min_, Builtin.min2, o, h1, h2, FloatKind.decode, FloatKind.format]; rfl
theorem run_max_f64 {P : Program} {a b : Nat} (ha : Num64 a) (hb : Num64 b) (ts : Array TypeId) (t : TypeId) (w : World) :
    (Builtin.max_ ts t #[.float .f64 a, .float .f64 b]).run P w = .ok (.float .f64 (maxW a b)) w := by
  unfold maxW
  by_cases h1 : i64 a < i64 b
  · have o := o64_lt ha hb h1
    simp [Builtin.max_, Builtin.max2, o, h1]
  · by_cases h2 : i64 b < i64 a
    · have o := o64_gt ha hb h2
      simp [Builtin.max_, Builtin.max2, o, h1, h2]
    · have o : Ieee.double.order a b = some .eq := o64_eq ha hb (by omega)
      simp [Builtin.max_, Builtin.max2, o, h1, h2, FloatKind.decode, FloatKind.format]; rfl

def minL (a : Nat) (ms : List Nat) : Int := ms.foldl (fun c m => min c (i64 m)) (i64 a)
def maxL (a : Nat) (ms : List Nat) : Int := ms.foldl (fun c m => max c (i64 m)) (i64 a)
theorem minL_snoc (a : Nat) (ms : List Nat) (k : Nat) (h : k < ms.length) : minL a (ms.take (k + 1)) = min (minL a (ms.take k)) (i64 ms[k]) := by
  unfold minL; rw [List.take_succ_eq_append_getElem h, List.foldl_append]; rfl
theorem maxL_snoc (a : Nat) (ms : List Nat) (k : Nat) (h : k < ms.length) : maxL a (ms.take (k + 1)) = max (maxL a (ms.take k)) (i64 ms[k]) := by
  unfold maxL; rw [List.take_succ_eq_append_getElem h, List.foldl_append]; rfl

theorem around_calls (a : Nat) (ms : List Nat) (b : Nat) (w : World) (ha : Num64 a) (hms : ∀ k (h : k < ms.length), Num64 ms[k]) (hlen : ms.length ≤ 10)
    (hcells : ∀ k (h : k < ms.length), w.cell? ⟨b, k, none⟩ = some (.float .f64 ms[k])) :
    Calls Try.prog 43 #[.float .f64 a, .slice (some ⟨b, 0, none⟩) ms.length ms.length] w fun e w' =>
      e = .returned (.agg #[.float .f32 (w32 (dn64 (minL a ms))), .float .f32 (w32 (up64 (maxL a ms)))]) ∧ w' = w.alloc (.cells #[.float .f32 (w32 (dn64 (minL a ms))), .float .f32 (w32 (up64 (maxL a ms)))] 28) := by
  go_enter Try.func43, Try.ntmps43
  go_wp2_with fail
  go_loop [5, 6, 13] (fun lo hi i => ∃ (k L H : Nat), k ≤ ms.length ∧ i = .int .i64 k ∧ lo = .float .f64 L ∧ hi = .float .f64 H ∧ Num64 L ∧ Num64 H ∧ i64 L = minL a (ms.take k) ∧ i64 H = maxL a (ms.take k)) (fun _ _ i => ms.length - (intOf i).toNat)
  case atStart => exact ⟨0, a, a, Nat.zero_le _, rfl, rfl, rfl, ha, ha, rfl, rfl⟩
  case round =>
    obtain ⟨k, L, H, hk, rfl, rfl, rfl, hL, hH, eL, eH⟩ := hrel
    have EL : Hid (i64 L = minL a (ms.take k)) := eL
    have EH : Hid (i64 H = maxL a (ms.take k)) := eH
    clear eL eH
    by_cases hlt : k < ms.length
    · have hm := hms k hlt
      have hc : ∀ o, (w.alloc o).cell? ⟨b, k, none⟩ = some (.float .f64 ms[k]) := by
        intro o
        rw [World.cell?_alloc_past]
        · exact hcells k hlt
        · exact block_lt_of_cell (hcells k hlt)
      have r1 := fun ts t w => run_min_f64 (P := Try.prog) hL hm ts t w
      have r2 := fun ts t w => run_max_f64 (P := Try.prog) hH hm ts t w
      have b1 : (k : Int) < (ms.length : Int) := by omega
      go_wp2_with fail
      go_round
      case rel =>
        obtain ⟨m1, m2⟩ := minW_ok hL hm
        obtain ⟨m3, m4⟩ := maxW_ok hH hm
        exact ⟨k + 1, minW L ms[k], maxW H ms[k], by omega, by go_num, rfl, rfl, m1, m3, by rw [m2, minL_snoc a ms k hlt, EL.out], by rw [m4, maxL_snoc a ms k hlt, EH.out]⟩
      case measure => simp [intOf]; omega
    · have hkl : k = ms.length := by omega
      have EL' : Hid (i64 L = minL a ms) := by show _ = _; rw [EL.out, hkl, List.take_length]
      have EH' : Hid (i64 H = maxL a ms) := by show _ = _; rw [EH.out, hkl, List.take_length]
      clear EL EH hkl
      go_wp2_with fail
      refine (down_calls hL _).mono ?_
      rintro e w1 ⟨rfl, rfl⟩
      go_wp2_with fail
      refine (upto_calls hH _).mono ?_
      rintro e w1 ⟨rfl, rfl⟩
      go_wp2_with fail
      rw [← EL'.out, ← EH'.out]
      exact bodyPost_ret (v := .agg #[.float .f32 (w32 (dn64 (i64 L))), .float .f32 (w32 (up64 (i64 H)))]) (by simp [results, Try.results43, go_sem]) rfl ⟨rfl, rfl⟩

theorem around3 {a p q r b : Nat} {w : World} (ha : Num64 a) (hp : Num64 p) (hq : Num64 q) (hr : Num64 r)
    (c0 : w.cell? ⟨b, 0, none⟩ = some (.float .f64 p)) (c1 : w.cell? ⟨b, 1, none⟩ = some (.float .f64 q)) (c2 : w.cell? ⟨b, 2, none⟩ = some (.float .f64 r)) :
    Calls Try.prog 43 #[.float .f64 a, .slice (some ⟨b, 0, none⟩) 3 3] w fun e w' =>
      e = .returned (.agg #[.float .f32 (w32 (dn64 (minL a [p, q, r]))), .float .f32 (w32 (up64 (maxL a [p, q, r])))]) ∧ w' = w.alloc (.cells #[.float .f32 (w32 (dn64 (minL a [p, q, r]))), .float .f32 (w32 (up64 (maxL a [p, q, r])))] 28) := by
  refine around_calls a [p, q, r] b w ha ?_ (by simp) ?_
  · intro k h
    match k, h with
    | 0, _ => exact hp
    | 1, _ => exact hq
    | 2, _ => exact hr
  · intro k h
    match k, h with
    | 0, _ => exact c0
    | 1, _ => exact c1
    | 2, _ => exact c2
theorem around1 {a p b : Nat} {w : World} (ha : Num64 a) (hp : Num64 p) (c0 : w.cell? ⟨b, 0, none⟩ = some (.float .f64 p)) :
    Calls Try.prog 43 #[.float .f64 a, .slice (some ⟨b, 0, none⟩) 1 1] w fun e w' =>
      e = .returned (.agg #[.float .f32 (w32 (dn64 (minL a [p]))), .float .f32 (w32 (up64 (maxL a [p])))]) ∧ w' = w.alloc (.cells #[.float .f32 (w32 (dn64 (minL a [p]))), .float .f32 (w32 (up64 (maxL a [p])))] 28) := by
  refine around_calls a [p] b w ha ?_ (by simp) ?_
  · intro k h
    match k, h with
    | 0, _ => exact hp
  · intro k h
    match k, h with
    | 0, _ => exact c0
end Go.Proofs.Ytakpfdhopodleaa
