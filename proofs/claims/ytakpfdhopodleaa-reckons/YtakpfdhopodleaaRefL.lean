import Derived.Test.YtakpfdhopodleaaRefL1
import Derived.Test.YtakpfdhopodleaaRefL2
import Derived.Test.YtakpfdhopodleaaRefL3
namespace Go.Proofs.Ytakpfdhopodleaa
open Go.ChangeShapes Go.WideShapes Go.ChangeAt Go.RowKit Hedge
set_option linter.unusedSimpArgs false
set_option linter.unusedVariables false
set_option linter.unnecessarySimpa false

theorem sg_zero {k : Int} : sg k = 0 ↔ k = 0 := by
  unfold sg
  constructor
  · intro h
    by_cases h1 : k < 0
    · rw [if_pos h1] at h; omega
    · rw [if_neg h1] at h
      by_cases h2 : k = 0
      · exact h2
      · rw [if_neg h2] at h; omega
  · intro h; rw [if_neg (by omega), if_pos h]
theorem sg_neg {k : Int} : sg k = -1 ↔ k < 0 := by
  unfold sg
  constructor
  · intro h
    by_cases h1 : k < 0
    · exact h1
    · rw [if_neg h1] at h
      by_cases h2 : k = 0
      · rw [if_pos h2] at h; omega
      · rw [if_neg h2] at h; omega
  · intro h; rw [if_pos h]
theorem below_calls {i j : Int} (i1 : -I ≤ i) (i2 : i ≤ I) (j1 : -I ≤ j) (j2 : j ≤ I) (w : World) :
    Calls Try.prog 66 #[numV i, numV j] w fun e w' => e = .returned (.bool (decide (i < j))) ∧ Below w.heap.size w w' := by
  by_cases hs : sg i = sg j
  · by_cases h0 : i = 0
    · subst h0
      have : j = 0 := by
        have h1 : sg 0 = 0 := sg_zero.2 rfl
        rw [h1] at hs
        exact sg_zero.1 hs.symm
      subst this
      simpa using below_00 w
    · have hj0 : j ≠ 0 := by
        intro h; subst h
        have h1 : sg 0 = 0 := sg_zero.2 rfl
        rw [h1] at hs
        exact h0 (sg_zero.1 hs)
      obtain ⟨n1, M1, E1, f1, hi⟩ := nz_of i1 i2 h0
      obtain ⟨n2, M2, E2, f2, hj⟩ := nz_of j1 j2 hj0
      have hn : n1 = n2 := by
        have a := hi.sgk
        have b := hj.sgk
        have : (i < 0) ↔ (j < 0) := by
          rw [← sg_neg, ← sg_neg, hs]
        cases n1 <;> cases n2 <;> simp_all
      subst hn
      rw [hi.is, hj.is]
      cases n1
      · cases f1
        · cases f2
          · have e : decide (i < j) = decide (rungOf M1 E1 < rungOf M2 E2) := by
              rw [(hi.ifF rfl).1, (hj.ifF rfl).1]; simp [sgn]
            rw [e]; exact below_fin M1 M2 E1 E2 i j hi hj w
          · have e : decide (i < j) = true := by
              have := hi.ifF rfl
              rw [(hi.ifF rfl).1, hj.ifI rfl]; simp [sgn]; unfold rungOf I32; omega
            rw [e]; exact below_inf2 M1 M2 E1 E2 i j hi hj w
        · have e : decide (i < j) = false := by
            have := hj.hi
            rw [hi.ifI rfl]; rw [I_nat] at this; simp [sgn]; omega
          rw [e]; exact below_inf1 M1 M2 E1 E2 i j f2 hi hj w
      · cases f2
        · cases f1
          · have e : decide (i < j) = decide (rungOf M2 E2 < rungOf M1 E1) := by
              rw [(hi.ifF rfl).1, (hj.ifF rfl).1]; simp [sgn]
            rw [e]; exact belowN_fin M1 M2 E1 E2 i j hi hj w
          · have e : decide (i < j) = true := by
              have := hj.ifF rfl
              rw [(hj.ifF rfl).1, hi.ifI rfl]; simp [sgn]; unfold rungOf I32; omega
            rw [e]; exact belowN_inf2 M1 M2 E1 E2 i j hi hj w
        · have e : decide (i < j) = false := by
            have := hi.lo
            rw [hj.ifI rfl]; rw [I_nat] at this; simp [sgn]; omega
          rw [e]; exact belowN_inf1 M1 M2 E1 E2 i j f1 hi hj w
  · exact below_diff i1 i2 j1 j2 hs w
end Go.Proofs.Ytakpfdhopodleaa
