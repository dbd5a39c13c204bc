/-
  ClockShifts: the walk. For every input the law returns true, and leaves memory as it was. No condition.
-/
import Derived.Test.YtfognjpbmpfpbaaClk
import Derived.Test.YtfognjpbmpfpbaaShown2
import Derived.Test.YtfognjpbmpfpbaaNFrame
namespace Go.Proofs.Ytfognjpbmpfpbaa
set_option linter.unusedVariables false
open Go.RowKit

theorem sh_yes {t b : Int} (h : 0 ≤ t + b) (h1 : t + b < 18446744073709551616) : shV t b = t + b ∧ shB t b = true := by
  unfold shV shB; exact ⟨if_pos ⟨h, h1⟩, decide_eq_true ⟨h, h1⟩⟩
theorem sh_no {t b : Int} (h : ¬ (0 ≤ t + b ∧ t + b < 18446744073709551616)) : shV t b = 0 ∧ shB t b = false := by
  unfold shV shB; exact ⟨if_neg h, decide_eq_false h⟩

set_option maxHeartbeats 2000000 in
set_option maxRecDepth 100000 in
theorem shifts_walk (t b : Int) (w : World) (ht0 : 0 ≤ t) (ht1 : t < 18446744073709551616) (hb0 : -9223372036854775808 ≤ b) (hb1 : b ≤ 9223372036854775807) :
    Calls Try.prog 4 #[.int .u64 t, .int .i64 b] w fun e w' => e = .returned (.bool true) ∧ Below w.heap.size w w' := by
  apply same_below
  by_cases h : 0 ≤ t + b ∧ t + b < 18446744073709551616
  · obtain ⟨h1, h2⟩ := sh_yes h.1 h.2
    obtain ⟨h3, h4⟩ := h
    by_cases g : b = -9223372036854775808
    · have g1 : (b == -9223372036854775808) = true := by simpa using g
      clear g
      go_enter Try.func4, Try.ntmps4
      go_wp2_with (first
        | (go_at_call 12; refine (shown2 _).mono ?_; rintro e w' ⟨rfl, rfl⟩)
        | (go_at_call 19; refine (shift_any _ _ _ (by omega) (by omega) (by omega) (by omega)).mono ?_; rintro e w' ⟨rfl, rfl⟩)
        | (go_at_call 20; refine (rshift_any _ _ _ (by omega) (by omega) (by omega) (by omega)).mono ?_; rintro e w' ⟨rfl, rfl⟩))
      go_ret
      exact ⟨rfl, rfl⟩
    · have g1 : (b == -9223372036854775808) = false := by simpa using g
      have g2 : -9223372036854775808 < b := by omega
      obtain ⟨h5, h6⟩ := sh_yes (t := t + b) (b := -b) (by omega) (by omega)
      rw [show t + b + -b = t from by omega] at h5
      clear g
      go_enter Try.func4, Try.ntmps4
      go_wp2_with (first
        | (go_at_call 12; refine (shown2 _).mono ?_; rintro e w' ⟨rfl, rfl⟩)
        | (go_at_call 19; refine (shift_any _ _ _ (by omega) (by omega) (by omega) (by omega)).mono ?_; rintro e w' ⟨rfl, rfl⟩)
        | (go_at_call 20; refine (rshift_any _ _ _ (by omega) (by omega) (by omega) (by omega)).mono ?_; rintro e w' ⟨rfl, rfl⟩))
      go_ret
      exact ⟨rfl, rfl⟩
  · obtain ⟨h1, h2⟩ := sh_no h
    clear h
    go_enter Try.func4, Try.ntmps4
    go_wp2_with (first
      | (go_at_call 12; refine (shown2 _).mono ?_; rintro e w' ⟨rfl, rfl⟩)
      | (go_at_call 19; refine (shift_any _ _ _ (by omega) (by omega) (by omega) (by omega)).mono ?_; rintro e w' ⟨rfl, rfl⟩)
      | (go_at_call 20; refine (rshift_any _ _ _ (by omega) (by omega) (by omega) (by omega)).mono ?_; rintro e w' ⟨rfl, rfl⟩))
    go_ret
    exact ⟨rfl, rfl⟩
end Go.Proofs.Ytfognjpbmpfpbaa
