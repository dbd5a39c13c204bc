/-
  ClockOrder: the walk. For every input the law returns true, and leaves memory as it was. No condition.
-/
import Derived.Test.YtfognjpbmpfpbaaClk
import Derived.Test.YtfognjpbmpfpbaaShown2
import Derived.Test.YtfognjpbmpfpbaaNFrame
namespace Go.Proofs.Ytfognjpbmpfpbaa
set_option linter.unusedVariables false
open Go.RowKit

theorem sho_yes {t b : Int} (h : 0 ≤ t + b) (h1 : t + b < 18446744073709551616) : shV t b = t + b ∧ shB t b = true := by
  unfold shV shB; exact ⟨if_pos ⟨h, h1⟩, decide_eq_true ⟨h, h1⟩⟩
theorem sho_no {t b : Int} (h : ¬ (0 ≤ t + b ∧ t + b < 18446744073709551616)) : shV t b = 0 ∧ shB t b = false := by
  unfold shV shB; exact ⟨if_neg h, decide_eq_false h⟩

set_option maxHeartbeats 2000000 in
set_option maxRecDepth 100000 in
theorem order_walk (a b s : Int) (w : World) (ha0 : 0 ≤ a) (ha1 : a < 18446744073709551616) (hb0 : 0 ≤ b) (hb1 : b < 18446744073709551616) (hs0 : -9223372036854775808 ≤ s) (hs1 : s ≤ 9223372036854775807) :
    Calls Try.prog 8 #[.int .u64 a, .int .u64 b, .int .i64 s] w fun e w' => e = .returned (.bool true) ∧ Below w.heap.size w w' := by
  apply same_below
  by_cases h : 0 ≤ a + s ∧ a + s < 18446744073709551616
  · obtain ⟨h1, h2⟩ := sho_yes h.1 h.2
    obtain ⟨h3, h4⟩ := h
    by_cases g : 0 ≤ b + s ∧ b + s < 18446744073709551616
    · obtain ⟨g1, g2⟩ := sho_yes g.1 g.2
      obtain ⟨g3, g4⟩ := g
      have d1 : decide (a + s < b + s) = decide (a < b) := by simp
      have d2 : a + s - (b + s) = a - b := by omega
      go_enter Try.func8, Try.ntmps8
      go_wp2_with (first
        | (go_at_call 12; refine (shown2 _).mono ?_; rintro e w' ⟨rfl, rfl⟩)
        | (go_at_call 19; refine (shift_any _ _ _ (by omega) (by omega) (by omega) (by omega)).mono ?_; rintro e w' ⟨rfl, rfl⟩))
      go_ret
      exact ⟨rfl, rfl⟩
    · obtain ⟨g1, g2⟩ := sho_no g
      clear g
      go_enter Try.func8, Try.ntmps8
      go_wp2_with (first
        | (go_at_call 12; refine (shown2 _).mono ?_; rintro e w' ⟨rfl, rfl⟩)
        | (go_at_call 19; refine (shift_any _ _ _ (by omega) (by omega) (by omega) (by omega)).mono ?_; rintro e w' ⟨rfl, rfl⟩))
      go_ret
      exact ⟨rfl, rfl⟩
  · obtain ⟨h1, h2⟩ := sho_no h
    clear h
    by_cases g : shB b s = true
    · go_enter Try.func8, Try.ntmps8
      go_wp2_with (first
        | (go_at_call 12; refine (shown2 _).mono ?_; rintro e w' ⟨rfl, rfl⟩)
        | (go_at_call 19; refine (shift_any _ _ _ (by omega) (by omega) (by omega) (by omega)).mono ?_; rintro e w' ⟨rfl, rfl⟩))
      go_ret
      exact ⟨rfl, rfl⟩
    · have g1 : shB b s = false := by simpa using g
      clear g
      go_enter Try.func8, Try.ntmps8
      go_wp2_with (first
        | (go_at_call 12; refine (shown2 _).mono ?_; rintro e w' ⟨rfl, rfl⟩)
        | (go_at_call 19; refine (shift_any _ _ _ (by omega) (by omega) (by omega) (by omega)).mono ?_; rintro e w' ⟨rfl, rfl⟩))
      go_ret
      exact ⟨rfl, rfl⟩
end Go.Proofs.Ytfognjpbmpfpbaa
