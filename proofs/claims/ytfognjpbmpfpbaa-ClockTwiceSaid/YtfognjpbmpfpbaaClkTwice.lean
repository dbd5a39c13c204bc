/-
  ClockTwice: the walk. For every input the law returns true, and leaves memory as it was. No condition.
-/
import Derived.Test.YtfognjpbmpfpbaaClk
import Derived.Test.YtfognjpbmpfpbaaShown2
import Derived.Test.YtfognjpbmpfpbaaNFrame
namespace Go.Proofs.Ytfognjpbmpfpbaa
set_option linter.unusedVariables false
open Go.RowKit

theorem shw_yes {t b : Int} (h : 0 ≤ t + b) (h1 : t + b < 18446744073709551616) : shV t b = t + b ∧ shB t b = true := by
  unfold shV shB; exact ⟨if_pos ⟨h, h1⟩, decide_eq_true ⟨h, h1⟩⟩
theorem shw_no {t b : Int} (h : ¬ (0 ≤ t + b ∧ t + b < 18446744073709551616)) : shV t b = 0 ∧ shB t b = false := by
  unfold shV shB; exact ⟨if_neg h, decide_eq_false h⟩

theorem half (x : Int) (h : -9223372036854775808 ≤ x) (h1 : x ≤ 9223372036854775807) : ∃ p, x.tdiv 2 = p ∧ -4611686018427387904 ≤ p ∧ p ≤ 4611686018427387903 := by
  by_cases g : 0 ≤ x
  · exact ⟨x / 2, Int.tdiv_eq_ediv_of_nonneg g, by omega, by omega⟩
  · refine ⟨-((-x) / 2), ?_, by omega, by omega⟩
    rw [← Int.tdiv_eq_ediv_of_nonneg (show 0 ≤ -x from by omega), Int.neg_tdiv, Int.neg_neg]
theorem shw_two (t p q : Int) : shV (t + p) q = shV t (p + q) ∧ shB (t + p) q = shB t (p + q) := by unfold shV shB; rw [show t + p + q = t + (p + q) from by omega]; exact ⟨rfl, rfl⟩

set_option maxHeartbeats 2000000 in
set_option maxRecDepth 100000 in
theorem twice_walk (t x y : Int) (w : World) (ht0 : 0 ≤ t) (ht1 : t < 18446744073709551616) (hx0 : -9223372036854775808 ≤ x) (hx1 : x ≤ 9223372036854775807) (hy0 : -9223372036854775808 ≤ y) (hy1 : y ≤ 9223372036854775807) :
    Calls Try.prog 9 #[.int .u64 t, .int .i64 x, .int .i64 y] w fun e w' => e = .returned (.bool true) ∧ Below w.heap.size w w' := by
  apply same_below
  obtain ⟨p, hp, hp0, hp1⟩ := half x hx0 hx1
  obtain ⟨q, hq, hq0, hq1⟩ := half y hy0 hy1
  by_cases dp : p < 0
  · have dp1 : decide (p < 0) = true := decide_eq_true dp
    by_cases dq : q < 0
    · have dq1 : decide (q < 0) = true := decide_eq_true dq
      by_cases h : 0 ≤ t + p ∧ t + p < 18446744073709551616
      · obtain ⟨h1, h2⟩ := shw_yes h.1 h.2
        obtain ⟨h3, h4⟩ := h
        obtain ⟨h5, h6⟩ := shw_two t p (q)
        go_enter Try.func9, Try.ntmps9
        go_wp2_with (first
          | (go_at_call 12; refine (shown2 _).mono ?_; rintro e w' ⟨rfl, rfl⟩)
          | (go_at_call 19; refine (shift_any _ _ _ (by omega) (by omega) (by omega) (by omega)).mono ?_; rintro e w' ⟨rfl, rfl⟩))
        go_ret
        exact ⟨rfl, rfl⟩
      · obtain ⟨h1, h2⟩ := shw_no h
        obtain ⟨h5, h6⟩ := shw_no (t := t) (b := p + q) (by omega)
        clear h
        go_enter Try.func9, Try.ntmps9
        go_wp2_with (first
          | (go_at_call 12; refine (shown2 _).mono ?_; rintro e w' ⟨rfl, rfl⟩)
          | (go_at_call 19; refine (shift_any _ _ _ (by omega) (by omega) (by omega) (by omega)).mono ?_; rintro e w' ⟨rfl, rfl⟩))
        go_ret
        exact ⟨rfl, rfl⟩
    · have dq1 : decide (q < 0) = false := decide_eq_false dq
      by_cases h : 0 ≤ t + p ∧ t + p < 18446744073709551616
      · obtain ⟨h1, h2⟩ := shw_yes h.1 h.2
        obtain ⟨h3, h4⟩ := h
        obtain ⟨h5, h6⟩ := shw_two t p (-q)
        go_enter Try.func9, Try.ntmps9
        go_wp2_with (first
          | (go_at_call 12; refine (shown2 _).mono ?_; rintro e w' ⟨rfl, rfl⟩)
          | (go_at_call 19; refine (shift_any _ _ _ (by omega) (by omega) (by omega) (by omega)).mono ?_; rintro e w' ⟨rfl, rfl⟩))
        go_ret
        exact ⟨rfl, rfl⟩
      · obtain ⟨h1, h2⟩ := shw_no h
        obtain ⟨h5, h6⟩ := shw_no (t := t) (b := p + -q) (by omega)
        clear h
        go_enter Try.func9, Try.ntmps9
        go_wp2_with (first
          | (go_at_call 12; refine (shown2 _).mono ?_; rintro e w' ⟨rfl, rfl⟩)
          | (go_at_call 19; refine (shift_any _ _ _ (by omega) (by omega) (by omega) (by omega)).mono ?_; rintro e w' ⟨rfl, rfl⟩))
        go_ret
        exact ⟨rfl, rfl⟩
  · have dp1 : decide (p < 0) = false := decide_eq_false dp
    by_cases dq : q < 0
    · have dq1 : decide (q < 0) = true := decide_eq_true dq
      by_cases h : 0 ≤ t + p ∧ t + p < 18446744073709551616
      · obtain ⟨h1, h2⟩ := shw_yes h.1 h.2
        obtain ⟨h3, h4⟩ := h
        obtain ⟨h5, h6⟩ := shw_two t p (-q)
        go_enter Try.func9, Try.ntmps9
        go_wp2_with (first
          | (go_at_call 12; refine (shown2 _).mono ?_; rintro e w' ⟨rfl, rfl⟩)
          | (go_at_call 19; refine (shift_any _ _ _ (by omega) (by omega) (by omega) (by omega)).mono ?_; rintro e w' ⟨rfl, rfl⟩))
        go_ret
        exact ⟨rfl, rfl⟩
      · obtain ⟨h1, h2⟩ := shw_no h
        obtain ⟨h5, h6⟩ := shw_no (t := t) (b := p + -q) (by omega)
        clear h
        go_enter Try.func9, Try.ntmps9
        go_wp2_with (first
          | (go_at_call 12; refine (shown2 _).mono ?_; rintro e w' ⟨rfl, rfl⟩)
          | (go_at_call 19; refine (shift_any _ _ _ (by omega) (by omega) (by omega) (by omega)).mono ?_; rintro e w' ⟨rfl, rfl⟩))
        go_ret
        exact ⟨rfl, rfl⟩
    · have dq1 : decide (q < 0) = false := decide_eq_false dq
      by_cases h : 0 ≤ t + p ∧ t + p < 18446744073709551616
      · obtain ⟨h1, h2⟩ := shw_yes h.1 h.2
        obtain ⟨h3, h4⟩ := h
        obtain ⟨h5, h6⟩ := shw_two t p (q)
        go_enter Try.func9, Try.ntmps9
        go_wp2_with (first
          | (go_at_call 12; refine (shown2 _).mono ?_; rintro e w' ⟨rfl, rfl⟩)
          | (go_at_call 19; refine (shift_any _ _ _ (by omega) (by omega) (by omega) (by omega)).mono ?_; rintro e w' ⟨rfl, rfl⟩))
        go_ret
        exact ⟨rfl, rfl⟩
      · obtain ⟨h1, h2⟩ := shw_no h
        obtain ⟨h5, h6⟩ := shw_no (t := t) (b := p + q) (by omega)
        clear h
        go_enter Try.func9, Try.ntmps9
        go_wp2_with (first
          | (go_at_call 12; refine (shown2 _).mono ?_; rintro e w' ⟨rfl, rfl⟩)
          | (go_at_call 19; refine (shift_any _ _ _ (by omega) (by omega) (by omega) (by omega)).mono ?_; rintro e w' ⟨rfl, rfl⟩))
        go_ret
        exact ⟨rfl, rfl⟩
end Go.Proofs.Ytfognjpbmpfpbaa
