/-
  ClockWindow: the walk. For every input the law returns true, and leaves memory as it was. No condition.
-/
import Derived.Test.YtfognjpbmpfpbaaClk
import Derived.Test.YtfognjpbmpfpbaaShown2
import Derived.Test.YtfognjpbmpfpbaaNFrame
namespace Go.Proofs.Ytfognjpbmpfpbaa
set_option linter.unusedVariables false
open Go.RowKit

theorem less_row2 (t : Int) {x y : Int} (h : x ≤ y) : subV t y ≤ subV t x := by unfold subV; split <;> split <;> omega
theorem more_row2 (t : Int) {x y : Int} (h : x ≤ y) : moreV t x ≤ moreV t y := by unfold moreV; split <;> split <;> omega
theorem less_le (t x : Int) (h : 0 ≤ t) (h1 : 0 ≤ x) : subV t x ≤ t := by unfold subV; split <;> omega
theorem more_le (t x : Int) (h : t < 18446744073709551616) (h1 : 0 ≤ x) : t ≤ moreV t x := by unfold moreV; split <;> omega

set_option maxHeartbeats 2000000 in
set_option maxRecDepth 100000 in
theorem window_walk (t a b : Int) (w : World) (ht0 : 0 ≤ t) (ht1 : t < 18446744073709551616) (ha0 : 0 ≤ a) (ha1 : a < 18446744073709551616) (hb0 : 0 ≤ b) (hb1 : b < 18446744073709551616) :
    Calls Try.prog 10 #[.int .u64 t, .int .u64 a, .int .u64 b] w fun e w' => e = .returned (.bool true) ∧ Below w.heap.size w w' := by
  apply same_below
  have p1 := less_le t a ht0 ha0
  have p2 := less_le t b ht0 hb0
  have p3 := more_le t a ht1 ha0
  have p4 := more_le t b ht1 hb0
  by_cases h : a < b
  · have q1 := less_row2 t (Int.le_of_lt h)
    have q2 := more_row2 t (Int.le_of_lt h)
    go_enter Try.func10, Try.ntmps10
    go_wp2_with (first
      | (go_at_call 12; refine (shown2 _).mono ?_; rintro e w' ⟨rfl, rfl⟩)
      | (go_at_call 17; refine (more_any _ _ _ (by omega) (by omega) (by omega) (by omega)).mono ?_; rintro e w' ⟨rfl, rfl⟩)
      | (go_at_call 18; refine (less_any _ _ _ (by omega) (by omega) (by omega) (by omega)).mono ?_; rintro e w' ⟨rfl, rfl⟩))
    go_ret
    exact ⟨rfl, rfl⟩
  · by_cases g : b < a
    · have q1 := less_row2 t (Int.le_of_lt g)
      have q2 := more_row2 t (Int.le_of_lt g)
      go_enter Try.func10, Try.ntmps10
      go_wp2_with (first
        | (go_at_call 12; refine (shown2 _).mono ?_; rintro e w' ⟨rfl, rfl⟩)
        | (go_at_call 17; refine (more_any _ _ _ (by omega) (by omega) (by omega) (by omega)).mono ?_; rintro e w' ⟨rfl, rfl⟩)
        | (go_at_call 18; refine (less_any _ _ _ (by omega) (by omega) (by omega) (by omega)).mono ?_; rintro e w' ⟨rfl, rfl⟩))
      go_ret
      exact ⟨rfl, rfl⟩
    · obtain rfl : b = a := by omega
      go_enter Try.func10, Try.ntmps10
      go_wp2_with (first
        | (go_at_call 12; refine (shown2 _).mono ?_; rintro e w' ⟨rfl, rfl⟩)
        | (go_at_call 17; refine (more_any _ _ _ (by omega) (by omega) (by omega) (by omega)).mono ?_; rintro e w' ⟨rfl, rfl⟩)
        | (go_at_call 18; refine (less_any _ _ _ (by omega) (by omega) (by omega) (by omega)).mono ?_; rintro e w' ⟨rfl, rfl⟩))
      go_ret
      exact ⟨rfl, rfl⟩
end Go.Proofs.Ytfognjpbmpfpbaa
