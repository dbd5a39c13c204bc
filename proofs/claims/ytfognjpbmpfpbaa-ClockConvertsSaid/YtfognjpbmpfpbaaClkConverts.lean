/-
  ClockConverts: the walk. For every input the law returns true, and leaves memory as it was. No condition.
-/
import Derived.Test.YtfognjpbmpfpbaaClk
import Derived.Test.YtfognjpbmpfpbaaShown2
import Derived.Test.YtfognjpbmpfpbaaNFrame
namespace Go.Proofs.Ytfognjpbmpfpbaa
set_option linter.unusedVariables false
open Go.RowKit

theorem c32_yes {n : Int} (h : n < 4294967296) : c32V n = n ∧ c32B n = true := by unfold c32V c32B; exact ⟨if_pos h, decide_eq_true h⟩
theorem c32_no {n : Int} (h : ¬ n < 4294967296) : c32V n = 0 ∧ c32B n = false := by unfold c32V c32B; exact ⟨if_neg h, decide_eq_false h⟩
theorem c63_yes {n : Int} (h : n < 9223372036854775808) : c63V n = n ∧ c63B n = true := by unfold c63V c63B; exact ⟨if_pos h, decide_eq_true h⟩
theorem c63_no {n : Int} (h : ¬ n < 9223372036854775808) : c63V n = 0 ∧ c63B n = false := by unfold c63V c63B; exact ⟨if_neg h, decide_eq_false h⟩
theorem cup_yes {n : Int} (h : 0 ≤ n) : cupV n = n ∧ cupB n = true := by unfold cupV cupB; exact ⟨if_pos h, decide_eq_true h⟩
theorem cup_no {n : Int} (h : ¬ 0 ≤ n) : cupV n = 0 ∧ cupB n = false := by unfold cupV cupB; exact ⟨if_neg h, decide_eq_false h⟩

set_option maxHeartbeats 2000000 in
set_option maxRecDepth 100000 in
theorem converts_walk (n m : Int) (w : World) (hn0 : 0 ≤ n) (hn1 : n < 18446744073709551616) (hm0 : -9223372036854775808 ≤ m) (hm1 : m ≤ 9223372036854775807) :
    Calls Try.prog 6 #[.int .u64 n, .int .i64 m] w fun e w' => e = .returned (.bool true) ∧ Below w.heap.size w w' := by
  apply same_below
  by_cases a : n < 4294967296
  · obtain ⟨a1, a2⟩ := c32_yes a
    obtain ⟨b1, b2⟩ := c63_yes (n := n) (by omega)
    have b : n < 9223372036854775808 := by omega
    by_cases c : 0 ≤ m
    · obtain ⟨c1, c2⟩ := cup_yes c
      go_enter Try.func6, Try.ntmps6
      go_wp2_with (first
        | (go_at_call 12; refine (shown2 _).mono ?_; rintro e w' ⟨rfl, rfl⟩)
        | (go_at_call 24; refine (to32_any _ _ (by omega) (by omega)).mono ?_; rintro e w' ⟨rfl, rfl⟩)
        | (go_at_call 25; refine (toi64_any _ _ (by omega) (by omega)).mono ?_; rintro e w' ⟨rfl, rfl⟩)
        | (go_at_call 26; refine (fromi64_any _ _ (by omega) (by omega)).mono ?_; rintro e w' ⟨rfl, rfl⟩))
      go_ret
      exact ⟨rfl, rfl⟩
    · obtain ⟨c1, c2⟩ := cup_no c
      go_enter Try.func6, Try.ntmps6
      go_wp2_with (first
        | (go_at_call 12; refine (shown2 _).mono ?_; rintro e w' ⟨rfl, rfl⟩)
        | (go_at_call 24; refine (to32_any _ _ (by omega) (by omega)).mono ?_; rintro e w' ⟨rfl, rfl⟩)
        | (go_at_call 25; refine (toi64_any _ _ (by omega) (by omega)).mono ?_; rintro e w' ⟨rfl, rfl⟩)
        | (go_at_call 26; refine (fromi64_any _ _ (by omega) (by omega)).mono ?_; rintro e w' ⟨rfl, rfl⟩))
      go_ret
      exact ⟨rfl, rfl⟩
  · obtain ⟨a1, a2⟩ := c32_no a
    by_cases b : n < 9223372036854775808
    · obtain ⟨b1, b2⟩ := c63_yes b
      by_cases c : 0 ≤ m
      · obtain ⟨c1, c2⟩ := cup_yes c
        go_enter Try.func6, Try.ntmps6
        go_wp2_with (first
          | (go_at_call 12; refine (shown2 _).mono ?_; rintro e w' ⟨rfl, rfl⟩)
          | (go_at_call 24; refine (to32_any _ _ (by omega) (by omega)).mono ?_; rintro e w' ⟨rfl, rfl⟩)
          | (go_at_call 25; refine (toi64_any _ _ (by omega) (by omega)).mono ?_; rintro e w' ⟨rfl, rfl⟩)
          | (go_at_call 26; refine (fromi64_any _ _ (by omega) (by omega)).mono ?_; rintro e w' ⟨rfl, rfl⟩))
        go_ret
        exact ⟨rfl, rfl⟩
      · obtain ⟨c1, c2⟩ := cup_no c
        go_enter Try.func6, Try.ntmps6
        go_wp2_with (first
          | (go_at_call 12; refine (shown2 _).mono ?_; rintro e w' ⟨rfl, rfl⟩)
          | (go_at_call 24; refine (to32_any _ _ (by omega) (by omega)).mono ?_; rintro e w' ⟨rfl, rfl⟩)
          | (go_at_call 25; refine (toi64_any _ _ (by omega) (by omega)).mono ?_; rintro e w' ⟨rfl, rfl⟩)
          | (go_at_call 26; refine (fromi64_any _ _ (by omega) (by omega)).mono ?_; rintro e w' ⟨rfl, rfl⟩))
        go_ret
        exact ⟨rfl, rfl⟩
    · obtain ⟨b1, b2⟩ := c63_no b
      by_cases c : 0 ≤ m
      · obtain ⟨c1, c2⟩ := cup_yes c
        go_enter Try.func6, Try.ntmps6
        go_wp2_with (first
          | (go_at_call 12; refine (shown2 _).mono ?_; rintro e w' ⟨rfl, rfl⟩)
          | (go_at_call 24; refine (to32_any _ _ (by omega) (by omega)).mono ?_; rintro e w' ⟨rfl, rfl⟩)
          | (go_at_call 25; refine (toi64_any _ _ (by omega) (by omega)).mono ?_; rintro e w' ⟨rfl, rfl⟩)
          | (go_at_call 26; refine (fromi64_any _ _ (by omega) (by omega)).mono ?_; rintro e w' ⟨rfl, rfl⟩))
        go_ret
        exact ⟨rfl, rfl⟩
      · obtain ⟨c1, c2⟩ := cup_no c
        go_enter Try.func6, Try.ntmps6
        go_wp2_with (first
          | (go_at_call 12; refine (shown2 _).mono ?_; rintro e w' ⟨rfl, rfl⟩)
          | (go_at_call 24; refine (to32_any _ _ (by omega) (by omega)).mono ?_; rintro e w' ⟨rfl, rfl⟩)
          | (go_at_call 25; refine (toi64_any _ _ (by omega) (by omega)).mono ?_; rintro e w' ⟨rfl, rfl⟩)
          | (go_at_call 26; refine (fromi64_any _ _ (by omega) (by omega)).mono ?_; rintro e w' ⟨rfl, rfl⟩))
        go_ret
        exact ⟨rfl, rfl⟩
end Go.Proofs.Ytfognjpbmpfpbaa
