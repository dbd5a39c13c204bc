/-
  ClockBack: the walk. For every input the law returns true, and leaves memory as it was. No condition.
-/
import Derived.Test.YtfognjpbmpfpbaaClk
import Derived.Test.YtfognjpbmpfpbaaShown2
import Derived.Test.YtfognjpbmpfpbaaNFrame
namespace Go.Proofs.Ytfognjpbmpfpbaa
set_option linter.unusedVariables false
open Go.RowKit

theorem more_lo (a b : Int) (h : 0 ≤ a) (h1 : 0 ≤ b) : 0 ≤ moreV a b := by unfold moreV; split <;> omega
theorem more_hi (a b : Int) : moreV a b < 18446744073709551616 := by unfold moreV; split <;> omega
theorem sub_lo (a b : Int) : 0 ≤ subV a b := by unfold subV; split <;> omega
theorem sub_hi (a b : Int) (h : a < 18446744073709551616) (h1 : 0 ≤ b) : subV a b < 18446744073709551616 := by unfold subV; split <;> omega
theorem add_turn (a b : Int) : addV b a = addV a b ∧ addB b a = addB a b := by unfold addV addB; rw [show b + a = a + b from by omega]; exact ⟨rfl, rfl⟩
theorem more_row (a b c : Int) (ha : 0 ≤ a) (hb : 0 ≤ b) (hc : 0 ≤ c) (hc1 : c < 18446744073709551616) : moreV (moreV a b) c = moreV a (moreV b c) := by
  unfold moreV
  split <;> split <;> split <;> (try split) <;> omega
theorem less_row (a b c : Int) (ha : 0 ≤ a) (ha1 : a < 18446744073709551616) (hb : 0 ≤ b) (hc : 0 ≤ c) : subV (subV a b) c = subV a (moreV b c) := by
  unfold subV moreV
  split <;> split <;> split <;> (try split) <;> omega
theorem more_none (a : Int) (ha1 : a < 18446744073709551616) : moreV a 0 = a := by unfold moreV; split <;> omega
theorem sub_none (a : Int) (ha : 0 ≤ a) : subV a 0 = a := by unfold subV; split <;> omega
theorem sub_all (a : Int) : subV a a = 0 := by unfold subV; split <;> omega
theorem sub_is {a b c : Int} (h : b ≤ a) (h1 : a - b = c) : subV a b = c ∧ subB a b = true := by unfold subV subB; exact ⟨by rw [if_pos h, h1], decide_eq_true h⟩
theorem add_is {a b : Int} (h : a + b < 18446744073709551616) : addV a b = a + b := if_pos h

set_option maxHeartbeats 2000000 in
set_option maxRecDepth 100000 in
theorem back_walk (a b c : Int) (w : World) (ha0 : 0 ≤ a) (ha1 : a < 18446744073709551616) (hb0 : 0 ≤ b) (hb1 : b < 18446744073709551616) (hc0 : 0 ≤ c) (hc1 : c < 18446744073709551616) :
    Calls Try.prog 7 #[.int .u64 a, .int .u64 b, .int .u64 c] w fun e w' => e = .returned (.bool true) ∧ Below w.heap.size w w' := by
  apply same_below
  obtain ⟨t1, t2⟩ := add_turn a b
  have m1 := more_lo a b ha0 hb0
  have m2 := more_hi a b
  have m3 := more_lo b c hb0 hc0
  have m4 := more_hi b c
  have m5 := sub_lo a b
  have m6 := sub_hi a b ha1 hb0
  have r1 := more_row a b c ha0 hb0 hc0 hc1
  have r2 := less_row a b c ha0 ha1 hb0 hc0
  have n1 := more_none a ha1
  have n2 := sub_none a ha0
  have n3 := sub_all a
  rcases addB_cases a b with ⟨h, h1⟩ | ⟨h, h1⟩
  · have h2 := add_is h1
    obtain ⟨s1, s2⟩ := sub_is (a := a + b) (b := b) (c := a) (by omega) (by omega)
    obtain ⟨s3, s4⟩ := sub_is (a := a + b) (b := a) (c := b) (by omega) (by omega)
    go_enter Try.func7, Try.ntmps7
    go_wp2_with (first
      | (go_at_call 12; refine (shown2 _).mono ?_; rintro e w' ⟨rfl, rfl⟩)
      | (go_at_call 13; refine (add_any _ _ _ (by omega) (by omega) (by omega) (by omega)).mono ?_; rintro e w' ⟨rfl, rfl⟩)
      | (go_at_call 15; refine (sub_any _ _ _ (by omega) (by omega) (by omega) (by omega)).mono ?_; rintro e w' ⟨rfl, rfl⟩)
      | (go_at_call 17; refine (more_any _ _ _ (by omega) (by omega) (by omega) (by omega)).mono ?_; rintro e w' ⟨rfl, rfl⟩)
      | (go_at_call 18; refine (less_any _ _ _ (by omega) (by omega) (by omega) (by omega)).mono ?_; rintro e w' ⟨rfl, rfl⟩))
    go_ret
    exact ⟨rfl, rfl⟩
  · go_enter Try.func7, Try.ntmps7
    go_wp2_with (first
      | (go_at_call 12; refine (shown2 _).mono ?_; rintro e w' ⟨rfl, rfl⟩)
      | (go_at_call 13; refine (add_any _ _ _ (by omega) (by omega) (by omega) (by omega)).mono ?_; rintro e w' ⟨rfl, rfl⟩)
      | (go_at_call 15; refine (sub_any _ _ _ (by omega) (by omega) (by omega) (by omega)).mono ?_; rintro e w' ⟨rfl, rfl⟩)
      | (go_at_call 17; refine (more_any _ _ _ (by omega) (by omega) (by omega) (by omega)).mono ?_; rintro e w' ⟨rfl, rfl⟩)
      | (go_at_call 18; refine (less_any _ _ _ (by omega) (by omega) (by omega) (by omega)).mono ?_; rintro e w' ⟨rfl, rfl⟩))
    go_ret
    exact ⟨rfl, rfl⟩
end Go.Proofs.Ytfognjpbmpfpbaa
