/-
  ClockEpochs: the walk. For every input the law returns true, and leaves memory as it was. No condition.
-/
import Derived.Test.YtfognjpbmpfpbaaClk
import Derived.Test.YtfognjpbmpfpbaaShown2
import Derived.Test.YtfognjpbmpfpbaaNFrame
namespace Go.Proofs.Ytfognjpbmpfpbaa
set_option linter.unusedVariables false
open Go.RowKit

theorem ep_yes {t n : Int} (h : t / 1000 = n) (h1 : n < 4294967296) : epV t = n ∧ epB t = true := by
  unfold epV epB; rw [h]; exact ⟨if_pos h1, decide_eq_true h1⟩
theorem ep_no {t : Int} (h : ¬ t / 1000 < 4294967296) : epV t = 0 ∧ epB t = false := by unfold epV epB; exact ⟨if_neg h, decide_eq_false h⟩

set_option maxHeartbeats 2000000 in
set_option maxRecDepth 100000 in
theorem epochs_walk (t p : Int) (w : World) (ht0 : 0 ≤ t) (ht1 : t < 18446744073709551616) (hp0 : 0 ≤ p) (hp1 : p < 4294967296) :
    Calls Try.prog 5 #[.int .u64 t, .int .u32 p] w fun e w' => e = .returned (.bool true) ∧ Below w.heap.size w w' := by
  apply same_below
  obtain ⟨s1, s2⟩ := ep_yes (t := p * 1000) (n := p) (by omega) (by omega)
  obtain ⟨r1, r2⟩ := ep_yes (t := p * 1000 + 999) (n := p) (by omega) (by omega)
  have hm : 1000 * p = p * 1000 := by omega
  by_cases h : t / 1000 < 4294967296
  · obtain ⟨n, hn⟩ : ∃ n, t / 1000 = n := ⟨_, rfl⟩
    rw [hn] at h
    obtain ⟨h1, h2⟩ := ep_yes hn h
    have g0 : 0 ≤ n := by omega
    have g1 : decide (t < n * 1000) = false := decide_eq_false (by omega)
    have g2 : decide (1000 ≤ t - n * 1000) = false := decide_eq_false (by omega)
    have g3 : n * 1000 ≤ t := by omega
    clear hn
    by_cases e : p = 0
    · have e1 : (p == 0) = true := by simpa using e
      clear e
      go_enter Try.func5, Try.ntmps5
      go_wp2_with (first
        | (go_at_call 12; refine (shown2 _).mono ?_; rintro e w' ⟨rfl, rfl⟩)
        | (go_at_call 21; refine (epoch_any _ _ (by omega) (by omega)).mono ?_; rintro e w' ⟨rfl, rfl⟩)
        | (go_at_call 22; refine (repoch_any _ _ (by omega) (by omega)).mono ?_; rintro e w' ⟨rfl, rfl⟩)
        | (go_at_call 23; refine (start_any _ _ (by omega) (by omega)).mono ?_; rintro e w' ⟨rfl, rfl⟩))
      go_ret
      exact ⟨rfl, rfl⟩
    · have e1 : (p == 0) = false := by simpa using e
      have e2 : 1 ≤ p := by omega
      obtain ⟨q1, q2⟩ := ep_yes (t := p * 1000 - 1) (n := p - 1) (by omega) (by omega)
      clear e
      go_enter Try.func5, Try.ntmps5
      go_wp2_with (first
        | (go_at_call 12; refine (shown2 _).mono ?_; rintro e w' ⟨rfl, rfl⟩)
        | (go_at_call 21; refine (epoch_any _ _ (by omega) (by omega)).mono ?_; rintro e w' ⟨rfl, rfl⟩)
        | (go_at_call 22; refine (repoch_any _ _ (by omega) (by omega)).mono ?_; rintro e w' ⟨rfl, rfl⟩)
        | (go_at_call 23; refine (start_any _ _ (by omega) (by omega)).mono ?_; rintro e w' ⟨rfl, rfl⟩))
      go_ret
      exact ⟨rfl, rfl⟩
  · obtain ⟨h1, h2⟩ := ep_no h
    clear h
    by_cases e : p = 0
    · have e1 : (p == 0) = true := by simpa using e
      clear e
      go_enter Try.func5, Try.ntmps5
      go_wp2_with (first
        | (go_at_call 12; refine (shown2 _).mono ?_; rintro e w' ⟨rfl, rfl⟩)
        | (go_at_call 21; refine (epoch_any _ _ (by omega) (by omega)).mono ?_; rintro e w' ⟨rfl, rfl⟩)
        | (go_at_call 22; refine (repoch_any _ _ (by omega) (by omega)).mono ?_; rintro e w' ⟨rfl, rfl⟩)
        | (go_at_call 23; refine (start_any _ _ (by omega) (by omega)).mono ?_; rintro e w' ⟨rfl, rfl⟩))
      go_ret
      exact ⟨rfl, rfl⟩
    · have e1 : (p == 0) = false := by simpa using e
      have e2 : 1 ≤ p := by omega
      obtain ⟨q1, q2⟩ := ep_yes (t := p * 1000 - 1) (n := p - 1) (by omega) (by omega)
      clear e
      go_enter Try.func5, Try.ntmps5
      go_wp2_with (first
        | (go_at_call 12; refine (shown2 _).mono ?_; rintro e w' ⟨rfl, rfl⟩)
        | (go_at_call 21; refine (epoch_any _ _ (by omega) (by omega)).mono ?_; rintro e w' ⟨rfl, rfl⟩)
        | (go_at_call 22; refine (repoch_any _ _ (by omega) (by omega)).mono ?_; rintro e w' ⟨rfl, rfl⟩)
        | (go_at_call 23; refine (start_any _ _ (by omega) (by omega)).mono ?_; rintro e w' ⟨rfl, rfl⟩))
      go_ret
      exact ⟨rfl, rfl⟩
end Go.Proofs.Ytfognjpbmpfpbaa
