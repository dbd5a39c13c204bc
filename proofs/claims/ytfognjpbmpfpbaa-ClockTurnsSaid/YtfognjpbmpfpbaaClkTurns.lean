/-
  ClockTurns: the walk. For every input the law returns true, and leaves memory as it was. No condition.
-/
import Derived.Test.YtfognjpbmpfpbaaClk
import Derived.Test.YtfognjpbmpfpbaaShown2
import Derived.Test.YtfognjpbmpfpbaaNFrame
import Derived.Laws.BitsAllLaws
namespace Go.Proofs.Ytfognjpbmpfpbaa
set_option linter.unusedVariables false
open Go.RowKit

theorem ept {t n : Int} (h : t / 1000 = n) (h1 : n < 4294967296) : epV t = n ∧ epB t = true := by
  unfold epV epB; rw [h]; exact ⟨if_pos h1, decide_eq_true h1⟩
theorem mask41 (t : Int) (h : 0 ≤ t) (h1 : t < 18446744073709551616) : ∃ T, bits BinOp.and IntKind.u64 t 2199023255551 = T ∧ 0 ≤ T ∧ T < 2199023255552 := by
  refine ⟨_, u64_and t 2199023255551 h h1 (by decide) (by decide), by omega, ?_⟩
  have := Nat.and_le_right (n := t.toNat) (m := (2199023255551 : Int).toNat)
  have e : (2199023255551 : Int).toNat = 2199023255551 := rfl
  omega
theorem mask20 (t : Int) (h : 0 ≤ t) (h1 : t < 4294967296) : ∃ T, bits BinOp.and IntKind.u32 t 1048575 = T ∧ 0 ≤ T ∧ T < 1048576 := by
  refine ⟨_, u32_and t 1048575 h h1 (by decide) (by decide), by omega, ?_⟩
  have := Nat.and_le_right (n := t.toNat) (m := (1048575 : Int).toNat)
  have e : (1048575 : Int).toNat = 1048575 := rfl
  omega

set_option maxHeartbeats 2000000 in
set_option maxRecDepth 100000 in
theorem turns_walk (t n u : Int) (w : World) (ht0 : 0 ≤ t) (ht1 : t < 18446744073709551616) (hn0 : 0 ≤ n) (hn1 : n < 4294967296) (hu0 : 0 ≤ u) (hu1 : u < 18446744073709551616) :
    Calls Try.prog 11 #[.int .u64 t, .int .u32 n, .int .u64 u] w fun e w' => e = .returned (.bool true) ∧ Below w.heap.size w w' := by
  apply same_below
  obtain ⟨T, hT, hT0, hT1⟩ := mask41 t ht0 ht1
  obtain ⟨U, hU, hU0, hU1⟩ := mask41 u hu0 hu1
  obtain ⟨N, hN, hN0, hN1⟩ := mask20 n hn0 hn1
  obtain ⟨A, hA⟩ : ∃ A, T / 1000 = A := ⟨_, rfl⟩
  obtain ⟨C, hC⟩ : ∃ C, U / 1000 = C := ⟨_, rfl⟩
  obtain ⟨a1, a2⟩ := ept hA (by omega)
  obtain ⟨c1, c2⟩ := ept hC (by omega)
  obtain ⟨b1, b2⟩ := ept (t := T + 1000 * N) (n := A + N) (by omega) (by omega)
  have s1 : T - T % 1000 = A * 1000 := by omega
  have A0 : 0 ≤ A := by omega
  have A1 : 1000 * A ≤ T := by omega
  have A2 : T < 1000 * A + 1000 := by omega
  have C0 : 0 ≤ C := by omega
  have C1 : 1000 * C ≤ U := by omega
  have C2 : U < 1000 * C + 1000 := by omega
  clear hA hC
  by_cases h : T < U
  · have h1 : T ≤ U := by omega
    by_cases e : A = C
    · obtain rfl : C = A := e.symm
      have e1 : U - T < 1000 := by omega
      go_enter Try.func11, Try.ntmps11
      go_wp2_with (first
        | (go_at_call 12; refine (shown2 _).mono ?_; rintro e w' ⟨rfl, rfl⟩)
        | (go_at_call 21; refine (epoch_any _ _ (by omega) (by omega)).mono ?_; rintro e w' ⟨rfl, rfl⟩)
        | (go_at_call 23; refine (start_any _ _ (by omega) (by omega)).mono ?_; rintro e w' ⟨rfl, rfl⟩))
      go_ret
      exact ⟨rfl, rfl⟩
    · have e1 : A < C := by omega
      have e2 : (A == C) = false := by simpa using e
      have e3 : (A != C) = true := by simpa using e
      clear e
      by_cases g : 1000 ≤ U - T
      · go_enter Try.func11, Try.ntmps11
        go_wp2_with (first
          | (go_at_call 12; refine (shown2 _).mono ?_; rintro e w' ⟨rfl, rfl⟩)
          | (go_at_call 21; refine (epoch_any _ _ (by omega) (by omega)).mono ?_; rintro e w' ⟨rfl, rfl⟩)
          | (go_at_call 23; refine (start_any _ _ (by omega) (by omega)).mono ?_; rintro e w' ⟨rfl, rfl⟩))
        go_ret
        exact ⟨rfl, rfl⟩
      · have g1 : C - A ≤ 1 := by omega
        go_enter Try.func11, Try.ntmps11
        go_wp2_with (first
          | (go_at_call 12; refine (shown2 _).mono ?_; rintro e w' ⟨rfl, rfl⟩)
          | (go_at_call 21; refine (epoch_any _ _ (by omega) (by omega)).mono ?_; rintro e w' ⟨rfl, rfl⟩)
          | (go_at_call 23; refine (start_any _ _ (by omega) (by omega)).mono ?_; rintro e w' ⟨rfl, rfl⟩))
        go_ret
        exact ⟨rfl, rfl⟩
  · by_cases h1 : U < T
    · by_cases e : A = C
      · obtain rfl : C = A := e.symm
        have e1 : T - U < 1000 := by omega
        go_enter Try.func11, Try.ntmps11
        go_wp2_with (first
          | (go_at_call 12; refine (shown2 _).mono ?_; rintro e w' ⟨rfl, rfl⟩)
          | (go_at_call 21; refine (epoch_any _ _ (by omega) (by omega)).mono ?_; rintro e w' ⟨rfl, rfl⟩)
          | (go_at_call 23; refine (start_any _ _ (by omega) (by omega)).mono ?_; rintro e w' ⟨rfl, rfl⟩))
        go_ret
        exact ⟨rfl, rfl⟩
      · have e1 : C < A := by omega
        have e2 : (A == C) = false := by simpa using e
        have e3 : (A != C) = true := by simpa using e
        clear e
        by_cases g : 1000 ≤ T - U
        · go_enter Try.func11, Try.ntmps11
          go_wp2_with (first
            | (go_at_call 12; refine (shown2 _).mono ?_; rintro e w' ⟨rfl, rfl⟩)
            | (go_at_call 21; refine (epoch_any _ _ (by omega) (by omega)).mono ?_; rintro e w' ⟨rfl, rfl⟩)
            | (go_at_call 23; refine (start_any _ _ (by omega) (by omega)).mono ?_; rintro e w' ⟨rfl, rfl⟩))
          go_ret
          exact ⟨rfl, rfl⟩
        · have g1 : A - C ≤ 1 := by omega
          go_enter Try.func11, Try.ntmps11
          go_wp2_with (first
            | (go_at_call 12; refine (shown2 _).mono ?_; rintro e w' ⟨rfl, rfl⟩)
            | (go_at_call 21; refine (epoch_any _ _ (by omega) (by omega)).mono ?_; rintro e w' ⟨rfl, rfl⟩)
            | (go_at_call 23; refine (start_any _ _ (by omega) (by omega)).mono ?_; rintro e w' ⟨rfl, rfl⟩))
          go_ret
          exact ⟨rfl, rfl⟩
    · obtain rfl : U = T := by omega
      obtain rfl : C = A := by omega
      go_enter Try.func11, Try.ntmps11
      go_wp2_with (first
        | (go_at_call 12; refine (shown2 _).mono ?_; rintro e w' ⟨rfl, rfl⟩)
        | (go_at_call 21; refine (epoch_any _ _ (by omega) (by omega)).mono ?_; rintro e w' ⟨rfl, rfl⟩)
        | (go_at_call 23; refine (start_any _ _ (by omega) (by omega)).mono ?_; rintro e w' ⟨rfl, rfl⟩))
      go_ret
      exact ⟨rfl, rfl⟩
end Go.Proofs.Ytfognjpbmpfpbaa
