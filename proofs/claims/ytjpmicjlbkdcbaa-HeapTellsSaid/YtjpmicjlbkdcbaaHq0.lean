/-
  What heaps of any kind call: cmp.Compare, cmp.Or, below.
-/
import Derived.Test.YtjpmicjlbkdcbaaHqA
namespace Go.Proofs.Ytjpmicjlbkdcbaa
set_option linter.unusedVariables false
set_option linter.unusedSimpArgs false
open Go.RowKit

set_option maxHeartbeats 1000000 in
theorem nan_any (x : Nat) (w : World) : Calls Try.prog 37 #[.int .u64 (x : Int)] w fun e w' => e = .returned (.bool false) ∧ w' = w := by
  go_enter Try.func37, Try.ntmps37
  go_wp2
  go_ret
  simp
def c3 (x y : Nat) : Int := if x < y then -1 else if y < x then 1 else 0
set_option maxHeartbeats 2000000 in
theorem cmp_any (x y : Nat) (w : World) : Calls Try.prog 35 #[.int .u64 (x : Int), .int .u64 (y : Int)] w fun e w' => e = .returned (.int .i64 (c3 x y)) ∧ w' = w := by
  have hx := nan_any x w
  have hy := nan_any y w
  by_cases h1 : x < y
  · have h1' : (x : Int) < (y : Int) := by omega
    have e : c3 x y = -1 := if_pos h1
    rw [e]
    go_enter Try.func35, Try.ntmps35
    go_wp2_with (first | (go_at_call 37; with_reducible refine hx.mono ?_; rintro e w' ⟨rfl, rfl⟩) | (go_at_call 37; with_reducible refine hy.mono ?_; rintro e w' ⟨rfl, rfl⟩))
    go_ret
    exact ⟨rfl, rfl⟩
  · have h1' : ¬ (x : Int) < (y : Int) := by omega
    by_cases h2 : y < x
    · have h2' : (y : Int) < (x : Int) := by omega
      have e : c3 x y = 1 := by unfold c3; rw [if_neg h1, if_pos h2]
      rw [e]
      go_enter Try.func35, Try.ntmps35
      go_wp2_with (first | (go_at_call 37; with_reducible refine hx.mono ?_; rintro e w' ⟨rfl, rfl⟩) | (go_at_call 37; with_reducible refine hy.mono ?_; rintro e w' ⟨rfl, rfl⟩))
      go_ret
      exact ⟨rfl, rfl⟩
    · have h2' : ¬ (y : Int) < (x : Int) := by omega
      have e : c3 x y = 0 := by unfold c3; rw [if_neg h1, if_neg h2]
      rw [e]
      go_enter Try.func35, Try.ntmps35
      go_wp2_with (first | (go_at_call 37; with_reducible refine hx.mono ?_; rintro e w' ⟨rfl, rfl⟩) | (go_at_call 37; with_reducible refine hy.mono ?_; rintro e w' ⟨rfl, rfl⟩))
      go_ret
      exact ⟨rfl, rfl⟩
/-- The first of two that is not 0. -/
def or2 (x y : Int) : Int := if x = 0 then y else x
set_option maxHeartbeats 2000000 in
theorem or_any (b : Nat) (x y : Int) (w : World) (c0 : w.cell? ⟨b, 0, none⟩ = some (.int .i64 x)) (c1 : w.cell? ⟨b, 1, none⟩ = some (.int .i64 y)) :
    Calls Try.prog 34 #[.slice (some ⟨b, 0, none⟩) 2 2] w fun e w' => e = .returned (.int .i64 (or2 x y)) ∧ w' = w := by
  by_cases hx : x = 0
  · subst hx
    have e : or2 0 y = y := rfl
    rw [e]
    by_cases hy : y = 0
    · subst hy
      go_enter Try.func34, Try.ntmps34
      go_wp2
      refine wp_loop_rounds 3 ?_
      rw [rounds_succ]
      go_wp2
      rw [rounds_succ]
      go_wp2
      rw [rounds_succ]
      go_wp2
      go_ret
      exact ⟨rfl, rfl⟩
    · have hy' : (y != 0) = true := bne_iff_ne.2 hy
      go_enter Try.func34, Try.ntmps34
      go_wp2
      refine wp_loop_rounds 3 ?_
      rw [rounds_succ]
      go_wp2
      rw [rounds_succ]
      go_wp2
      go_ret
      exact ⟨rfl, rfl⟩
  · have e : or2 x y = x := if_neg hx
    rw [e]
    have hx' : (x != 0) = true := bne_iff_ne.2 hx
    go_enter Try.func34, Try.ntmps34
    go_wp2
    refine wp_loop_rounds 3 ?_
    rw [rounds_succ]
    go_wp2
    go_ret
    exact ⟨rfl, rfl⟩
/-- .. says whose turn is ahead. -/
theorem or2_lt (a b : Th) : decide (or2 (c3 a.t b.t) (c3 a.n b.n) < 0) = decide (a.lt b) := by
  unfold or2 c3 Th.lt
  congr 1
  apply propext
  constructor
  · intro h
    split at h <;> split at h <;> (try split at h) <;> (try split at h) <;> omega
  · intro h
    split <;> split <;> (try split) <;> (try split) <;> omega

theorem agg2 : Agg Try.prog 73 2 := Agg.of (by kernel_rfl) (by kernel_rfl)
theorem zero2 : (Try.prog.info? 73).map (fun i => i.zero) = some (some (.agg [Value.int .i64 0, Value.int .i64 0].toArray)) := by kernel_rfl
theorem one2 (x y : Int) : ∀ v ∈ [Value.int .i64 x, Value.int .i64 y], v.oneCell' = true := by
  intro v hv
  simp at hv
  rcases hv with rfl | rfl <;> rfl
set_option maxHeartbeats 2000000 in
theorem below_any (i : Nat) (w : World) (hi : i ≤ 1000000) : Calls Try.prog 36 #[.int .i64 (i : Int)] w fun e w' => e = .returned (.agg #[.int .i64 (2 * (i : Int) + 1), .int .i64 (2 * (i : Int) + 2)]) ∧ Frm (fun _ => False) w w' := by
  have e1 : IntKind.i64.wrap (IntKind.i64.wrap (2 * (i : Int)) + 1) = 2 * (i : Int) + 1 := by simp only [IntKind.wrap_i64]; omega
  go_enter Try.func36, Try.ntmps36
  go_wp2_with (first
    | ((refine wpl_alloca (op := ⟨some 2, _, _, _, _, _⟩) rfl _ rfl _ zero2 ?_); intro g w1 hB1 hs1 hF1)
    | ((refine wpl_storea agg2 rfl (.tmp 2) (.tmp 9) rfl g [.int .i64 (2 * (i : Int) + 1), .int .i64 (2 * (i : Int) + 2)] rfl rfl _ _ hB1 rfl rfl (one2 _ _) ?_); intro w2 hB2 hF2))
  refine ret_agg agg2 rfl rfl g _ _ rfl hB2 rfl ?_
  exact ⟨rfl, ⟨hF2.os.trans hF1.os, hF2.tape.trans hF1.tape, hF2.output.trans hF1.output, Nat.le_trans hF1.size hF2.size, fun k hk _ => (hF2.block k (Nat.lt_of_lt_of_le hk hF1.size) (by omega)).trans (hF1.block k hk (fun h => h))⟩⟩
theorem idx2 (p k q : Nat) (hk : k < 2) (hq : q = 2 * p + 1 + k) : [Value.int .i64 (2 * (p : Int) + 1), Value.int .i64 (2 * (p : Int) + 2)][k]? = some (.int .i64 (q : Int)) := by
  subst hq
  match k, hk with
  | 0, _ => simp
  | 1, _ =>
    simp
    omega
end Go.Proofs.Ytjpmicjlbkdcbaa
