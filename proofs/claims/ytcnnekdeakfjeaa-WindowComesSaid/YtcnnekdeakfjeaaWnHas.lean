/-
  WindowHas, walked.
-/
import Derived.Test.YtcnnekdeakfjeaaWn7
namespace Go.Proofs.Ytcnnekdeakfjeaa
set_option linter.unusedVariables false
open Go.RowKit

theorem has_cases (lo hi t : Int) : (t < lo ∧ hasV lo hi t = 5) ∨ (lo ≤ t ∧ hi < t ∧ decide (t ≤ hi) = false ∧ hasV lo hi t = 6) ∨ (lo ≤ t ∧ t ≤ hi ∧ hasV lo hi t = 0) := by
  unfold hasV
  by_cases h1 : t < lo
  · exact .inl ⟨h1, by rw [if_pos h1]⟩
  · by_cases h2 : hi < t
    · exact .inr (.inl ⟨by omega, h2, decide_eq_false (by omega), by rw [if_neg h1, if_pos h2]⟩)
    · exact .inr (.inr ⟨by omega, by omega, by rw [if_neg h1, if_neg h2]⟩)
theorem has_in {lo hi t : Int} (h1 : lo ≤ t) (h2 : t ≤ hi) : hasV lo hi t = 0 := by unfold hasV; rw [if_neg (by omega), if_neg (by omega)]

set_option maxHeartbeats 4000000 in
theorem whas_walk (lo hi t : Int) (w : World) : Calls Try.prog 6 #[.int .u64 lo, .int .u64 hi, .int .u64 t] w fun e w' => e = .returned (.bool true) ∧ Below w.heap.size w w' := by
  go_enter Try.func6, Try.ntmps6
  go_wp2_with fail
  refine (shown_any w).mono ?_
  rintro e w1 ⟨rfl, hb1⟩
  have HB1 := hide hb1
  clear hb1
  have B1 : Hid (Blk (w1.alloc (.cells #[.int .u64 lo, .int .u64 hi] 35)) w1.heap.size 35 #[.int .u64 lo, .int .u64 hi]) := Blk.new _ _ _
  have HB2 := hide (below_frm HB1.out (Frm.alloc w1 (.cells #[.int .u64 lo, .int .u64 hi] 35) (fun _ => False)) HB1.out.size (fun _ h => h.elim))
  clear HB1
  go_wp2_with fail
  refine (has_any lo hi t _).mono ?_
  rintro e w2 ⟨rfl, hb⟩
  have F2 : Frm (fun _ => False) _ w2 := Frm.of_below hb
  have HB3 := hide (below_frm HB2.out F2 HB2.out.size (fun _ h => h.elim))
  have B2 := hide (B1.out.frm F2 id)
  have c0 : w2.cell? ⟨w1.heap.size, 0, none⟩ = some (.int .u64 lo) := B2.out.cell 0
  have c1 : w2.cell? ⟨w1.heap.size, 1, none⟩ = some (.int .u64 hi) := B2.out.cell 1
  clear hb F2 HB2 B1
  by_cases hlh : lo ≤ hi
  · have hv1 : hasV lo hi lo = 0 := has_in (Int.le_refl _) hlh
    have hv2 : hasV lo hi hi = 0 := has_in hlh (Int.le_refl _)
    rcases has_cases lo hi t with ⟨h1, h2⟩ | ⟨h1, h3, h4, h2⟩ | ⟨h1, h3, h2⟩
    all_goals
      rw [h2]
      clear h2
      go_wp2_with fail
      refine (has_any lo hi lo _).mono ?_
      rintro e w3 ⟨rfl, hb⟩
      rw [hv1]
      have F3 : Frm (fun _ => False) _ w3 := Frm.of_below hb
      have HB4 := hide (below_frm HB3.out F3 HB3.out.size (fun _ h => h.elim))
      have B3 := B2.out.frm F3 id
      have e0 : w3.cell? ⟨w1.heap.size, 0, none⟩ = some (.int .u64 lo) := B3.cell 0
      have e1 : w3.cell? ⟨w1.heap.size, 1, none⟩ = some (.int .u64 hi) := B3.cell 1
      clear hb F3 B3 c0 c1 hv1 HB3
      go_wp2_with fail
      refine (has_any lo hi hi _).mono ?_
      rintro e w4 ⟨rfl, hb⟩
      rw [hv2]
      have HB5 := hide (below_frm HB4.out (Frm.of_below (S := fun _ => False) hb) HB4.out.size (fun _ h => h.elim))
      clear hb e0 e1 hv2 HB4
      go_wp2_with fail
      go_ret
      exact ⟨rfl, HB5.out⟩
  · have hlh' : hi < lo := by omega
    rcases has_cases lo hi t with ⟨h1, h2⟩ | ⟨h1, h3, h4, h2⟩ | ⟨h1, h3, h2⟩
    all_goals
      rw [h2]
      clear h2 hlh
    · go_wp2_with fail
      go_ret
      exact ⟨rfl, HB3.out⟩
    · go_wp2_with fail
      go_ret
      exact ⟨rfl, HB3.out⟩
    · omega
end Go.Proofs.Ytcnnekdeakfjeaa
