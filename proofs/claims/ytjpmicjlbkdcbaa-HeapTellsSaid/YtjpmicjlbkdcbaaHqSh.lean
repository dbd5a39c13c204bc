/-
  shown: what must be in any case.
-/
import Derived.Test.YtjpmicjlbkdcbaaHqI4
namespace Go.Proofs.Ytjpmicjlbkdcbaa
set_option linter.unusedVariables false
set_option linter.unusedSimpArgs false
open Go.RowKit hI

set_option maxHeartbeats 8000000 in
set_option maxRecDepth 100000 in
theorem shown_any (w : World) : Calls Try.prog 9 #[] w fun e w' => e = .returned (.bool true) ∧ Below w.heap.size w w' := by
  go_enter Try.func9, Try.ntmps9
  go_wp2_with (first
    | (go_at_call 10; refine (LH.new (Below.refl _ w) 3).mono ?_; rintro e w1 ⟨g, rfl, h1⟩; rw [show newQ 3 = (⟨3, 0, []⟩ : Qu) from rfl] at h1; have HH1 := hide h1; clear h1)
    | (go_at_call 12; refine (LH.push HH1.out 5 1 (by decide) (by decide) (by decide)).mono ?_; rintro e w2 ⟨he, h1⟩; rw [show pushV (⟨3, 0, []⟩ : Qu) = #[.int .u64 0, .int .i64 0] from rfl] at he; rw [show Qu.push (⟨3, 0, []⟩ : Qu) 5 1 = (⟨3, 1, [⟨5, 0, 1⟩]⟩ : Qu) from rfl] at h1; subst he; have HH2 := hide h1; clear h1 HH1)
    | (go_at_call 12; refine (LH.push HH2.out 3 2 (by decide) (by decide) (by decide)).mono ?_; rintro e w3 ⟨he, h1⟩; rw [show pushV (⟨3, 1, [⟨5, 0, 1⟩]⟩ : Qu) = #[.int .u64 1, .int .i64 0] from rfl] at he; rw [show Qu.push (⟨3, 1, [⟨5, 0, 1⟩]⟩ : Qu) 3 2 = (⟨3, 2, [⟨3, 1, 2⟩, ⟨5, 0, 1⟩]⟩ : Qu) from rfl] at h1; subst he; have HH3 := hide h1; clear h1 HH2)
    | (go_at_call 12; refine (LH.push HH3.out 5 3 (by decide) (by decide) (by decide)).mono ?_; rintro e w4 ⟨he, h1⟩; rw [show pushV (⟨3, 2, [⟨3, 1, 2⟩, ⟨5, 0, 1⟩]⟩ : Qu) = #[.int .u64 2, .int .i64 0] from rfl] at he; rw [show Qu.push (⟨3, 2, [⟨3, 1, 2⟩, ⟨5, 0, 1⟩]⟩ : Qu) 5 3 = (⟨3, 3, [⟨3, 1, 2⟩, ⟨5, 0, 1⟩, ⟨5, 2, 3⟩]⟩ : Qu) from rfl] at h1; subst he; have HH4 := hide h1; clear h1 HH3)
    | (go_at_call 12; refine (LH.push HH4.out 1 4 (by decide) (by decide) (by decide)).mono ?_; rintro e w5 ⟨he, h1⟩; rw [show pushV (⟨3, 3, [⟨3, 1, 2⟩, ⟨5, 0, 1⟩, ⟨5, 2, 3⟩]⟩ : Qu) = #[.int .u64 0, .int .i64 8] from rfl] at he; rw [show Qu.push (⟨3, 3, [⟨3, 1, 2⟩, ⟨5, 0, 1⟩, ⟨5, 2, 3⟩]⟩ : Qu) 1 4 = (⟨3, 3, [⟨3, 1, 2⟩, ⟨5, 0, 1⟩, ⟨5, 2, 3⟩]⟩ : Qu) from rfl] at h1; subst he; have HH5 := hide h1; clear h1 HH4)
    | (go_at_call 14; refine (LH.pop HH5.out 2 (by decide)).mono ?_; rintro e w6 ⟨he, h1⟩; rw [show popV (⟨3, 3, [⟨3, 1, 2⟩, ⟨5, 0, 1⟩, ⟨5, 2, 3⟩]⟩ : Qu) 2 = #[.int .i64 0, .int .u64 0, .bool false] from rfl] at he; rw [show Qu.pop (⟨3, 3, [⟨3, 1, 2⟩, ⟨5, 0, 1⟩, ⟨5, 2, 3⟩]⟩ : Qu) 2 = (⟨3, 3, [⟨3, 1, 2⟩, ⟨5, 0, 1⟩, ⟨5, 2, 3⟩]⟩ : Qu) from rfl] at h1; subst he; have HH6 := hide h1; clear h1 HH5)
    | (go_at_call 14; refine (LH.pop HH6.out 9 (by decide)).mono ?_; rintro e w7 ⟨he, h1⟩; rw [show popV (⟨3, 3, [⟨3, 1, 2⟩, ⟨5, 0, 1⟩, ⟨5, 2, 3⟩]⟩ : Qu) 9 = #[.int .i64 2, .int .u64 3, .bool true] from rfl] at he; rw [show Qu.pop (⟨3, 3, [⟨3, 1, 2⟩, ⟨5, 0, 1⟩, ⟨5, 2, 3⟩]⟩ : Qu) 9 = (⟨3, 3, [⟨5, 0, 1⟩, ⟨5, 2, 3⟩]⟩ : Qu) from rfl] at h1; subst he; have HH7 := hide h1; clear h1 HH6)
    | (go_at_call 14; refine (LH.pop HH7.out 9 (by decide)).mono ?_; rintro e w8 ⟨he, h1⟩; rw [show popV (⟨3, 3, [⟨5, 0, 1⟩, ⟨5, 2, 3⟩]⟩ : Qu) 9 = #[.int .i64 1, .int .u64 5, .bool true] from rfl] at he; rw [show Qu.pop (⟨3, 3, [⟨5, 0, 1⟩, ⟨5, 2, 3⟩]⟩ : Qu) 9 = (⟨3, 3, [⟨5, 2, 3⟩]⟩ : Qu) from rfl] at h1; subst he; have HH8 := hide h1; clear h1 HH7)
    | (go_at_call 14; refine (LH.pop HH8.out 9 (by decide)).mono ?_; rintro e w9 ⟨he, h1⟩; rw [show popV (⟨3, 3, [⟨5, 2, 3⟩]⟩ : Qu) 9 = #[.int .i64 3, .int .u64 5, .bool true] from rfl] at he; rw [show Qu.pop (⟨3, 3, [⟨5, 2, 3⟩]⟩ : Qu) 9 = (⟨3, 3, []⟩ : Qu) from rfl] at h1; subst he; have HH9 := hide h1; clear h1 HH8)
    | (go_at_call 18; refine (LH.len HH9.out).mono ?_; rintro e w10 ⟨rfl, hw⟩; subst hw))
  go_ret
  exact ⟨rfl, HH9.out.2⟩
theorem shown_from {w0 w : World} (h : Below w0.heap.size w0 w) : Calls Try.prog 9 #[] w fun e w' => e = .returned (.bool true) ∧ Below w0.heap.size w0 w' := by
  refine (shown_any w).mono ?_
  rintro e w' ⟨rfl, f⟩
  exact ⟨rfl, h.trans (f.mono h.size)⟩
end Go.Proofs.Ytjpmicjlbkdcbaa
