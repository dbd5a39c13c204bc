/-
  What speaks of keys, of rows of one's own, of cuts.
-/
import Derived.Test.YtoiiiflnnhkjbaaGreatDoorGnT
import Derived.Deep.QuietTactic
import Derived.BigQuiet
import Derived.Laws.BitsAllLaws
import Derived.IntWalk
import Derived.Laws.CopyOwn
import Derived.Deep.WholeRow
import Derived.StillTailTactics
namespace Go.Proofs.YtoiiiflnnhkjbaaGreatDoor
set_option linter.unusedVariables false
open Go.RowKit

theorem aggK : Agg Tryz.prog 26 32 := Agg.of (by kernel_rfl) (by kernel_rfl)
theorem zeroK : (Tryz.prog.info? 26).map (fun i => i.zero) = some (some (.agg (cellsB (List.replicate 32 0)).toArray)) := by kernel_rfl
theorem underK32 : Tryz.prog.underlying 26 = some (.array 32 5) := by kernel_rfl
theorem slK (g : Nat) (w : World) : Sem.run Tryz.prog (Instr.sliceAt 26 (.pointer (some ⟨g, 0, none⟩)) none none none) w = .ok (.slice (some ⟨g, 0, none⟩) 32 32) w := run_slice_arr0 (P := Tryz.prog) (t := 26) (e := 5) (N := 32) underK32 size8 g 0 (by omega) w
set_option maxHeartbeats 400000 in
theorem clone_any (A : Option Addr) (n c : Nat) (l : List UInt8) (w : World) (hr : Rds w A n (cellsB l)) (hn : n ≤ 100000) :
    Calls Tryz.prog 55 #[.slice A n c] w (New w.heap.size 5 (cellsB l) w) := by
  have q22 : ∀ (w : World) (a : Option Addr) (n c n' c' : Nat), (binOp .eql 46 (.slice a n c) (.slice none n' c')).run Tryz.prog w = .ok (.bool a.isNone) w := fun w a n c n' c' => Lib.run_eql_slice_nil w _ _ a n c n' c' Tryz.underlying46
  have HL := hide hr.1
  by_cases hA : A.isNone = true
  · obtain rfl : A = none := by simpa using hA
    have h0 : n = 0 := by
      rcases Nat.eq_zero_or_pos n with h | h
      · exact h
      · obtain ⟨a, h, _⟩ := hr.2 h; cases h
    have hl : cellsB l = [] := List.eq_nil_of_length_eq_zero (hr.1.trans h0)
    subst h0
    have HL := hide hl
    clear hl
    go_enter Tryz.func55, Tryz.ntmps55
    go_wp2
    go_ret
    unfold New
    rw [HL.out]
    exact ⟨_, _, rfl, ⟨rfl, .inl ⟨rfl, rfl⟩⟩, Below.refl _ _⟩
  · have hA' : A.isNone = false := by cases h : A.isNone <;> simp_all
    have hr' : Rds (w.alloc (.cells #[] 5)) A n (cellsB l) := hr.below ((Below.refl _ _).alloc (Nat.le_refl _) _)
    go_enter Tryz.func55, Tryz.ntmps55
    go_wp2_with (at_builtin; refine wpl_app one_u8 rfl (.tmp 5) (.tmp 6) rfl _ w.heap.size _ 0 [] rfl (World.ownsRow_made w #[] 0 (Nat.le_refl _) (by simp [maxLen]) (by simp)) A n c (cellsB l) rfl hr' (cellsB_one l) (by omega) (by omega) (by simp) ?_; intro A1 c1 w1 hown1 hg1 hat1)
    go_ret
    have hz : 0 + n = (cellsB l).length := by rw [HL.out, Nat.zero_add]
    rw [List.nil_append, hz] at hown1
    exact ⟨A1, c1, congrArg (fun k => Ending.returned (.slice A1 k c1)) HL.out.symm, hown1, ((Below.refl _ _).alloc (Nat.le_refl _) _).trans ((Frm.of_grown hg1).below (by simp) (fun k hk => Nat.le_of_eq (Option.some.inj hk).symm))⟩
end Go.Proofs.YtoiiiflnnhkjbaaGreatDoor
