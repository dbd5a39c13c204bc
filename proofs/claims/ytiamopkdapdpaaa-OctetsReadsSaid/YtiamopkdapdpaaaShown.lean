/-
  What must be in any case.
-/
import Derived.Test.YtiamopkdapdpaaaWrite
namespace Go.Proofs.Ytiamopkdapdpaaa
set_option linter.unusedVariables false
open Go.RowKit

def bs1 : List UInt8 := [0, 0, 0, 0, 0, 0, 0, 1, 0, 0]
def bs0 : List UInt8 := [2, 1, 0, 0, 0, 0, 0, 0, 1, 0, 9]

theorem Wr.new (w : World) : Wr (w.alloc (.cells #[.slice none 0 0] 48)) w.heap.size none [] :=
  ⟨_, Blk.new _ _ _, ⟨rfl, .inl ⟨rfl, rfl⟩⟩, .inl rfl⟩

theorem Rds.of_blk {w : World} {g : Nat} {t : TypeId} {cs : Array Value} (h : Blk w g t cs) : Rds w (some ⟨g, 0, none⟩) cs.size cs.toList := by
  refine ⟨by simp, fun _ => ⟨_, rfl, fun j u hu => ?_⟩⟩
  have hadd : (⟨g, 0, none⟩ : Addr).add j = ⟨g, j, none⟩ := by unfold Addr.add; split <;> simp_all
  rw [hadd, h.cell]
  simpa using hu

set_option maxHeartbeats 4000000 in
set_option maxRecDepth 100000 in
theorem shown_any (w : World) : Calls Try.prog 10 #[] w fun e w' => e = .returned (.bool true) ∧ Below w.heap.size w w' := by
  go_enter Try.func10, Try.ntmps10
  go_wp2_with fail
  refine (read_any _ _ _ bs0 _ ?_ (by omega)).mono ?_
  · exact Rds.of_blk (Blk.new _ _ _)
  rintro e w1 ⟨g, d, rfl, hrd, hb0, hg0, hd⟩
  have hb1 : Below w.heap.size w w1 := ((Below.refl _ _).alloc (Nat.le_refl _) _).trans (hb0.mono (by simp))
  have hg : w.heap.size ≤ g := Nat.le_trans (by simp) hg0
  clear hb0 hg0 hd
  have hgl := hrd.lt
  have hsz := hb1.size
  go_wp2_with fail
  have hrd1 : Rd (w1.alloc (.cells #[.slice none 0 0] 48)) g d bs0 := hrd.frm (S := fun _ => False) (Frm.alloc _ _ _) (fun h => h) (fun _ _ h => h)
  have hwr1 := Wr.new w1
  have hb2 := hb1.alloc hb1.size (.cells #[.slice none 0 0] 48)
  generalize hW : w1.alloc (.cells #[.slice none 0 0] 48) = W1 at *
  have hsz1 : w1.heap.size < W1.heap.size := by rw [← hW]; simp
  generalize hgw : w1.heap.size = gw at *
  clear hW hgw hrd hb1
  refine (u16_ok g d bs0 _ hrd1 (by decide) (by decide)).mono ?_
  rintro e w2 ⟨rfl, hrd2, hf2⟩
  have hn1 : ((num (List.take 2 bs0) : Nat) : Int) = 513 := by decide
  have hwr2 := hwr1.frm hf2 (by omega) (fun k hk => by cases hk)
  have hb3 := below_frm hb2 hf2 hb2.size (fun k hk => by omega)
  have hsz2 := hf2.size
  clear hrd1 hf2 hwr1 hb2
  go_wp2_with fail
  refine (u64_ok g d (bs0.drop 2) _ hrd2 (by decide) (by decide)).mono ?_
  rintro e w3 ⟨rfl, hrd3, hf3⟩
  have hn2 : ((num (List.take 8 (List.drop 2 bs0)) : Nat) : Int) = 256 := by decide
  have hwr3 := hwr2.frm hf3 (by omega) (fun k hk => by cases hk)
  have hb4 := below_frm hb3 hf3 hb3.size (fun k hk => by omega)
  have hsz3 := hf3.size
  clear hrd2 hf3 hwr2 hb3
  go_wp2_with fail
  refine (u16_short g d ((bs0.drop 2).drop 8) _ hrd3 (by decide) (by decide)).mono ?_
  rintro e w4 ⟨rfl, rfl⟩
  go_wp2_with fail
  refine (left_any g d ((bs0.drop 2).drop 8) _ hrd3 (by decide)).mono ?_
  rintro e w4 ⟨rfl, rfl⟩
  have hn3 : ((List.drop 8 (List.drop 2 bs0)).length : Int) = 1 := by decide
  have hn3' : ((bs0.length - 10 : Nat) : Int) = 1 := by decide
  go_wp2_with fail
  refine (done_any g d ((bs0.drop 2).drop 8) _ hrd3 (by decide)).mono ?_
  rintro e w4 ⟨rfl, rfl⟩
  have hn4 : errLeft (List.drop 8 (List.drop 2 bs0)) = 3 := by decide
  have hn4' : errLeft (List.drop 10 bs0) = 3 := by decide
  go_wp2_with fail
  refine (wu64_any gw none [] 1 _ hwr3 (by decide) (by omega) (by omega)).mono ?_
  rintro e w4 ⟨rfl, d4, hwr4, hd4, hf4⟩
  have hb5 := below_frm hb4 hf4 hb4.size (fun k hk => by rcases hk with rfl | hk <;> first | omega | cases hk)
  have hd4' : d4 = none ∨ ∃ j, d4 = some j ∧ w.heap.size ≤ j := hd4.imp id (fun ⟨j, h1, h2⟩ => ⟨j, h1, Nat.le_trans hb4.size h2⟩)
  clear hwr3 hf4 hd4 hrd3
  go_wp2_with fail
  refine (wzeros_some gw d4 _ 2 _ hwr4 (by decide) (by omega) (by omega)).mono ?_
  rintro e w5 ⟨rfl, d5, hwr5, hd5, hf5⟩
  have hb6 := below_frm hb5 hf5 hb5.size (fun k hk => by
    rcases hk with rfl | hk
    · omega
    · rcases hd4' with rfl | ⟨j, rfl, hj⟩
      · cases hk
      · injection hk with hk; omega)
  have hL : [] ++ be 8 (Int.toNat 1) ++ List.replicate (Int.toNat 2) 0 = bs1 := by decide
  rw [hL] at hwr5
  clear hL hf5 hd5 hwr4 hb5
  have hs5 := hb6.size
  go_wp2_with (go_at_call 19; refine (wdone_any gw d5 bs1 _ hwr5 (by decide)).mono ?_; rintro e w6 ⟨A6, c6, rfl, hown6, hb7⟩; have hcv := conv_rds (P := Try.prog) w6 22 9 5 Try.underlying22 Try.underlying5 Try.underlying9 A6 _ c6 bs1 (Seg.of_own hown6).rds)
  go_ret
  exact ⟨rfl, hb6.trans (hb7.mono hb6.size)⟩
end Go.Proofs.Ytiamopkdapdpaaa
