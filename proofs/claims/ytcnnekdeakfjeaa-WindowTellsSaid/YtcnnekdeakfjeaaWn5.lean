/-
  The document's Windows by a contract. What lay when a call began lies as it lay.
-/
import Derived.Test.YtcnnekdeakfjeaaWn4
namespace Go.Proofs.Ytcnnekdeakfjeaa
set_option linter.unusedVariables false
open Go.RowKit

theorem two_rwin : Two Try.prog 29 36 (.agg #[.int .u64 0, .int .u64 0]) 16 := Two.of (by kernel_rfl) (by kernel_rfl) rfl
theorem Blk.new3 (w : World) (o o' : Obj) (t : TypeId) (cs : Array Value) : Blk (((w.alloc o).alloc o').alloc (.cells cs t)) (w.heap.size + 1 + 1) t cs := by
  have h := Blk.new2 (w.alloc o) o' t cs
  rwa [show (w.alloc o).heap.size = w.heap.size + 1 by simp] at h
theorem pown_nil (w : World) (B : Nat) (e : TypeId) : POwn w B e none 0 0 [] := ⟨rfl, .inl ⟨rfl, rfl⟩⟩

set_option maxHeartbeats 400000 in
theorem rwin_arg (s : Nat) (A : Option Addr) (n c : Nat) (L K : Nat) (w : World) (h : n = 0 ∨ 5 < n) :
    Calls Try.prog 11 #[.int .u64 (s : Int), .slice A n c, .int .u64 (L : Int), .int .u64 (K : Int)] w (NoWins w 1) := by
  rcases h with rfl | h
  · go_enter Try.func11, Try.ntmps11
    go_wp2_with fail
    go_ret2
    exact ⟨rfl, Below.refl _ _⟩
  · have h1 : ¬ ((n : Int) < 1) := by omega
    have h2 : 5 < (n : Int) := by omega
    go_enter Try.func11, Try.ntmps11
    go_wp2_with fail
    go_ret2
    exact ⟨rfl, Below.refl _ _⟩

set_option maxHeartbeats 2000000 in
theorem rwin_any (s : Nat) (A : Option Addr) (n c : Nat) (d : List Nat) (L K : Nat) (w : World) (hs : s < 18446744073709551616) (hL : L < 18446744073709551616) (hK : K < 18446744073709551616) (hd : ∀ x ∈ d, x < 4294967296)
    (hA : Rds w A n (cellsI .u32 d)) (h1 : 1 ≤ n) (h5 : n ≤ 5) :
    Calls Try.prog 11 #[.int .u64 (s : Int), .slice A n c, .int .u64 (L : Int), .int .u64 (K : Int)] w (fun en w' => (FitTo s d L K n ∧ Wins w w.heap.size 36 s d L K n en w') ∨ (¬ FitTo s d L K n ∧ NoWins w 9 en w')) := by
  have HE := hide (fun W k (hW : Below w.heap.size w W) (hk : k < n) => rearl_any s A n c k d W hs hd (hA.below hW) (by omega) h5)
  have HH := hide (fun W k (hW : Below w.heap.size w W) (hk : k < n) => rhi_any s A n c k d L K W hs hL hK hd (hA.below hW) hk h5)
  have hn1 : ¬ ((n : Int) < 1) := by omega
  have hn5 : ¬ (5 < (n : Int)) := by omega
  have HK := hide hK
  clear hA hd hs hL hK
  go_enter Try.func11, Try.ntmps11
  go_wp2_with fail
  go_loopw [10, 11] (fun v i wr => ∃ (k : Nat) (A1 : Option Addr) (c1 : Nat), k ≤ n ∧ i = .int .i64 k ∧ v = .slice A1 k c1 ∧ FitTo s d L K k ∧ POwn wr w.heap.size 36 A1 k c1 (winTo s d L K k) ∧ Below w.heap.size w wr) (fun _ i _ => n - (intOf i).toNat)
  case atStart => exact ⟨0, none, 0, by omega, rfl, rfl, (fun i hi => by omega), pown_nil _ _ _, Below.refl _ _⟩
  case round =>
    obtain ⟨k, A1, c1, hk, rfl, rfl, hfit, ho, hb⟩ := hrel
    have HO := hide ho
    have HF := hide hfit
    have HB := hide hb
    clear ho hfit hb
    by_cases hlt : k < n
    · have hki : (k : Int) < (n : Int) := by omega
      go_wp2_with fail
      refine (HE.out wr k HB.out hlt).mono ?_
      rintro e w1 ⟨rfl, hb1⟩
      have HB1 := hide (below_frm HB.out (Frm.of_below (S := fun _ => False) hb1) HB.out.size (fun _ h => h.elim))
      have HO1 := hide (HO.out.below hb1)
      have HEL := hide (earl_le s d L K k)
      have HP0 : Hid (winTo s d L K (k + 1) = winTo s d L K k ++ [(earl s d k - K, hiN s d L K k)]) := rfl
      have HFS : Hid (hiN s d L K k < 18446744073709551616 → FitTo s d L K (k + 1)) := fun h => HF.out.succ h
      have HFN : Hid (¬ hiN s d L K k < 18446744073709551616 → ¬ FitTo s d L K n) := fun h => not_fit (by omega) hlt
      have HHk := hide (fun W hW => HH.out W k hW hlt)
      clear hb1 HO HB HF
      generalize earl s d k = E at *
      generalize hiN s d L K k = H at *
      have HB2 := hide (below_frm HB1.out (Frm.alloc w1 (.cells #[.int .u64 (bh E), .int .u64 (bl E)] 53) (fun _ => False)) HB1.out.size (fun _ h => h.elim))
      have HO2 := hide (HO1.out.below (below1 w1 (.cells #[.int .u64 (bh E), .int .u64 (bl E)] 53)))
      have HE2 := hide (Blk.new w1 53 #[.int .u64 (bh E), .int .u64 (bl E)])
      clear HO1 HB1
      go_wp2_with fail
      refine (HHk.out _ HB2.out).mono ?_
      rintro e w3 ⟨rfl, hb3⟩
      have F3 : Frm (fun _ => False) _ w3 := Frm.of_below hb3
      have HB3 := hide (below_frm HB2.out F3 HB2.out.size (fun _ h => h.elim))
      have HO3 := hide (HO2.out.below hb3)
      have hE3 := HE2.out.frm F3 id
      have ce0 : w3.cell? ⟨w1.heap.size, 0, none⟩ = some (.int .u64 (bh E)) := hE3.cell 0
      have ce1 : w3.cell? ⟨w1.heap.size, 1, none⟩ = some (.int .u64 (bl E)) := hE3.cell 1
      have hlt3 : w1.heap.size < w3.heap.size := hE3.lt
      clear hb3 F3 HB2 HO2 HE2 hE3
      by_cases hfit : H < 18446744073709551616
      · have hE0 : bh E = 0 := by have := HEL.out; unfold bh; omega
        have hE1 : bl E = (E : Int) := by have := HEL.out; unfold bl; omega
        have hH0 : bh H = 0 := by unfold bh; omega
        have hH1 : bl H = (H : Int) := by unfold bl; omega
        rw [hH0, hH1]
        rw [hE0] at ce0
        rw [hE1] at ce1
        rw [hE0, hE1]
        clear hE0 hE1 hH0 hH1
        have HFF := hide (HFS.out hfit)
        have HFB := hide hfit
        clear HFS HFN hfit
        by_cases hlo : K < E
        · have hlo' : (K : Int) < (E : Int) := by omega
          obtain ⟨lo, hloE⟩ : ∃ lo : Nat, lo = E - K := ⟨_, rfl⟩
          have hwr : IntKind.u64.wrap ((E : Int) - (K : Int)) = (lo : Int) := by rw [u64wrap]; have := HEL.out; have := HFB.out; omega
          rw [← hloE] at HP0
          clear hloE hlo
          go_wp2_with (at_builtin; refine wpl_appP two_rwin rfl (.tmp 59) (.tmp 61) rfl _ w.heap.size A1 k c1 _ rfl (HO3.out.below (below3 _ _ _ _)) (w3.heap.size + 1 + 1) (lo, H) rfl (Blk.new3 _ _ _ _ _) (by decide) (k + 1) rfl (by omega) (below_frm HB3.out (Frm.of_below (S := fun _ => False) (below3 _ _ _ _)) HB3.out.size (fun _ h => h.elim)).size ?_; intro A2 c2 w4 ho4 hf4; have HO4 := hide ho4; have HB4 := hide (below_frm (below_frm HB3.out (Frm.of_below (S := fun _ => False) (below3 _ _ _ _)) HB3.out.size (fun _ h => h.elim)) hf4 (below_frm HB3.out (Frm.of_below (S := fun _ => False) (below3 _ _ _ _)) HB3.out.size (fun _ h => h.elim)).size (fun j e => (HO3.out.ge j e.symm).1)); clear ho4 hf4)
          go_roundw
          case rel => exact ⟨k + 1, A2, c2, by omega, by go_num, rfl, HFF.out, by rw [HP0.out]; exact HO4.out, HB4.out⟩
          case measure => simp [intOf]; omega
        · have hlo' : ¬ ((K : Int) < (E : Int)) := by omega
          have hloE : E - K = 0 := by omega
          rw [hloE] at HP0
          clear hloE hlo
          go_wp2_with (at_builtin; refine wpl_appP two_rwin rfl (.tmp 59) (.tmp 61) rfl _ w.heap.size A1 k c1 _ rfl (HO3.out.below (below3 _ _ _ _)) (w3.heap.size + 1 + 1) (0, H) rfl (Blk.new3 _ _ _ _ _) (by decide) (k + 1) rfl (by omega) (below_frm HB3.out (Frm.of_below (S := fun _ => False) (below3 _ _ _ _)) HB3.out.size (fun _ h => h.elim)).size ?_; intro A2 c2 w4 ho4 hf4; have HO4 := hide ho4; have HB4 := hide (below_frm (below_frm HB3.out (Frm.of_below (S := fun _ => False) (below3 _ _ _ _)) HB3.out.size (fun _ h => h.elim)) hf4 (below_frm HB3.out (Frm.of_below (S := fun _ => False) (below3 _ _ _ _)) HB3.out.size (fun _ h => h.elim)).size (fun j e => (HO3.out.ge j e.symm).1)); clear ho4 hf4)
          go_roundw
          case rel => exact ⟨k + 1, A2, c2, by omega, by go_num, rfl, HFF.out, by rw [HP0.out]; exact HO4.out, HB4.out⟩
          case measure => simp [intOf]; omega
      · have HNF := hide (HFN.out hfit)
        have HB4 := hide (below_frm HB3.out (Frm.alloc w3 (.cells #[.int .u64 (bh H), .int .u64 (bl H)] 53) (fun _ => False)) HB3.out.size (fun _ h => h.elim))
        have hH : 0 < bh H := by unfold bh; omega
        clear hfit HFS HFN
        by_cases hE0 : 0 < bh E
        · go_wp2_with fail
          go_ret2
          exact .inr ⟨HNF.out, rfl, HB4.out⟩
        · have hE1 : bh E = 0 := by unfold bh at hE0 ⊢; omega
          rw [hE1] at ce0
          rw [hE1]
          clear hE0 hE1
          go_wp2_with fail
          go_ret2
          exact .inr ⟨HNF.out, rfl, HB4.out⟩
    · obtain rfl : k = n := by omega
      have hkk : ¬ ((k : Int) < (k : Int)) := by omega
      go_wp2_with fail
      go_ret2
      exact .inl ⟨HF.out, _, _, rfl, HO.out, HB.out⟩
end Go.Proofs.Ytcnnekdeakfjeaa
