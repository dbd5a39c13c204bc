/-
  The document's Latest by a contract. What lay when the call began lies as it lay.
-/
import Derived.Test.YtcnnekdeakfjeaaWn5
namespace Go.Proofs.Ytcnnekdeakfjeaa
set_option linter.unusedVariables false
open Go.RowKit

set_option maxHeartbeats 4000000 in
set_option maxRecDepth 100000 in
theorem rlate_any (s : Nat) (A : Option Addr) (n c : Nat) (d : List Nat) (L K : Nat) (w : World) (hs : s < 18446744073709551616) (hL : L < 18446744073709551616) (hK : K < 18446744073709551616) (hd : ∀ x ∈ d, x < 4294967296)
    (hA : Rds w A n (cellsI .u32 d)) :
    Calls Try.prog 13 #[.int .u64 (s : Int), .slice A n c, .int .u64 (L : Int), .int .u64 (K : Int)] w (fun en w' => (∃ v b, en = .returned (.tuple #[.int .u64 v, .bool b]) ∧ Late s d L K n v b) ∧ Below w.heap.size w w') := by
  have hal : d.length = n := by have := hA.1; rwa [cellsI_length] at this
  by_cases hn : n = 0 ∨ 5 < n
  · have HL : Hid (Late s d L K n 0 false) := .inr ⟨fun h => by omega, rfl, rfl⟩
    have HC := hide (fun W => rwin_arg s A n c L K W hn)
    clear hal hA hd hs hL hK hn
    go_enter Try.func13, Try.ntmps13
    go_wp2_with fail
    refine (HC.out _).mono ?_
    rintro e w1 ⟨rfl, hb⟩
    have HB := hide hb
    clear hb HC
    go_wp2_with fail
    go_ret2
    exact ⟨⟨_, _, rfl, HL.out⟩, HB.out⟩
  · have h1 : 1 ≤ n := by omega
    have h5 : n ≤ 5 := by omega
    have HC := hide (rwin_any s A n c d L K w hs hL hK hd hA h1 h5)
    have HH := hide (fun W k (hW : Below w.heap.size w W) (hk : k < n) => rhi_any s A n c k d L K W hs hL hK hd (hA.below hW) hk h5)
    have HHL := hide (fun k (hk : k ≤ 5) => hiN_lt hs hL hK hd k hk)
    have HA := hide hA
    have HAL := hide hal
    have HD := hide hd
    clear hal hA hd hs hL hK hn
    go_enter Try.func13, Try.ntmps13
    go_wp2_with fail
    refine HC.out.mono ?_
    rintro e w1 (⟨hf, A1, c1, rfl, ho, hb⟩ | ⟨hf, rfl, hb⟩)
    · have HF := hide hf
      have HB := hide hb
      clear hf ho hb HC
      obtain ⟨j, rfl⟩ : ∃ j, n = j + 1 := ⟨n - 1, by omega⟩
      obtain ⟨pa, rfl, hca⟩ := HA.out.2 (by omega)
      have HCA := hide (hca j _ (cellsI_at d j (by rw [HAL.out]; omega)))
      have HX := hide (getD_lt HD.out (k := j) (by rw [HAL.out]; omega))
      have HHk := hide (fun W hW => HH.out W j hW (by omega))
      have HN : Hid (hiN s d L K j < 18446744073709551616000) := by have := HHL.out j (by omega); show hiN _ _ _ _ _ < _; unfold hiN; omega
      have HHI := hide (HF.out j (by omega))
      have HLN : Hid (lastN s d L K (j + 1) = hiN s d L K j + d.getD j 0) := rfl
      clear hca HA
      generalize d.getD j 0 = x at *
      generalize hiN s d L K j = H at *
      have hji : IntKind.i64.wrap ((j + 1 : Int) - 1) = (j : Int) := by rw [IntKind.wrap_i64]; omega
      have hjn : (j : Int) < (j : Int) + 1 := by omega
      have hwj : IntKind.i64.wrap (j : Int) = (j : Int) := by rw [IntKind.wrap_i64]; omega
      have hj0 : 0 ≤ (j : Int) := by omega
      have hxw : IntKind.u64.wrap (x : Int) = (x : Int) := by rw [u64wrap]; have := HX.out; omega
      have HCell : Hid (∀ W, Below w.heap.size w W → W.cell? (pa.add j) = some (.int .u32 (x : Int))) := fun W hW => by
        rw [hW.cell (World.block_lt_of_cell? _ _ HCA.out)]
        exact HCA.out
      clear HCA
      go_wp2_with fail
      refine wp_region_held_drew (S := fun w' => Below w.heap.size w w') (by kernel_rfl) (below_drewN HB.out 1) ?_
      intro hHeld
      refine wpAnyH_take (i := 0) (v := ?v1) rfl (by kernel_rfl) (by kernel_rfl) (by kernel_rfl) (fun _ _ _ h => h) (Or.inl ⟨by rfl, ?hy1⟩) (by assumption) ?rest1
      case hy1 => (intro w hSw; (try dsimp only at hSw); go_simp; try with_reducible rfl)
      try simp only [Act.put, List.getElem_toArray, List.getElem_cons_zero, List.setIfInBounds_toArray, List.set_cons_zero, List.set_cons_succ]
      refine wpAnyH_take (i := 1) (v := ?v2) rfl (by kernel_rfl) (by kernel_rfl) (by kernel_rfl) (fun _ _ _ h => h) (Or.inl ⟨by rfl, ?hy2⟩) (by assumption) ?rest2
      case hy2 => (intro w hSw; (try dsimp only at hSw); go_simp; try with_reducible rfl)
      try simp only [Act.put, List.getElem_toArray, List.getElem_cons_zero, List.getElem_cons_succ, List.setIfInBounds_toArray, List.set_cons_zero, List.set_cons_succ]
      refine wpAnyH_take (i := 2) (v := ?v3) rfl (by kernel_rfl) (by kernel_rfl) (by kernel_rfl) (fun _ _ _ h => h) (Or.inl ⟨by rfl, ?hy3⟩) (by assumption) ?rest3
      case hy3 => (intro w hSw; (try dsimp only at hSw); go_simp; try with_reducible rfl)
      try simp only [Act.put, List.getElem_toArray, List.getElem_cons_zero, List.getElem_cons_succ, List.setIfInBounds_toArray, List.set_cons_zero, List.set_cons_succ]
      refine wpAnyH_take (i := 3) (v := ?v4) rfl (by kernel_rfl) (by kernel_rfl) (by kernel_rfl) (fun _ _ _ h => h) (Or.inl ⟨by rfl, ?hy4⟩) (by assumption) ?rest4
      case hy4 => (intro w hSw; (try dsimp only at hSw); go_simp; try with_reducible rfl)
      try simp only [Act.put, List.getElem_toArray, List.getElem_cons_zero, List.getElem_cons_succ, List.setIfInBounds_toArray, List.set_cons_zero, List.set_cons_succ]
      refine wpAnyH_take (i := 4) (v := ?v5) rfl (by kernel_rfl) (by kernel_rfl) (by kernel_rfl) (fun _ _ _ h => h) (Or.inl ⟨by rfl, ?hy5⟩) (by assumption) ?rest5
      case hy5 => (intro w hSw; (try dsimp only at hSw); go_simp; try with_reducible rfl)
      try simp only [Act.put, List.getElem_toArray, List.getElem_cons_zero, List.getElem_cons_succ, List.setIfInBounds_toArray, List.set_cons_zero, List.set_cons_succ]
      refine wpAnyH_take (i := 5) (v := ?v6) rfl (by kernel_rfl) (by kernel_rfl) (by kernel_rfl) (fun _ _ _ h => h) (Or.inl ⟨by rfl, ?hy6⟩) (by assumption) ?rest6
      case hy6 => (intro w hSw; (try dsimp only at hSw); go_simp; try with_reducible rfl)
      try simp only [Act.put, List.getElem_toArray, List.getElem_cons_zero, List.getElem_cons_succ, List.setIfInBounds_toArray, List.set_cons_zero, List.set_cons_succ]
      refine wpAnyH_take (i := 7) (v := ?v7) rfl (by kernel_rfl) (by kernel_rfl) (by kernel_rfl) (fun _ _ _ h => h) (Or.inl ⟨by rfl, ?hy7⟩) (by assumption) ?rest7
      case hy7 => (intro w hSw; (try dsimp only at hSw); go_simp; try with_reducible rfl)
      try simp only [Act.put, List.getElem_toArray, List.getElem_cons_zero, List.getElem_cons_succ, List.setIfInBounds_toArray, List.set_cons_zero, List.set_cons_succ]
      refine wpAnyH_take (i := 8) (v := ?v8) rfl (by kernel_rfl) (by kernel_rfl) (by kernel_rfl) (fun _ _ _ h => h) (Or.inl ⟨by rfl, ?hy8⟩) (by assumption) ?rest8
      case hy8 => (intro w hSw; (try dsimp only at hSw); go_simp; try with_reducible rfl)
      try simp only [Act.put, List.getElem_toArray, List.getElem_cons_zero, List.getElem_cons_succ, List.setIfInBounds_toArray, List.set_cons_zero, List.set_cons_succ]
      refine wpAnyH_take (i := 9) (v := ?v9) rfl (by kernel_rfl) (by kernel_rfl) (by kernel_rfl) (fun _ _ _ h => h) (Or.inl ⟨by rfl, ?hy9⟩) (by assumption) ?rest9
      case hy9 => (intro w hSw; (try dsimp only at hSw); go_simp; try with_reducible rfl)
      try simp only [Act.put, List.getElem_toArray, List.getElem_cons_zero, List.getElem_cons_succ, List.setIfInBounds_toArray, List.set_cons_zero, List.set_cons_succ]
      refine wpAnyH_take (i := 10) (v := ?v10) rfl (by kernel_rfl) (by kernel_rfl) (by kernel_rfl) (fun _ _ _ h => h) (Or.inl ⟨by rfl, ?hy10⟩) (by assumption) ?rest10
      case hy10 => (intro w hSw; (try dsimp only at hSw); go_simp; try with_reducible rfl)
      try simp only [Act.put, List.getElem_toArray, List.getElem_cons_zero, List.getElem_cons_succ, List.setIfInBounds_toArray, List.set_cons_zero, List.set_cons_succ]
      refine wpAnyH_take (i := 11) (v := ?v11) rfl (by kernel_rfl) (by kernel_rfl) (by kernel_rfl) (fun _ _ _ h => h) (Or.inl ⟨by rfl, ?hy11⟩) (by assumption) ?rest11
      case hy11 => (intro w hSw; (try dsimp only at hSw); have hS1 := HCell.out _ hSw; go_simp; try with_reducible rfl)
      try simp only [Act.put, List.getElem_toArray, List.getElem_cons_zero, List.getElem_cons_succ, List.setIfInBounds_toArray, List.set_cons_zero, List.set_cons_succ]
      refine wpAnyH_take (i := 12) (v := ?v12) rfl (by kernel_rfl) (by kernel_rfl) (by kernel_rfl) (fun _ _ _ h => h) (Or.inl ⟨by rfl, ?hy12⟩) (by assumption) ?rest12
      case hy12 => (intro w hSw; (try dsimp only at hSw); go_simp; try with_reducible rfl)
      try simp only [Act.put, List.getElem_toArray, List.getElem_cons_zero, List.getElem_cons_succ, List.setIfInBounds_toArray, List.set_cons_zero, List.set_cons_succ]
      have bl1 := below_drewN HB.out 1
      refine wpAnyH_ready (rs := [6, 14]) (by kernel_rfl) (by simp) ?_
      refine AllReadyH.cons rfl (fun K hK => ?_) ?_
      · go_simp
        refine (HHk.out _ bl1).mono ?_
        rintro e w2 ⟨rfl, hbw2⟩
        have bl2 := below_frm bl1 (Frm.of_below (S := fun _ => False) hbw2) bl1.size (fun _ h => h.elim)
        refine hK.out _ _ (bl2) (fun hHeld => ?_)
        clear hK K
        refine wpAnyH_ready (rs := [13, 14]) (by kernel_rfl) (by simp) ?_
        refine AllReadyH.cons rfl (fun K hK => ?_) ?_
        · go_simp
          refine (plus_any H x _ HN.out (by have := HX.out; omega)).mono ?_
          rintro e w3 ⟨rfl, hbw3⟩
          have bl3 := below_frm bl2 (Frm.of_below (S := fun _ => False) hbw3) bl2.size (fun _ h => h.elim)
          refine hK.out _ _ (bl3) (fun hHeld => ?_)
          clear hK K
          refine wpAnyH_ready (rs := [14]) (by kernel_rfl) (by simp) ?_
          refine AllReadyH.cons rfl (fun K hK => ?_) AllReadyH.nil
          have bl4 := below_frm bl3 (Frm.of_below (S := fun _ => False) (below1 w3 (.cells #[.int .u64 0, .int .u64 0] 53))) bl3.size (fun _ h => h.elim)
          have hblk := Blk.new w3 53 #[.int .u64 0, .int .u64 0]
          have hge : w.heap.size ≤ w3.heap.size := bl3.size
          go_simp
          refine hK.out _ _ (bl4) (fun hHeld => ?_)
          clear hK K
          refine wpAnyH_ready (rs := [15]) (by kernel_rfl) (by simp) ?_
          refine AllReadyH.cons rfl (fun K hK => ?_) AllReadyH.nil
          refine step_storea agg_big rfl (.tmp 13) (.tmp 39) rfl w3.heap.size [.int .u64 (bh (H + x)), .int .u64 (bl (H + x))] rfl rfl _ _ hblk rfl rfl (two_one _ _ _) ?_
          intro w9 hb9 hf9
          have bel9 : Below w.heap.size w w9 := below_frm bl4 hf9 bl4.size (fun k e => by omega)
          refine hK.out _ _ (bel9) (fun hHeld => ?_)
          clear hK K
          refine wpAnyH_done (by kernel_rfl) ?_ _
          clear hHeld
          have HB9 := hide bel9
          have cz0 : w9.cell? ⟨w3.heap.size, 0, none⟩ = some (.int .u64 (bh (H + x))) := hb9.cell 0
          have cz1 : w9.cell? ⟨w3.heap.size, 1, none⟩ = some (.int .u64 (bl (H + x))) := hb9.cell 1
          clear hb9 hf9 bel9 hblk hge HHk HCell
          by_cases hlt : H + x < 18446744073709551616
          · have e0 : bh (H + x) = 0 := by unfold bh; omega
            have e1 : bl (H + x) = ((H + x : Nat) : Int) := by unfold bl; omega
            have HT : Hid (Late s d L K (j + 1) ((H + x : Nat) : Int) true) := .inl ⟨h1, h5, HF.out, by rw [HLN.out]; exact hlt, by rw [HLN.out], rfl⟩
            rw [e0] at cz0
            rw [e1] at cz1
            rw [e0, e1]
            clear e0 e1 hlt HF HLN HN
            generalize ((H + x : Nat) : Int) = z at *
            go_wp2_with fail
            go_ret2
            exact ⟨⟨_, _, rfl, HT.out⟩, HB9.out⟩
          · have e0 : 0 < bh (H + x) := by unfold bh; omega
            have HT : Hid (Late s d L K (j + 1) 0 false) := .inr ⟨fun h => hlt (by rw [HLN.out] at h; exact h.2.2.2), rfl, rfl⟩
            clear hlt HF HLN HN
            generalize bh (H + x) = z0 at *
            generalize bl (H + x) = z1 at *
            go_wp2_with fail
            go_ret2
            exact ⟨⟨_, _, rfl, HT.out⟩, HB9.out⟩
        refine AllReadyH.cons rfl (fun K hK => ?_) AllReadyH.nil
        have bl4 := below_frm bl2 (Frm.of_below (S := fun _ => False) (below1 w2 (.cells #[.int .u64 0, .int .u64 0] 53))) bl2.size (fun _ h => h.elim)
        have hblk := Blk.new w2 53 #[.int .u64 0, .int .u64 0]
        have hge : w.heap.size ≤ w2.heap.size := bl2.size
        go_simp
        refine hK.out _ _ (bl4) (fun hHeld => ?_)
        clear hK K
        refine wpAnyH_ready (rs := [13]) (by kernel_rfl) (by simp) ?_
        refine AllReadyH.cons rfl (fun K hK => ?_) AllReadyH.nil
        go_simp
        refine (plus_any H x _ HN.out (by have := HX.out; omega)).mono ?_
        rintro e w4 ⟨rfl, hbw4⟩
        have bl5 := below_frm bl4 (Frm.of_below (S := fun _ => False) hbw4) bl4.size (fun _ h => h.elim)
        have hblk4 := hblk.frm (Frm.of_below (S := fun _ => False) hbw4) id
        refine hK.out _ _ (bl5) (fun hHeld => ?_)
        clear hK K
        refine wpAnyH_ready (rs := [15]) (by kernel_rfl) (by simp) ?_
        refine AllReadyH.cons rfl (fun K hK => ?_) AllReadyH.nil
        refine step_storea agg_big rfl (.tmp 13) (.tmp 39) rfl w2.heap.size [.int .u64 (bh (H + x)), .int .u64 (bl (H + x))] rfl rfl _ _ hblk4 rfl rfl (two_one _ _ _) ?_
        intro w9 hb9 hf9
        have bel9 : Below w.heap.size w w9 := below_frm bl5 hf9 bl5.size (fun k e => by omega)
        refine hK.out _ _ (bel9) (fun hHeld => ?_)
        clear hK K
        refine wpAnyH_done (by kernel_rfl) ?_ _
        clear hHeld
        have HB9 := hide bel9
        have cz0 : w9.cell? ⟨w2.heap.size, 0, none⟩ = some (.int .u64 (bh (H + x))) := hb9.cell 0
        have cz1 : w9.cell? ⟨w2.heap.size, 1, none⟩ = some (.int .u64 (bl (H + x))) := hb9.cell 1
        clear hb9 hf9 bel9 hblk hblk4 hge HHk HCell
        by_cases hlt : H + x < 18446744073709551616
        · have e0 : bh (H + x) = 0 := by unfold bh; omega
          have e1 : bl (H + x) = ((H + x : Nat) : Int) := by unfold bl; omega
          have HT : Hid (Late s d L K (j + 1) ((H + x : Nat) : Int) true) := .inl ⟨h1, h5, HF.out, by rw [HLN.out]; exact hlt, by rw [HLN.out], rfl⟩
          rw [e0] at cz0
          rw [e1] at cz1
          rw [e0, e1]
          clear e0 e1 hlt HF HLN HN
          generalize ((H + x : Nat) : Int) = z at *
          go_wp2_with fail
          go_ret2
          exact ⟨⟨_, _, rfl, HT.out⟩, HB9.out⟩
        · have e0 : 0 < bh (H + x) := by unfold bh; omega
          have HT : Hid (Late s d L K (j + 1) 0 false) := .inr ⟨fun h => hlt (by rw [HLN.out] at h; exact h.2.2.2), rfl, rfl⟩
          clear hlt HF HLN HN
          generalize bh (H + x) = z0 at *
          generalize bl (H + x) = z1 at *
          go_wp2_with fail
          go_ret2
          exact ⟨⟨_, _, rfl, HT.out⟩, HB9.out⟩
      refine AllReadyH.cons rfl (fun K hK => ?_) AllReadyH.nil
      have bl4 : Below w.heap.size w (w1.alloc (.cells #[.int .u64 0, .int .u64 0] 53)).drew := below_drewN (below_frm HB.out (Frm.of_below (S := fun _ => False) (below1 w1 (.cells #[.int .u64 0, .int .u64 0] 53))) HB.out.size (fun _ h => h.elim)) 1
      have hblk : Blk (w1.alloc (.cells #[.int .u64 0, .int .u64 0] 53)).drew w1.heap.size 53 #[.int .u64 0, .int .u64 0] := Blk.new w1 53 #[.int .u64 0, .int .u64 0]
      have hge : w.heap.size ≤ w1.heap.size := HB.out.size
      go_simp
      refine hK.out _ _ (bl4) (fun hHeld => ?_)
      clear hK K
      refine wpAnyH_ready (rs := [6]) (by kernel_rfl) (by simp) ?_
      refine AllReadyH.cons rfl (fun K hK => ?_) AllReadyH.nil
      go_simp
      refine (HHk.out _ bl4).mono ?_
      rintro e w3 ⟨rfl, hbw3⟩
      have bl5 := below_frm bl4 (Frm.of_below (S := fun _ => False) hbw3) bl4.size (fun _ h => h.elim)
      have hblk3 := hblk.frm (Frm.of_below (S := fun _ => False) hbw3) id
      refine hK.out _ _ (bl5) (fun hHeld => ?_)
      clear hK K
      refine wpAnyH_ready (rs := [13]) (by kernel_rfl) (by simp) ?_
      refine AllReadyH.cons rfl (fun K hK => ?_) AllReadyH.nil
      go_simp
      refine (plus_any H x _ HN.out (by have := HX.out; omega)).mono ?_
      rintro e w4 ⟨rfl, hbw4⟩
      have bl6 := below_frm bl5 (Frm.of_below (S := fun _ => False) hbw4) bl5.size (fun _ h => h.elim)
      have hblk4 := hblk3.frm (Frm.of_below (S := fun _ => False) hbw4) id
      refine hK.out _ _ (bl6) (fun hHeld => ?_)
      clear hK K
      refine wpAnyH_ready (rs := [15]) (by kernel_rfl) (by simp) ?_
      refine AllReadyH.cons rfl (fun K hK => ?_) AllReadyH.nil
      refine step_storea agg_big rfl (.tmp 13) (.tmp 39) rfl w1.heap.size [.int .u64 (bh (H + x)), .int .u64 (bl (H + x))] rfl rfl _ _ hblk4 rfl rfl (two_one _ _ _) ?_
      intro w9 hb9 hf9
      have bel9 : Below w.heap.size w w9 := below_frm bl6 hf9 bl6.size (fun k e => by omega)
      refine hK.out _ _ (bel9) (fun hHeld => ?_)
      clear hK K
      refine wpAnyH_done (by kernel_rfl) ?_ _
      clear hHeld
      have HB9 := hide bel9
      have cz0 : w9.cell? ⟨w1.heap.size, 0, none⟩ = some (.int .u64 (bh (H + x))) := hb9.cell 0
      have cz1 : w9.cell? ⟨w1.heap.size, 1, none⟩ = some (.int .u64 (bl (H + x))) := hb9.cell 1
      clear hb9 hf9 bel9 hblk hblk3 hblk4 hge HHk HCell
      by_cases hlt : H + x < 18446744073709551616
      · have e0 : bh (H + x) = 0 := by unfold bh; omega
        have e1 : bl (H + x) = ((H + x : Nat) : Int) := by unfold bl; omega
        have HT : Hid (Late s d L K (j + 1) ((H + x : Nat) : Int) true) := .inl ⟨h1, h5, HF.out, by rw [HLN.out]; exact hlt, by rw [HLN.out], rfl⟩
        rw [e0] at cz0
        rw [e1] at cz1
        rw [e0, e1]
        clear e0 e1 hlt HF HLN HN
        generalize ((H + x : Nat) : Int) = z at *
        go_wp2_with fail
        go_ret2
        exact ⟨⟨_, _, rfl, HT.out⟩, HB9.out⟩
      · have e0 : 0 < bh (H + x) := by unfold bh; omega
        have HT : Hid (Late s d L K (j + 1) 0 false) := .inr ⟨fun h => hlt (by rw [HLN.out] at h; exact h.2.2.2), rfl, rfl⟩
        clear hlt HF HLN HN
        generalize bh (H + x) = z0 at *
        generalize bl (H + x) = z1 at *
        go_wp2_with fail
        go_ret2
        exact ⟨⟨_, _, rfl, HT.out⟩, HB9.out⟩
    · have HL : Hid (Late s d L K n 0 false) := .inr ⟨fun h => hf h.2.2.1, rfl, rfl⟩
      have HB := hide hb
      clear hf hb HC
      go_wp2_with fail
      go_ret2
      exact ⟨⟨_, _, rfl, HL.out⟩, HB.out⟩
end Go.Proofs.Ytcnnekdeakfjeaa
