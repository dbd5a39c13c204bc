/-
  DirectLoaded: the walk.
-/
import Derived.Test.YtjicnfkodieaaaaDoorDsT
import Derived.OrdersHeld
namespace Go.Proofs.YtjicnfkodieaaaaDoor
set_option linter.unusedVariables false
set_option linter.unusedSimpArgs false
open Go.RowKit

/-- Ways that meet: what is left is shown once. -/
theorem meet {R : World → Prop} {A : World → Prop} {G : Prop} (h1 : (∀ W, A W → R W) → G) (h2 : ∀ W, A W → R W) : G := h1 h2
theorem meet2 {R : World → Value → Value → Prop} {A : World → Prop} {G : Prop} (h1 : (∀ W v1 v2, A W → R W v1 v2) → G) (h2 : ∀ W v1 v2, A W → R W v1 v2) : G := h1 h2

set_option maxHeartbeats 60000000 in
set_option maxRecDepth 100000 in
theorem loaded_walk (A0 : Option Addr) (n0 c0 : Nat) (L : List Rec) (A2 : Option Addr) (n2 c2 : Nat) (es : List Nat) (r : Rec) (w : World) (hG : Gl w) (hg0 : 2 ≤ w.heap.size)
    (hL : RRow w A0 n0 L) (hc0 : n0 ≤ c0) (hm0 : c0 ≤ 9223372036854775807) (hE : Rds w A2 n2 (cellsW es)) (hEb : ∀ n ∈ es, n < 4294967296) (hc2 : n2 ≤ c2) (hm2 : c2 ≤ 9223372036854775807) (hr : r.in32) :
    Calls Tryd.prog 12 #[.slice A0 n0 c0, .slice A2 n2 c2, recV r] w fun e w' => e = .returned (.bool true) ∧ Below w.heap.size w w' := by
  obtain ⟨xa, xf, xt, xl⟩ := r
  have HIN := hide hr
  obtain ⟨wb, hwb⟩ : ∃ wb, wb = w.alloc (.cells #[.int .u16 (xa : Int), .int .u32 (xf : Int), .int .u32 (xt : Int), .int .u32 (xl : Int)] 37) := ⟨_, rfl⟩
  have hbl : Blk wb w.heap.size 37 #[.int .u16 (xa : Int), .int .u32 (xf : Int), .int .u32 (xt : Int), .int .u32 (xl : Int)] := by rw [hwb]; exact Blk.new _ _ _
  have hf1 : Frm (fun _ => False) w wb := by rw [hwb]; exact Frm.alloc _ _ _
  have hbw : Below w.heap.size w wb := hf1.below (Nat.le_refl _) (fun _ h => h.elim)
  have hRb := (run_start w hG hg0).frm0 hf1
  have hsz := hf1.size
  have HR0 := hide (run_start wb hRb.gl (by omega))
  have HL := hide (hL.frm hbw)
  have HE := hide (hE.below hbw)
  have HLN : Hid (L.length = n0) := hL.1
  have HSB : Hid (∀ W, Below wb.heap.size wb W → W.cell? ⟨w.heap.size, 0, none⟩ = some (.int .u16 (xa : Int)) ∧ W.cell? ⟨w.heap.size, 1, none⟩ = some (.int .u32 (xf : Int)) ∧ W.cell? ⟨w.heap.size, 2, none⟩ = some (.int .u32 (xt : Int)) ∧ W.cell? ⟨w.heap.size, 3, none⟩ = some (.int .u32 (xl : Int))) := fun W f => by
    have hb2 : Blk W w.heap.size 37 #[.int .u16 (xa : Int), .int .u32 (xf : Int), .int .u32 (xt : Int), .int .u32 (xl : Int)] := (f.block _ hbl.lt).trans hbl
    exact ⟨hb2.cell 0, hb2.cell 1, hb2.cell 2, hb2.cell 3⟩
  have HBX : Hid (∀ {W : World}, Below wb.heap.size wb W → Below w.heap.size w W) := fun f => hbw.trans (f.mono hsz)
  have HWB := hide hwb
  clear hwb hbl hf1 hbw hRb hsz hL hE hG hr hEb
  simp only [recV, recC]
  go_enter Tryd.func12, Tryd.ntmps12
  go_wp2_with fail
  rw [← HWB.out]
  refine (shown9 wb _ HR0.out).mono ?_
  rintro e w1 ⟨rfl, f1⟩
  have HR1 := hide (HR0.out.frm0 f1)
  clear f1 HR0
  go_wp2_with fail
  refine (lnew wb w1 HR1.out).mono ?_
  rintro e w2 ⟨g, bm, rfl, h2, f2, hg2, hb2⟩
  have H2 := hide h2
  clear h2 f2 HR1 hg2 hb2
  go_wp2_with fail
  go_loopw [9] (fun i wr => ∃ k : Nat, k ≤ n0 ∧ k ≤ 60 ∧ i = .int .i64 k ∧ Liv wb wr g bm (foldL (L.take k))) (fun i _ => 60 - (intOf i).toNat)
  case atStart => exact ⟨0, by omega, by omega, rfl, H2.out⟩
  case round =>
    clear H2
    obtain ⟨k, hk, hk5, rfl, hi⟩ := hrel
    have HI := hide hi
    clear hi
    by_cases hlt : k < n0
    · have hlt' : (k : Int) < (n0 : Int) := by omega
      by_cases h50 : k < 60
      · have h50' : (k : Int) < 60 := by omega
        obtain ⟨p, rfl, hat⟩ := HL.out.at (by omega)
        obtain ⟨x, hx⟩ : ∃ x, x = L.getD k default := ⟨_, rfl⟩
        have HXI : Hid x.in32 := by show _; rw [hx]; exact HL.out.in k hlt
        have hxc := hat wr HI.out.run.below k hlt
        rw [← hx] at hxc
        have HS : Hid (foldL (L.take (k + 1)) = addL (foldL (L.take k)) x) := by show _ = _; rw [foldL_succ L k (by rw [HLN.out]; exact hlt), hx]
        clear hx hat
        go_wp2_with (with_reducible refine wpl_loadr (op := ⟨some 36, _, _, _, _, _⟩) rfl (.tmp 35) rfl (p.add (k * 4)) rfl x hxc ?_)
        refine (ladd HI.out x HXI.out).mono ?_
        rintro e w4 ⟨rfl, h4, f4⟩
        rw [← HS.out] at h4
        have H4 := hide h4
        clear h4 f4 hxc HI
        go_wp2_with fail
        go_roundw
        case rel => exact ⟨k + 1, by omega, by omega, by go_num, H4.out⟩
        case measure => simp [intOf]; omega
      · obtain rfl : k = 60 := by omega
        obtain ⟨D, hD⟩ : ∃ D, D = foldL (L.take 60) := ⟨_, rfl⟩
        have H4 := hide HI.out
        have HDM : Hid (D.length ≤ 60) := by show _ ≤ _; rw [hD]; exact foldL_length L 60
        rw [← hD] at H4
        clear hD HI
        go_wp2_with fail
        refine (lbytes H4.out).mono ?_
        rintro e w5 ⟨A5, c5, rfl, ho5, h5, f5⟩
        obtain ⟨hr5, hc5⟩ := own_rds8 ho5 rfl
        have hlt5 := h5.lt
        have HLO := hide (lload_back h5.run A5 c5 _ h5.dir.ok hr5 hc5)
        have H5 := hide h5
        obtain ⟨n5, hn5⟩ : ∃ n, n = (bytesL D).length := ⟨_, rfl⟩
        rw [← hn5] at HLO ⊢
        clear ho5 h5 f5 hr5 hc5 hn5 H4
        go_wp2_with fail
        refine HLO.out.mono ?_
        rintro e w6 ⟨g2, bm2, rfl, f6, h6, hg6, hb6⟩
        have HNE : Hid (g < g2 ∧ g < bm2 ∧ bm < g2 ∧ bm < bm2 ∧ g ≠ bm) := ⟨by omega, by omega, by omega, by omega, hlt5.2.2⟩
        have HA := hide ((H5.out.frm0 f6).frm0 ((Frm.refl _ _).drew))
        have HB := hide (h6.frm0 ((Frm.refl _ _).drew))
        obtain ⟨y, hy⟩ : ∃ y, y = whyL D ⟨xa, xf, xt, xl⟩ := ⟨_, rfl⟩
        obtain ⟨D', hD'⟩ : ∃ D', D' = addL D ⟨xa, xf, xt, xl⟩ := ⟨_, rfl⟩
        have HY1 := hide hy.symm
        have HY2 := hide hD'.symm
        obtain ⟨B, hB⟩ : ∃ B, B = bytesL D' := ⟨_, rfl⟩
        have HBB := hide hB
        obtain ⟨nB, hnB⟩ : ∃ n, n = B.length := ⟨_, rfl⟩
        have HNB := hide hnB
        obtain ⟨n, hn⟩ : ∃ n, n = D'.length := ⟨_, rfl⟩
        have HDN := hide hn.symm
        clear hy hD' hB hnB hn f6 h6 hg6 hb6 hlt5 H5 HLO
        go_wp2_with fail
        refine wp_region_held_drew (S := fun W => W.cell? ⟨w.heap.size, 0, none⟩ = some (.int .u16 (xa : Int)) ∧ W.cell? ⟨w.heap.size, 1, none⟩ = some (.int .u32 (xf : Int)) ∧ W.cell? ⟨w.heap.size, 2, none⟩ = some (.int .u32 (xt : Int)) ∧ W.cell? ⟨w.heap.size, 3, none⟩ = some (.int .u32 (xl : Int))) (by kernel_rfl) (HSB.out _ HA.out.run.below) ?_
        intro hHeld
        obtain ⟨W0, hW0⟩ : ∃ W', W' = w6.drew := ⟨_, rfl⟩
        rw [← hW0] at HA HB hHeld ⊢
        clear hW0
        refine wpAnyH_take (i := 0) (v := ?v1) rfl (by kernel_rfl) (by kernel_rfl) (by kernel_rfl) (fun _ _ _ h => h) (Or.inl ⟨by rfl, ?hy1⟩) (by assumption) ?rest1
        case hy1 => (intro w hSw; (try dsimp only at hSw); go_simp; try with_reducible rfl)
        try simp only [Act.put, List.getElem_toArray, List.getElem_cons_zero, List.setIfInBounds_toArray, List.set_cons_zero, List.set_cons_succ]
        refine wpAnyH_take (i := 1) (v := ?v2) rfl (by kernel_rfl) (by kernel_rfl) (by kernel_rfl) (fun _ _ _ h => h) (Or.inl ⟨by rfl, ?hy2⟩) (by assumption) ?rest2
        case hy2 => (intro w hSw; (try dsimp only at hSw); go_simp; try with_reducible rfl)
        try simp only [Act.put, List.getElem_toArray, List.getElem_cons_zero, List.getElem_cons_succ, List.setIfInBounds_toArray, List.set_cons_zero, List.set_cons_succ]
        refine wpAnyH_take (i := 2) (v := ?v3) rfl (by kernel_rfl) (by kernel_rfl) (by kernel_rfl) (fun _ _ _ h => h) (Or.inl ⟨by rfl, ?hy3⟩) (by assumption) ?rest3
        case hy3 => (intro w hSw; (try dsimp only at hSw); go_simp; try with_reducible rfl)
        try simp only [Act.put, List.getElem_toArray, List.getElem_cons_zero, List.getElem_cons_succ, List.setIfInBounds_toArray, List.set_cons_zero, List.set_cons_succ]
        refine wpAnyH_take (i := 3) (v := ?v4) rfl (by kernel_rfl) (by kernel_rfl) (by kernel_rfl) (fun _ _ _ h => h) (Or.inl ⟨by rfl, ?hy4⟩) (by assumption) ?rest4
        case hy4 => (intro w hSw; (try dsimp only at hSw); go_simp; try with_reducible rfl)
        try simp only [Act.put, List.getElem_toArray, List.getElem_cons_zero, List.getElem_cons_succ, List.setIfInBounds_toArray, List.set_cons_zero, List.set_cons_succ]
        refine wpAnyH_take (i := 4) (v := ?v5) rfl (by kernel_rfl) (by kernel_rfl) (by kernel_rfl) (fun _ _ _ h => h) (Or.inl ⟨by rfl, ?hy5⟩) (by assumption) ?rest5
        case hy5 => (intro w hSw; (try dsimp only at hSw); go_simp; try with_reducible rfl)
        try simp only [Act.put, List.getElem_toArray, List.getElem_cons_zero, List.getElem_cons_succ, List.setIfInBounds_toArray, List.set_cons_zero, List.set_cons_succ]
        refine wpAnyH_take (i := 5) (v := ?v6) rfl (by kernel_rfl) (by kernel_rfl) (by kernel_rfl) (fun _ _ _ h => h) (Or.inl ⟨by rfl, ?hy6⟩) (by assumption) ?rest6
        case hy6 => (intro w hSw; (try dsimp only at hSw); go_simp; try with_reducible rfl)
        try simp only [Act.put, List.getElem_toArray, List.getElem_cons_zero, List.getElem_cons_succ, List.setIfInBounds_toArray, List.set_cons_zero, List.set_cons_succ]
        refine wpAnyH_take (i := 6) (v := ?v7) rfl (by kernel_rfl) (by kernel_rfl) (by kernel_rfl) (fun _ _ _ h => h) (Or.inl ⟨by rfl, ?hy7⟩) (by assumption) ?rest7
        case hy7 => (intro w hSw; (try dsimp only at hSw); go_simp; try with_reducible rfl)
        try simp only [Act.put, List.getElem_toArray, List.getElem_cons_zero, List.getElem_cons_succ, List.setIfInBounds_toArray, List.set_cons_zero, List.set_cons_succ]
        refine wpAnyH_take (i := 7) (v := ?v8) rfl (by kernel_rfl) (by kernel_rfl) (by kernel_rfl) (fun _ _ _ h => h) (Or.inl ⟨by rfl, ?hy8⟩) (by assumption) ?rest8
        case hy8 => (intro w hSw; (try dsimp only at hSw); go_simp; try with_reducible rfl)
        try simp only [Act.put, List.getElem_toArray, List.getElem_cons_zero, List.getElem_cons_succ, List.setIfInBounds_toArray, List.set_cons_zero, List.set_cons_succ]
        refine wpAnyH_take (i := 8) (v := ?v9) rfl (by kernel_rfl) (by kernel_rfl) (by kernel_rfl) (fun _ _ _ h => h) (Or.inl ⟨by rfl, ?hy9⟩) (by assumption) ?rest9
        case hy9 => (intro w hSw; (try dsimp only at hSw); go_simp; try with_reducible rfl)
        try simp only [Act.put, List.getElem_toArray, List.getElem_cons_zero, List.getElem_cons_succ, List.setIfInBounds_toArray, List.set_cons_zero, List.set_cons_succ]
        refine wpAnyH_take (i := 10) (v := ?v10) rfl (by kernel_rfl) (by kernel_rfl) (by kernel_rfl) (fun _ _ _ h => h) (Or.inl ⟨by rfl, ?hy10⟩) (by assumption) ?rest10
        case hy10 => (intro w hSw; (try dsimp only at hSw); go_simp; try with_reducible rfl)
        try simp only [Act.put, List.getElem_toArray, List.getElem_cons_zero, List.getElem_cons_succ, List.setIfInBounds_toArray, List.set_cons_zero, List.set_cons_succ]
        refine wpAnyH_take (i := 11) (v := ?v11) rfl (by kernel_rfl) (by kernel_rfl) (by kernel_rfl) (fun _ _ _ h => h) (Or.inl ⟨by rfl, ?hy11⟩) (by assumption) ?rest11
        case hy11 => (intro w hSw; (try dsimp only at hSw); go_simp; try with_reducible rfl)
        try simp only [Act.put, List.getElem_toArray, List.getElem_cons_zero, List.getElem_cons_succ, List.setIfInBounds_toArray, List.set_cons_zero, List.set_cons_succ]
        refine wpAnyH_ready (rs := [9]) (by kernel_rfl) (by simp) ?_
        refine AllReadyH.cons rfl (fun K hK => ?_) AllReadyH.nil
        go_simp
        have hadd := ladd_is HA.out ⟨xa, xf, xt, xl⟩ HIN.out y D' HY1.out HY2.out
        simp only [recV, recC] at hadd
        refine hadd.mono ?_
        clear hadd
        rintro e_ Wn ⟨rfl, h, f⟩
        have HB := hide (HB.out.frm f (fun e => by have := HNE.out; omega) (fun e => by have := HNE.out; omega) (fun i hi => by rw [hi]; exact h.low.2))
        have HA := hide h
        clear h f
        refine hK.out _ _ (HSB.out _ HA.out.run.below) (fun hHeld => ?_)
        clear hK K
        refine wpAnyH_ready (rs := [12]) (by kernel_rfl) (by simp) ?_
        refine AllReadyH.cons rfl (fun K hK => ?_) AllReadyH.nil
        go_simp
        have hadd := ladd_is HB.out ⟨xa, xf, xt, xl⟩ HIN.out y D' HY1.out HY2.out
        simp only [recV, recC] at hadd
        refine hadd.mono ?_
        clear hadd
        rintro e_ Wn ⟨rfl, h, f⟩
        have HA := hide (HA.out.frm f (fun e => by have := HNE.out; omega) (fun e => by have := HNE.out; omega) (fun i hi => by rw [hi]; exact h.low.2))
        have HB := hide h
        clear h f
        refine hK.out _ _ (HSB.out _ HA.out.run.below) (fun hHeld => ?_)
        clear hK K
        refine wpAnyH_take (i := 13) (v := ?v12) rfl (by kernel_rfl) (by kernel_rfl) (by kernel_rfl) (fun _ _ _ h => h) (Or.inl ⟨by rfl, ?hy12⟩) (by assumption) ?rest12
        case hy12 => (intro w hSw; (try dsimp only at hSw); go_simp; try with_reducible rfl)
        try simp only [Act.put, List.getElem_toArray, List.getElem_cons_zero, List.getElem_cons_succ, List.setIfInBounds_toArray, List.set_cons_zero, List.set_cons_succ]
        refine wpAnyH_take (i := 14) (v := ?v13) rfl (by kernel_rfl) (by kernel_rfl) (by kernel_rfl) (fun _ _ _ h => h) (Or.inl ⟨by rfl, ?hy13⟩) (by assumption) ?rest13
        case hy13 => (intro w hSw; (try dsimp only at hSw); go_simp; try with_reducible rfl)
        try simp only [Act.put, List.getElem_toArray, List.getElem_cons_zero, List.getElem_cons_succ, List.setIfInBounds_toArray, List.set_cons_zero, List.set_cons_succ]
        refine wpAnyH_take (i := 15) (v := ?v14) rfl (by kernel_rfl) (by kernel_rfl) (by kernel_rfl) (fun _ _ _ h => h) (Or.inl ⟨by rfl, ?hy14⟩) (by assumption) ?rest14
        case hy14 => (intro w hSw; (try dsimp only at hSw); go_simp; try with_reducible rfl)
        try simp only [Act.put, List.getElem_toArray, List.getElem_cons_zero, List.getElem_cons_succ, List.setIfInBounds_toArray, List.set_cons_zero, List.set_cons_succ]
        refine wpAnyH_take (i := 16) (v := ?v15) rfl (by kernel_rfl) (by kernel_rfl) (by kernel_rfl) (fun _ _ _ h => h) (Or.inl ⟨by rfl, ?hy15⟩) (by assumption) ?rest15
        case hy15 => (intro w hSw; (try dsimp only at hSw); go_simp; try with_reducible rfl)
        try simp only [Act.put, List.getElem_toArray, List.getElem_cons_zero, List.getElem_cons_succ, List.setIfInBounds_toArray, List.set_cons_zero, List.set_cons_succ]
        refine wpAnyH_take (i := 19) (v := ?v16) rfl (by kernel_rfl) (by kernel_rfl) (by kernel_rfl) (fun _ _ _ h => h) (Or.inl ⟨by rfl, ?hy16⟩) (by assumption) ?rest16
        case hy16 => (intro w hSw; (try dsimp only at hSw); go_simp; try with_reducible rfl)
        try simp only [Act.put, List.getElem_toArray, List.getElem_cons_zero, List.getElem_cons_succ, List.setIfInBounds_toArray, List.set_cons_zero, List.set_cons_succ]
        apply meet2 (A := fun W => Liv wb W g bm D' ∧ Liv wb W g2 bm2 D')
        · intro key
          refine wpAnyH_ready (rs := [17]) (by kernel_rfl) (by simp) ?_
          refine AllReadyH.cons rfl (fun K hK => ?_) AllReadyH.nil
          go_simp
          refine (lbytes HA.out).mono ?_
          rintro e_ Wn ⟨A1, c1, rfl, ho, h, f⟩
          obtain ⟨hr, _⟩ := own_rds8 ho rfl
          rw [← HBB.out, ← HNB.out] at hr ⊢
          have HCA := hide (fun W' (b : Below Wn.heap.size Wn W') => conv_rds W' 50 9 5 Tryd.underlying50 Tryd.underlying5 Tryd.underlying9 A1 nB c1 B (hr.below b))
          have hcvA := HCA.out _ (Below.refl _ _)
          have HA := hide h
          have HB := hide (HB.out.frm0 f)
          have HF := hide (f.below (Nat.le_refl _) (fun _ h => h.elim))
          clear ho h f hr
          refine hK.out _ _ (HSB.out _ HA.out.run.below) (fun hHeld => ?_)
          clear hK K
          refine wpAnyH_ready (rs := [18, 20]) (by kernel_rfl) (by simp) ?_
          refine AllReadyH.cons rfl (fun K hK => ?_) ?_
          · go_simp
            refine hK.out _ _ (HSB.out _ HA.out.run.below) (fun hHeld => ?_)
            clear hK K
            refine wpAnyH_ready (rs := [20]) (by kernel_rfl) (by simp) ?_
            refine AllReadyH.cons rfl (fun K hK => ?_) AllReadyH.nil
            go_simp
            refine (lbytes HB.out).mono ?_
            rintro e_ Wn ⟨A2, c2, rfl, ho, h, f⟩
            obtain ⟨hr, _⟩ := own_rds8 ho rfl
            rw [← HBB.out, ← HNB.out] at hr ⊢
            have HCB := hide (fun W' (b : Below Wn.heap.size Wn W') => conv_rds W' 50 9 5 Tryd.underlying50 Tryd.underlying5 Tryd.underlying9 A2 nB c2 B (hr.below b))
            have hcvB := HCB.out _ (Below.refl _ _)
            have HB := hide h
            have HA := hide (HA.out.frm0 f)
            have HF := hide (f.below (Nat.le_refl _) (fun _ h => h.elim))
            clear ho h f hr
            refine hK.out _ _ (HSB.out _ HA.out.run.below) (fun hHeld => ?_)
            clear hK K
            refine wpAnyH_ready (rs := [21]) (by kernel_rfl) (by simp) ?_
            refine AllReadyH.cons rfl (fun K hK => ?_) AllReadyH.nil
            go_simp
            refine hK.out _ _ (HSB.out _ HA.out.run.below) (fun hHeld => ?_)
            clear hK K
            generalize Value.slice A1 nB c1 = v1
            generalize Value.slice A2 nB c2 = v2
            exact key _ v1 v2 ⟨HA.out, HB.out⟩
          refine AllReadyH.cons rfl (fun K hK => ?_) AllReadyH.nil
          go_simp
          refine (lbytes HB.out).mono ?_
          rintro e_ Wn ⟨A2, c2, rfl, ho, h, f⟩
          obtain ⟨hr, _⟩ := own_rds8 ho rfl
          rw [← HBB.out, ← HNB.out] at hr ⊢
          have HCB := hide (fun W' (b : Below Wn.heap.size Wn W') => conv_rds W' 50 9 5 Tryd.underlying50 Tryd.underlying5 Tryd.underlying9 A2 nB c2 B (hr.below b))
          have hcvB := HCB.out _ (Below.refl _ _)
          have HB := hide h
          have HA := hide (HA.out.frm0 f)
          have HF := hide (f.below (Nat.le_refl _) (fun _ h => h.elim))
          clear ho h f hr
          have hcvA := HCA.out _ HF.out
          refine hK.out _ _ (HSB.out _ HA.out.run.below) (fun hHeld => ?_)
          clear hK K
          refine wpAnyH_ready (rs := [18, 21]) (by kernel_rfl) (by simp) ?_
          refine AllReadyH.cons rfl (fun K hK => ?_) ?_
          · go_simp
            refine hK.out _ _ (HSB.out _ HA.out.run.below) (fun hHeld => ?_)
            clear hK K
            refine wpAnyH_ready (rs := [21]) (by kernel_rfl) (by simp) ?_
            refine AllReadyH.cons rfl (fun K hK => ?_) AllReadyH.nil
            go_simp
            refine hK.out _ _ (HSB.out _ HA.out.run.below) (fun hHeld => ?_)
            clear hK K
            generalize Value.slice A1 nB c1 = v1
            generalize Value.slice A2 nB c2 = v2
            exact key _ v1 v2 ⟨HA.out, HB.out⟩
          refine AllReadyH.cons rfl (fun K hK => ?_) AllReadyH.nil
          go_simp
          refine hK.out _ _ (HSB.out _ HA.out.run.below) (fun hHeld => ?_)
          clear hK K
          refine wpAnyH_ready (rs := [18]) (by kernel_rfl) (by simp) ?_
          refine AllReadyH.cons rfl (fun K hK => ?_) AllReadyH.nil
          go_simp
          refine hK.out _ _ (HSB.out _ HA.out.run.below) (fun hHeld => ?_)
          clear hK K
          generalize Value.slice A1 nB c1 = v1
          generalize Value.slice A2 nB c2 = v2
          exact key _ v1 v2 ⟨HA.out, HB.out⟩
        clear hHeld HA HB
        rintro W0 v1 v2 ⟨ha, hb⟩
        have HA := hide ha
        have HB := hide hb
        have hHeld := HSB.out _ ha.run.below
        clear ha hb
        refine wpAnyH_take (i := 22) (v := ?v17) rfl (by kernel_rfl) (by kernel_rfl) (by kernel_rfl) (fun _ _ _ h => h) (Or.inl ⟨by rfl, ?hy17⟩) (by assumption) ?rest17
        case hy17 => (intro w hSw; (try dsimp only at hSw); go_simp; try with_reducible rfl)
        try simp only [Act.put, List.getElem_toArray, List.getElem_cons_zero, List.getElem_cons_succ, List.setIfInBounds_toArray, List.set_cons_zero, List.set_cons_succ]
        refine wpAnyH_take (i := 23) (v := ?v18) rfl (by kernel_rfl) (by kernel_rfl) (by kernel_rfl) (fun _ _ _ h => h) (Or.inl ⟨by rfl, ?hy18⟩) (by assumption) ?rest18
        case hy18 => (intro w hSw; (try dsimp only at hSw); go_simp; try with_reducible rfl)
        try simp only [Act.put, List.getElem_toArray, List.getElem_cons_zero, List.getElem_cons_succ, List.setIfInBounds_toArray, List.set_cons_zero, List.set_cons_succ]
        refine wpAnyH_take (i := 24) (v := ?v19) rfl (by kernel_rfl) (by kernel_rfl) (by kernel_rfl) (fun _ _ _ h => h) (Or.inl ⟨by rfl, ?hy19⟩) (by assumption) ?rest19
        case hy19 => (intro w hSw; (try dsimp only at hSw); go_simp; try with_reducible rfl)
        try simp only [Act.put, List.getElem_toArray, List.getElem_cons_zero, List.getElem_cons_succ, List.setIfInBounds_toArray, List.set_cons_zero, List.set_cons_succ]
        refine wpAnyH_take (i := 25) (v := ?v20) rfl (by kernel_rfl) (by kernel_rfl) (by kernel_rfl) (fun _ _ _ h => h) (Or.inl ⟨by rfl, ?hy20⟩) (by assumption) ?rest20
        case hy20 => (intro w hSw; (try dsimp only at hSw); go_simp; try with_reducible rfl)
        try simp only [Act.put, List.getElem_toArray, List.getElem_cons_zero, List.getElem_cons_succ, List.setIfInBounds_toArray, List.set_cons_zero, List.set_cons_succ]
        refine wpAnyH_take (i := 27) (v := ?v21) rfl (by kernel_rfl) (by kernel_rfl) (by kernel_rfl) (fun _ _ _ h => h) (Or.inl ⟨by rfl, ?hy21⟩) (by assumption) ?rest21
        case hy21 => (intro w hSw; (try dsimp only at hSw); go_simp; try with_reducible rfl)
        try simp only [Act.put, List.getElem_toArray, List.getElem_cons_zero, List.getElem_cons_succ, List.setIfInBounds_toArray, List.set_cons_zero, List.set_cons_succ]
        refine wpAnyH_ready (rs := [26]) (by kernel_rfl) (by simp) ?_
        refine AllReadyH.cons rfl (fun K hK => ?_) AllReadyH.nil
        go_simp
        refine (llen_is HA.out n HDN.out).mono ?_
        rintro e_ W3 ⟨rfl, rfl⟩
        refine hK.out _ _ (HSB.out _ HA.out.run.below) (fun hHeld => ?_)
        clear hK K
        refine wpAnyH_ready (rs := [28]) (by kernel_rfl) (by simp) ?_
        refine AllReadyH.cons rfl (fun K hK => ?_) AllReadyH.nil
        go_simp
        refine (llen_is HB.out n HDN.out).mono ?_
        rintro e_ W3 ⟨rfl, rfl⟩
        refine hK.out _ _ (HSB.out _ HA.out.run.below) (fun hHeld => ?_)
        clear hK K
        refine wpAnyH_take (i := 29) (v := ?v22) rfl (by kernel_rfl) (by kernel_rfl) (by kernel_rfl) (fun _ _ _ h => h) (Or.inl ⟨by rfl, ?hy22⟩) (by assumption) ?rest22
        case hy22 => (intro w hSw; (try dsimp only at hSw); go_simp; try with_reducible rfl)
        try simp only [Act.put, List.getElem_toArray, List.getElem_cons_zero, List.getElem_cons_succ, List.setIfInBounds_toArray, List.set_cons_zero, List.set_cons_succ]
        refine wpAnyH_take (i := 30) (v := ?v23) rfl (by kernel_rfl) (by kernel_rfl) (by kernel_rfl) (fun _ _ _ h => h) (Or.inl ⟨by rfl, ?hy23⟩) (by assumption) ?rest23
        case hy23 => (intro w hSw; (try dsimp only at hSw); go_simp; try with_reducible rfl)
        try simp only [Act.put, List.getElem_toArray, List.getElem_cons_zero, List.getElem_cons_succ, List.setIfInBounds_toArray, List.set_cons_zero, List.set_cons_succ]
        refine wpAnyH_done (by kernel_rfl) ?_ _
        clear hHeld
        go_wp2_with fail
        have HPA := hide HA.out
        have HPB := hide HB.out
        clear HA HB
        go_loopw [12] (fun i wr => ∃ j : Nat, j ≤ n2 ∧ j ≤ 30 ∧ i = .int .i64 j ∧ Liv wb wr g bm D' ∧ Liv wb wr g2 bm2 D') (fun i _ => 30 - (intOf i).toNat)
        case atStart => exact ⟨0, by omega, by omega, rfl, HPA.out, HPB.out⟩
        case round =>
          clear HPA HPB
          obtain ⟨j, hj, hj3, rfl, h5, ht5⟩ := hrel
          have H5 := hide h5
          have HT5 := hide ht5
          clear h5 ht5
          by_cases hlt2 : j < n2
          · have hlt2' : (j : Int) < (n2 : Int) := by omega
            by_cases h30 : j < 30
            · have h30' : (j : Int) < 30 := by omega
              obtain ⟨p2, rfl, hc2'⟩ := HE.out.2 (by omega)
              have hel : es.length = n2 := by have := HE.out.1; rwa [cellsW_length] at this
              obtain ⟨v, hv⟩ : ∃ v, v = es.getD j 0 := ⟨_, rfl⟩
              have hcv : ∀ w', Below wb.heap.size wb w' → w'.cell? (p2.add j) = some (.int .u32 (v : Int)) := fun w' f => by
                have h1 := hc2' j _ (cellsW_at es j (by omega))
                rw [f.cell (World.block_lt_of_cell? wb _ h1), h1, hv]
              have HCV := hide hcv
              clear hcv hv hel hc2'
              go_wp2_with fail
              go_loopw [13] (fun x wr => ∃ q : Nat, q ≤ 16 ∧ x = .int .u16 q ∧ Liv wb wr g bm D' ∧ Liv wb wr g2 bm2 D') (fun x _ => 16 - (intOf x).toNat)
              case atStart => exact ⟨0, by omega, rfl, H5.out, HT5.out⟩
              case round =>
                clear H5 HT5
                obtain ⟨q, hq, rfl, h5, ht5⟩ := hrel
                have H5 := hide h5
                have HT5 := hide ht5
                clear h5 ht5
                have cv := HCV.out wr H5.out.run.below
                by_cases hq16 : q < 16
                · have hq16' : (q : Int) < 16 := by omega
                  obtain ⟨r, hr⟩ : ∃ r, r = foundR D' q v := ⟨_, rfl⟩
                  obtain ⟨b, hb⟩ : ∃ b, b = foundB D' q v := ⟨_, rfl⟩
                  have HF1 := hide (lfind_is H5.out q v r b hr.symm hb.symm)
                  have HFN : Hid (foundR D' q v = r ∧ foundB D' q v = b) := ⟨hr.symm, hb.symm⟩
                  clear hr hb
                  go_wp2_with fail
                  refine HF1.out.mono ?_
                  rintro e w6 ⟨rfl, h6, f6⟩
                  have H6 := hide h6
                  have HT6 := hide (HT5.out.frm0 f6)
                  clear h6 f6 HF1 H5 HT5 cv
                  go_wp2_with (first
                    | ((with_reducible refine wpl_alloca (op := ⟨some 14, _, _, _, _, _⟩) rfl _ rfl _ zeroR ?_); intro g13 w7 hB7 hs7 hF7)
                    | ((refine wpl_storea aggR rfl (.tmp 14) (.tmp 97) rfl g13 (recC r) rfl rfl _ _ hB7 rfl rfl (recC_one r) ?_); intro w8 hB8 hF8; have hF68 := frm_join w6 hF7 hF8 (fun i hi => by omega); have H8 := hide (H6.out.frm0 hF68.out); have HT8 := hide (HT6.out.frm0 hF68.out); have HB8 := hide hB8; have cv := HCV.out w8 H8.out.run.below; clear hB7 hB8 hF7 hF8 hF68 hs7 H6 HT6))
                  refine (lfind_is HT8.out q v r b HFN.out.1 HFN.out.2).mono ?_
                  rintro e w9 ⟨rfl, h9, f9⟩
                  have H9 := hide (H8.out.frm0 f9)
                  have HT9 := hide h9
                  have HB9 := hide (HB8.out.frm0a f9)
                  clear h9 f9 H8 HT8 HB8 cv
                  go_wp2_with (first
                    | ((with_reducible refine wpl_alloca (op := ⟨some 16, _, _, _, _, _⟩) rfl _ rfl _ zeroR ?_); intro g15 w10 hB10 hs10 hF10)
                    | ((refine wpl_storea aggR rfl (.tmp 16) (.tmp 107) rfl g15 (recC r) rfl rfl _ _ hB10 rfl rfl (recC_one r) ?_); intro w11 hB11 hF11; have hF911 := frm_join w9 hF10 hF11 (fun i hi => by omega); have H11 := hide (H9.out.frm0 hF911.out); have HT11 := hide (HT9.out.frm0 hF911.out); have hB13 := blk_lit (HB9.out.frm0a hF911.out); have hB15 := blk_lit hB11; clear hB11 hB10 hF10 hF11 hF911 hs10 H9 HT9 HB9)
                    | (with_reducible refine wpl_loada (op := ⟨some 109, _, _, _, _, _⟩) aggR rfl (.tmp 14) rfl g13 0 rfl _ [.int .u16 (r.a : Int), .int .u32 (r.f : Int), .int .u32 (r.t : Int), .int .u32 (r.l : Int)] [.int .u16 (r.a : Int), .int .u32 (r.f : Int), .int .u32 (r.t : Int), .int .u32 (r.l : Int)] hB13 (take4 _ _ _ _) (len4 _ _ _ _) ?_)
                    | (with_reducible refine wpl_loada (op := ⟨some 110, _, _, _, _, _⟩) aggR rfl (.tmp 16) rfl g15 0 rfl _ [.int .u16 (r.a : Int), .int .u32 (r.f : Int), .int .u32 (r.t : Int), .int .u32 (r.l : Int)] [.int .u16 (r.a : Int), .int .u32 (r.f : Int), .int .u32 (r.t : Int), .int .u32 (r.l : Int)] hB15 (take4 _ _ _ _) (len4 _ _ _ _) ?_))
                  go_roundw
                  case rel => exact ⟨q + 1, by omega, by go_num, H11.out, HT11.out⟩
                  case measure => simp [intOf]; omega
                · obtain rfl : q = 16 := by omega
                  clear cv
                  go_wp2_with fail
                  go_roundw
                  case rel => exact ⟨j + 1, by omega, by omega, by go_num, H5.out, HT5.out⟩
                  case measure => simp [intOf]; omega
            · have h30' : ¬ (j : Int) < 30 := by omega
              have HBEL := hide (HBX.out H5.out.run.below)
              clear H5 HT5
              go_wp2_with fail
              go_ret
              exact ⟨rfl, HBEL.out⟩
          · have hlt2' : ¬ (j : Int) < (n2 : Int) := by omega
            have HBEL := hide (HBX.out H5.out.run.below)
            clear H5 HT5
            go_wp2_with fail
            go_ret
            exact ⟨rfl, HBEL.out⟩
    · obtain rfl : k = n0 := by omega
      have hlt' : ¬ (k : Int) < (k : Int) := by omega
      obtain ⟨D, hD⟩ : ∃ D, D = foldL (L.take k) := ⟨_, rfl⟩
      have H4 := hide HI.out
      have HDM : Hid (D.length ≤ 60) := by show _ ≤ _; rw [hD]; exact Nat.le_trans (foldL_length L k) hk5
      rw [← hD] at H4
      clear hD HI
      go_wp2_with fail
      refine (lbytes H4.out).mono ?_
      rintro e w5 ⟨A5, c5, rfl, ho5, h5, f5⟩
      obtain ⟨hr5, hc5⟩ := own_rds8 ho5 rfl
      have hlt5 := h5.lt
      have HLO := hide (lload_back h5.run A5 c5 _ h5.dir.ok hr5 hc5)
      have H5 := hide h5
      obtain ⟨n5, hn5⟩ : ∃ n, n = (bytesL D).length := ⟨_, rfl⟩
      rw [← hn5] at HLO ⊢
      clear ho5 h5 f5 hr5 hc5 hn5 H4
      go_wp2_with fail
      refine HLO.out.mono ?_
      rintro e w6 ⟨g2, bm2, rfl, f6, h6, hg6, hb6⟩
      have HNE : Hid (g < g2 ∧ g < bm2 ∧ bm < g2 ∧ bm < bm2 ∧ g ≠ bm) := ⟨by omega, by omega, by omega, by omega, hlt5.2.2⟩
      have HA := hide ((H5.out.frm0 f6).frm0 ((Frm.refl _ _).drew))
      have HB := hide (h6.frm0 ((Frm.refl _ _).drew))
      obtain ⟨y, hy⟩ : ∃ y, y = whyL D ⟨xa, xf, xt, xl⟩ := ⟨_, rfl⟩
      obtain ⟨D', hD'⟩ : ∃ D', D' = addL D ⟨xa, xf, xt, xl⟩ := ⟨_, rfl⟩
      have HY1 := hide hy.symm
      have HY2 := hide hD'.symm
      obtain ⟨B, hB⟩ : ∃ B, B = bytesL D' := ⟨_, rfl⟩
      have HBB := hide hB
      obtain ⟨nB, hnB⟩ : ∃ n, n = B.length := ⟨_, rfl⟩
      have HNB := hide hnB
      obtain ⟨n, hn⟩ : ∃ n, n = D'.length := ⟨_, rfl⟩
      have HDN := hide hn.symm
      clear hy hD' hB hnB hn f6 h6 hg6 hb6 hlt5 H5 HLO
      go_wp2_with fail
      refine wp_region_held_drew (S := fun W => W.cell? ⟨w.heap.size, 0, none⟩ = some (.int .u16 (xa : Int)) ∧ W.cell? ⟨w.heap.size, 1, none⟩ = some (.int .u32 (xf : Int)) ∧ W.cell? ⟨w.heap.size, 2, none⟩ = some (.int .u32 (xt : Int)) ∧ W.cell? ⟨w.heap.size, 3, none⟩ = some (.int .u32 (xl : Int))) (by kernel_rfl) (HSB.out _ HA.out.run.below) ?_
      intro hHeld
      obtain ⟨W0, hW0⟩ : ∃ W', W' = w6.drew := ⟨_, rfl⟩
      rw [← hW0] at HA HB hHeld ⊢
      clear hW0
      refine wpAnyH_take (i := 0) (v := ?v24) rfl (by kernel_rfl) (by kernel_rfl) (by kernel_rfl) (fun _ _ _ h => h) (Or.inl ⟨by rfl, ?hy24⟩) (by assumption) ?rest24
      case hy24 => (intro w hSw; (try dsimp only at hSw); go_simp; try with_reducible rfl)
      try simp only [Act.put, List.getElem_toArray, List.getElem_cons_zero, List.setIfInBounds_toArray, List.set_cons_zero, List.set_cons_succ]
      refine wpAnyH_take (i := 1) (v := ?v25) rfl (by kernel_rfl) (by kernel_rfl) (by kernel_rfl) (fun _ _ _ h => h) (Or.inl ⟨by rfl, ?hy25⟩) (by assumption) ?rest25
      case hy25 => (intro w hSw; (try dsimp only at hSw); go_simp; try with_reducible rfl)
      try simp only [Act.put, List.getElem_toArray, List.getElem_cons_zero, List.getElem_cons_succ, List.setIfInBounds_toArray, List.set_cons_zero, List.set_cons_succ]
      refine wpAnyH_take (i := 2) (v := ?v26) rfl (by kernel_rfl) (by kernel_rfl) (by kernel_rfl) (fun _ _ _ h => h) (Or.inl ⟨by rfl, ?hy26⟩) (by assumption) ?rest26
      case hy26 => (intro w hSw; (try dsimp only at hSw); go_simp; try with_reducible rfl)
      try simp only [Act.put, List.getElem_toArray, List.getElem_cons_zero, List.getElem_cons_succ, List.setIfInBounds_toArray, List.set_cons_zero, List.set_cons_succ]
      refine wpAnyH_take (i := 3) (v := ?v27) rfl (by kernel_rfl) (by kernel_rfl) (by kernel_rfl) (fun _ _ _ h => h) (Or.inl ⟨by rfl, ?hy27⟩) (by assumption) ?rest27
      case hy27 => (intro w hSw; (try dsimp only at hSw); go_simp; try with_reducible rfl)
      try simp only [Act.put, List.getElem_toArray, List.getElem_cons_zero, List.getElem_cons_succ, List.setIfInBounds_toArray, List.set_cons_zero, List.set_cons_succ]
      refine wpAnyH_take (i := 4) (v := ?v28) rfl (by kernel_rfl) (by kernel_rfl) (by kernel_rfl) (fun _ _ _ h => h) (Or.inl ⟨by rfl, ?hy28⟩) (by assumption) ?rest28
      case hy28 => (intro w hSw; (try dsimp only at hSw); go_simp; try with_reducible rfl)
      try simp only [Act.put, List.getElem_toArray, List.getElem_cons_zero, List.getElem_cons_succ, List.setIfInBounds_toArray, List.set_cons_zero, List.set_cons_succ]
      refine wpAnyH_take (i := 5) (v := ?v29) rfl (by kernel_rfl) (by kernel_rfl) (by kernel_rfl) (fun _ _ _ h => h) (Or.inl ⟨by rfl, ?hy29⟩) (by assumption) ?rest29
      case hy29 => (intro w hSw; (try dsimp only at hSw); go_simp; try with_reducible rfl)
      try simp only [Act.put, List.getElem_toArray, List.getElem_cons_zero, List.getElem_cons_succ, List.setIfInBounds_toArray, List.set_cons_zero, List.set_cons_succ]
      refine wpAnyH_take (i := 6) (v := ?v30) rfl (by kernel_rfl) (by kernel_rfl) (by kernel_rfl) (fun _ _ _ h => h) (Or.inl ⟨by rfl, ?hy30⟩) (by assumption) ?rest30
      case hy30 => (intro w hSw; (try dsimp only at hSw); go_simp; try with_reducible rfl)
      try simp only [Act.put, List.getElem_toArray, List.getElem_cons_zero, List.getElem_cons_succ, List.setIfInBounds_toArray, List.set_cons_zero, List.set_cons_succ]
      refine wpAnyH_take (i := 7) (v := ?v31) rfl (by kernel_rfl) (by kernel_rfl) (by kernel_rfl) (fun _ _ _ h => h) (Or.inl ⟨by rfl, ?hy31⟩) (by assumption) ?rest31
      case hy31 => (intro w hSw; (try dsimp only at hSw); go_simp; try with_reducible rfl)
      try simp only [Act.put, List.getElem_toArray, List.getElem_cons_zero, List.getElem_cons_succ, List.setIfInBounds_toArray, List.set_cons_zero, List.set_cons_succ]
      refine wpAnyH_take (i := 8) (v := ?v32) rfl (by kernel_rfl) (by kernel_rfl) (by kernel_rfl) (fun _ _ _ h => h) (Or.inl ⟨by rfl, ?hy32⟩) (by assumption) ?rest32
      case hy32 => (intro w hSw; (try dsimp only at hSw); go_simp; try with_reducible rfl)
      try simp only [Act.put, List.getElem_toArray, List.getElem_cons_zero, List.getElem_cons_succ, List.setIfInBounds_toArray, List.set_cons_zero, List.set_cons_succ]
      refine wpAnyH_take (i := 10) (v := ?v33) rfl (by kernel_rfl) (by kernel_rfl) (by kernel_rfl) (fun _ _ _ h => h) (Or.inl ⟨by rfl, ?hy33⟩) (by assumption) ?rest33
      case hy33 => (intro w hSw; (try dsimp only at hSw); go_simp; try with_reducible rfl)
      try simp only [Act.put, List.getElem_toArray, List.getElem_cons_zero, List.getElem_cons_succ, List.setIfInBounds_toArray, List.set_cons_zero, List.set_cons_succ]
      refine wpAnyH_take (i := 11) (v := ?v34) rfl (by kernel_rfl) (by kernel_rfl) (by kernel_rfl) (fun _ _ _ h => h) (Or.inl ⟨by rfl, ?hy34⟩) (by assumption) ?rest34
      case hy34 => (intro w hSw; (try dsimp only at hSw); go_simp; try with_reducible rfl)
      try simp only [Act.put, List.getElem_toArray, List.getElem_cons_zero, List.getElem_cons_succ, List.setIfInBounds_toArray, List.set_cons_zero, List.set_cons_succ]
      refine wpAnyH_ready (rs := [9]) (by kernel_rfl) (by simp) ?_
      refine AllReadyH.cons rfl (fun K hK => ?_) AllReadyH.nil
      go_simp
      have hadd := ladd_is HA.out ⟨xa, xf, xt, xl⟩ HIN.out y D' HY1.out HY2.out
      simp only [recV, recC] at hadd
      refine hadd.mono ?_
      clear hadd
      rintro e_ Wn ⟨rfl, h, f⟩
      have HB := hide (HB.out.frm f (fun e => by have := HNE.out; omega) (fun e => by have := HNE.out; omega) (fun i hi => by rw [hi]; exact h.low.2))
      have HA := hide h
      clear h f
      refine hK.out _ _ (HSB.out _ HA.out.run.below) (fun hHeld => ?_)
      clear hK K
      refine wpAnyH_ready (rs := [12]) (by kernel_rfl) (by simp) ?_
      refine AllReadyH.cons rfl (fun K hK => ?_) AllReadyH.nil
      go_simp
      have hadd := ladd_is HB.out ⟨xa, xf, xt, xl⟩ HIN.out y D' HY1.out HY2.out
      simp only [recV, recC] at hadd
      refine hadd.mono ?_
      clear hadd
      rintro e_ Wn ⟨rfl, h, f⟩
      have HA := hide (HA.out.frm f (fun e => by have := HNE.out; omega) (fun e => by have := HNE.out; omega) (fun i hi => by rw [hi]; exact h.low.2))
      have HB := hide h
      clear h f
      refine hK.out _ _ (HSB.out _ HA.out.run.below) (fun hHeld => ?_)
      clear hK K
      refine wpAnyH_take (i := 13) (v := ?v35) rfl (by kernel_rfl) (by kernel_rfl) (by kernel_rfl) (fun _ _ _ h => h) (Or.inl ⟨by rfl, ?hy35⟩) (by assumption) ?rest35
      case hy35 => (intro w hSw; (try dsimp only at hSw); go_simp; try with_reducible rfl)
      try simp only [Act.put, List.getElem_toArray, List.getElem_cons_zero, List.getElem_cons_succ, List.setIfInBounds_toArray, List.set_cons_zero, List.set_cons_succ]
      refine wpAnyH_take (i := 14) (v := ?v36) rfl (by kernel_rfl) (by kernel_rfl) (by kernel_rfl) (fun _ _ _ h => h) (Or.inl ⟨by rfl, ?hy36⟩) (by assumption) ?rest36
      case hy36 => (intro w hSw; (try dsimp only at hSw); go_simp; try with_reducible rfl)
      try simp only [Act.put, List.getElem_toArray, List.getElem_cons_zero, List.getElem_cons_succ, List.setIfInBounds_toArray, List.set_cons_zero, List.set_cons_succ]
      refine wpAnyH_take (i := 15) (v := ?v37) rfl (by kernel_rfl) (by kernel_rfl) (by kernel_rfl) (fun _ _ _ h => h) (Or.inl ⟨by rfl, ?hy37⟩) (by assumption) ?rest37
      case hy37 => (intro w hSw; (try dsimp only at hSw); go_simp; try with_reducible rfl)
      try simp only [Act.put, List.getElem_toArray, List.getElem_cons_zero, List.getElem_cons_succ, List.setIfInBounds_toArray, List.set_cons_zero, List.set_cons_succ]
      refine wpAnyH_take (i := 16) (v := ?v38) rfl (by kernel_rfl) (by kernel_rfl) (by kernel_rfl) (fun _ _ _ h => h) (Or.inl ⟨by rfl, ?hy38⟩) (by assumption) ?rest38
      case hy38 => (intro w hSw; (try dsimp only at hSw); go_simp; try with_reducible rfl)
      try simp only [Act.put, List.getElem_toArray, List.getElem_cons_zero, List.getElem_cons_succ, List.setIfInBounds_toArray, List.set_cons_zero, List.set_cons_succ]
      refine wpAnyH_take (i := 19) (v := ?v39) rfl (by kernel_rfl) (by kernel_rfl) (by kernel_rfl) (fun _ _ _ h => h) (Or.inl ⟨by rfl, ?hy39⟩) (by assumption) ?rest39
      case hy39 => (intro w hSw; (try dsimp only at hSw); go_simp; try with_reducible rfl)
      try simp only [Act.put, List.getElem_toArray, List.getElem_cons_zero, List.getElem_cons_succ, List.setIfInBounds_toArray, List.set_cons_zero, List.set_cons_succ]
      apply meet2 (A := fun W => Liv wb W g bm D' ∧ Liv wb W g2 bm2 D')
      · intro key
        refine wpAnyH_ready (rs := [17]) (by kernel_rfl) (by simp) ?_
        refine AllReadyH.cons rfl (fun K hK => ?_) AllReadyH.nil
        go_simp
        refine (lbytes HA.out).mono ?_
        rintro e_ Wn ⟨A1, c1, rfl, ho, h, f⟩
        obtain ⟨hr, _⟩ := own_rds8 ho rfl
        rw [← HBB.out, ← HNB.out] at hr ⊢
        have HCA := hide (fun W' (b : Below Wn.heap.size Wn W') => conv_rds W' 50 9 5 Tryd.underlying50 Tryd.underlying5 Tryd.underlying9 A1 nB c1 B (hr.below b))
        have hcvA := HCA.out _ (Below.refl _ _)
        have HA := hide h
        have HB := hide (HB.out.frm0 f)
        have HF := hide (f.below (Nat.le_refl _) (fun _ h => h.elim))
        clear ho h f hr
        refine hK.out _ _ (HSB.out _ HA.out.run.below) (fun hHeld => ?_)
        clear hK K
        refine wpAnyH_ready (rs := [18, 20]) (by kernel_rfl) (by simp) ?_
        refine AllReadyH.cons rfl (fun K hK => ?_) ?_
        · go_simp
          refine hK.out _ _ (HSB.out _ HA.out.run.below) (fun hHeld => ?_)
          clear hK K
          refine wpAnyH_ready (rs := [20]) (by kernel_rfl) (by simp) ?_
          refine AllReadyH.cons rfl (fun K hK => ?_) AllReadyH.nil
          go_simp
          refine (lbytes HB.out).mono ?_
          rintro e_ Wn ⟨A2, c2, rfl, ho, h, f⟩
          obtain ⟨hr, _⟩ := own_rds8 ho rfl
          rw [← HBB.out, ← HNB.out] at hr ⊢
          have HCB := hide (fun W' (b : Below Wn.heap.size Wn W') => conv_rds W' 50 9 5 Tryd.underlying50 Tryd.underlying5 Tryd.underlying9 A2 nB c2 B (hr.below b))
          have hcvB := HCB.out _ (Below.refl _ _)
          have HB := hide h
          have HA := hide (HA.out.frm0 f)
          have HF := hide (f.below (Nat.le_refl _) (fun _ h => h.elim))
          clear ho h f hr
          refine hK.out _ _ (HSB.out _ HA.out.run.below) (fun hHeld => ?_)
          clear hK K
          refine wpAnyH_ready (rs := [21]) (by kernel_rfl) (by simp) ?_
          refine AllReadyH.cons rfl (fun K hK => ?_) AllReadyH.nil
          go_simp
          refine hK.out _ _ (HSB.out _ HA.out.run.below) (fun hHeld => ?_)
          clear hK K
          generalize Value.slice A1 nB c1 = v1
          generalize Value.slice A2 nB c2 = v2
          exact key _ v1 v2 ⟨HA.out, HB.out⟩
        refine AllReadyH.cons rfl (fun K hK => ?_) AllReadyH.nil
        go_simp
        refine (lbytes HB.out).mono ?_
        rintro e_ Wn ⟨A2, c2, rfl, ho, h, f⟩
        obtain ⟨hr, _⟩ := own_rds8 ho rfl
        rw [← HBB.out, ← HNB.out] at hr ⊢
        have HCB := hide (fun W' (b : Below Wn.heap.size Wn W') => conv_rds W' 50 9 5 Tryd.underlying50 Tryd.underlying5 Tryd.underlying9 A2 nB c2 B (hr.below b))
        have hcvB := HCB.out _ (Below.refl _ _)
        have HB := hide h
        have HA := hide (HA.out.frm0 f)
        have HF := hide (f.below (Nat.le_refl _) (fun _ h => h.elim))
        clear ho h f hr
        have hcvA := HCA.out _ HF.out
        refine hK.out _ _ (HSB.out _ HA.out.run.below) (fun hHeld => ?_)
        clear hK K
        refine wpAnyH_ready (rs := [18, 21]) (by kernel_rfl) (by simp) ?_
        refine AllReadyH.cons rfl (fun K hK => ?_) ?_
        · go_simp
          refine hK.out _ _ (HSB.out _ HA.out.run.below) (fun hHeld => ?_)
          clear hK K
          refine wpAnyH_ready (rs := [21]) (by kernel_rfl) (by simp) ?_
          refine AllReadyH.cons rfl (fun K hK => ?_) AllReadyH.nil
          go_simp
          refine hK.out _ _ (HSB.out _ HA.out.run.below) (fun hHeld => ?_)
          clear hK K
          generalize Value.slice A1 nB c1 = v1
          generalize Value.slice A2 nB c2 = v2
          exact key _ v1 v2 ⟨HA.out, HB.out⟩
        refine AllReadyH.cons rfl (fun K hK => ?_) AllReadyH.nil
        go_simp
        refine hK.out _ _ (HSB.out _ HA.out.run.below) (fun hHeld => ?_)
        clear hK K
        refine wpAnyH_ready (rs := [18]) (by kernel_rfl) (by simp) ?_
        refine AllReadyH.cons rfl (fun K hK => ?_) AllReadyH.nil
        go_simp
        refine hK.out _ _ (HSB.out _ HA.out.run.below) (fun hHeld => ?_)
        clear hK K
        generalize Value.slice A1 nB c1 = v1
        generalize Value.slice A2 nB c2 = v2
        exact key _ v1 v2 ⟨HA.out, HB.out⟩
      clear hHeld HA HB
      rintro W0 v1 v2 ⟨ha, hb⟩
      have HA := hide ha
      have HB := hide hb
      have hHeld := HSB.out _ ha.run.below
      clear ha hb
      refine wpAnyH_take (i := 22) (v := ?v40) rfl (by kernel_rfl) (by kernel_rfl) (by kernel_rfl) (fun _ _ _ h => h) (Or.inl ⟨by rfl, ?hy40⟩) (by assumption) ?rest40
      case hy40 => (intro w hSw; (try dsimp only at hSw); go_simp; try with_reducible rfl)
      try simp only [Act.put, List.getElem_toArray, List.getElem_cons_zero, List.getElem_cons_succ, List.setIfInBounds_toArray, List.set_cons_zero, List.set_cons_succ]
      refine wpAnyH_take (i := 23) (v := ?v41) rfl (by kernel_rfl) (by kernel_rfl) (by kernel_rfl) (fun _ _ _ h => h) (Or.inl ⟨by rfl, ?hy41⟩) (by assumption) ?rest41
      case hy41 => (intro w hSw; (try dsimp only at hSw); go_simp; try with_reducible rfl)
      try simp only [Act.put, List.getElem_toArray, List.getElem_cons_zero, List.getElem_cons_succ, List.setIfInBounds_toArray, List.set_cons_zero, List.set_cons_succ]
      refine wpAnyH_take (i := 24) (v := ?v42) rfl (by kernel_rfl) (by kernel_rfl) (by kernel_rfl) (fun _ _ _ h => h) (Or.inl ⟨by rfl, ?hy42⟩) (by assumption) ?rest42
      case hy42 => (intro w hSw; (try dsimp only at hSw); go_simp; try with_reducible rfl)
      try simp only [Act.put, List.getElem_toArray, List.getElem_cons_zero, List.getElem_cons_succ, List.setIfInBounds_toArray, List.set_cons_zero, List.set_cons_succ]
      refine wpAnyH_take (i := 25) (v := ?v43) rfl (by kernel_rfl) (by kernel_rfl) (by kernel_rfl) (fun _ _ _ h => h) (Or.inl ⟨by rfl, ?hy43⟩) (by assumption) ?rest43
      case hy43 => (intro w hSw; (try dsimp only at hSw); go_simp; try with_reducible rfl)
      try simp only [Act.put, List.getElem_toArray, List.getElem_cons_zero, List.getElem_cons_succ, List.setIfInBounds_toArray, List.set_cons_zero, List.set_cons_succ]
      refine wpAnyH_take (i := 27) (v := ?v44) rfl (by kernel_rfl) (by kernel_rfl) (by kernel_rfl) (fun _ _ _ h => h) (Or.inl ⟨by rfl, ?hy44⟩) (by assumption) ?rest44
      case hy44 => (intro w hSw; (try dsimp only at hSw); go_simp; try with_reducible rfl)
      try simp only [Act.put, List.getElem_toArray, List.getElem_cons_zero, List.getElem_cons_succ, List.setIfInBounds_toArray, List.set_cons_zero, List.set_cons_succ]
      refine wpAnyH_ready (rs := [26]) (by kernel_rfl) (by simp) ?_
      refine AllReadyH.cons rfl (fun K hK => ?_) AllReadyH.nil
      go_simp
      refine (llen_is HA.out n HDN.out).mono ?_
      rintro e_ W3 ⟨rfl, rfl⟩
      refine hK.out _ _ (HSB.out _ HA.out.run.below) (fun hHeld => ?_)
      clear hK K
      refine wpAnyH_ready (rs := [28]) (by kernel_rfl) (by simp) ?_
      refine AllReadyH.cons rfl (fun K hK => ?_) AllReadyH.nil
      go_simp
      refine (llen_is HB.out n HDN.out).mono ?_
      rintro e_ W3 ⟨rfl, rfl⟩
      refine hK.out _ _ (HSB.out _ HA.out.run.below) (fun hHeld => ?_)
      clear hK K
      refine wpAnyH_take (i := 29) (v := ?v45) rfl (by kernel_rfl) (by kernel_rfl) (by kernel_rfl) (fun _ _ _ h => h) (Or.inl ⟨by rfl, ?hy45⟩) (by assumption) ?rest45
      case hy45 => (intro w hSw; (try dsimp only at hSw); go_simp; try with_reducible rfl)
      try simp only [Act.put, List.getElem_toArray, List.getElem_cons_zero, List.getElem_cons_succ, List.setIfInBounds_toArray, List.set_cons_zero, List.set_cons_succ]
      refine wpAnyH_take (i := 30) (v := ?v46) rfl (by kernel_rfl) (by kernel_rfl) (by kernel_rfl) (fun _ _ _ h => h) (Or.inl ⟨by rfl, ?hy46⟩) (by assumption) ?rest46
      case hy46 => (intro w hSw; (try dsimp only at hSw); go_simp; try with_reducible rfl)
      try simp only [Act.put, List.getElem_toArray, List.getElem_cons_zero, List.getElem_cons_succ, List.setIfInBounds_toArray, List.set_cons_zero, List.set_cons_succ]
      refine wpAnyH_done (by kernel_rfl) ?_ _
      clear hHeld
      go_wp2_with fail
      have HPA := hide HA.out
      have HPB := hide HB.out
      clear HA HB
      go_loopw [12] (fun i wr => ∃ j : Nat, j ≤ n2 ∧ j ≤ 30 ∧ i = .int .i64 j ∧ Liv wb wr g bm D' ∧ Liv wb wr g2 bm2 D') (fun i _ => 30 - (intOf i).toNat)
      case atStart => exact ⟨0, by omega, by omega, rfl, HPA.out, HPB.out⟩
      case round =>
        clear HPA HPB
        obtain ⟨j, hj, hj3, rfl, h5, ht5⟩ := hrel
        have H5 := hide h5
        have HT5 := hide ht5
        clear h5 ht5
        by_cases hlt2 : j < n2
        · have hlt2' : (j : Int) < (n2 : Int) := by omega
          by_cases h30 : j < 30
          · have h30' : (j : Int) < 30 := by omega
            obtain ⟨p2, rfl, hc2'⟩ := HE.out.2 (by omega)
            have hel : es.length = n2 := by have := HE.out.1; rwa [cellsW_length] at this
            obtain ⟨v, hv⟩ : ∃ v, v = es.getD j 0 := ⟨_, rfl⟩
            have hcv : ∀ w', Below wb.heap.size wb w' → w'.cell? (p2.add j) = some (.int .u32 (v : Int)) := fun w' f => by
              have h1 := hc2' j _ (cellsW_at es j (by omega))
              rw [f.cell (World.block_lt_of_cell? wb _ h1), h1, hv]
            have HCV := hide hcv
            clear hcv hv hel hc2'
            go_wp2_with fail
            go_loopw [13] (fun x wr => ∃ q : Nat, q ≤ 16 ∧ x = .int .u16 q ∧ Liv wb wr g bm D' ∧ Liv wb wr g2 bm2 D') (fun x _ => 16 - (intOf x).toNat)
            case atStart => exact ⟨0, by omega, rfl, H5.out, HT5.out⟩
            case round =>
              clear H5 HT5
              obtain ⟨q, hq, rfl, h5, ht5⟩ := hrel
              have H5 := hide h5
              have HT5 := hide ht5
              clear h5 ht5
              have cv := HCV.out wr H5.out.run.below
              by_cases hq16 : q < 16
              · have hq16' : (q : Int) < 16 := by omega
                obtain ⟨r, hr⟩ : ∃ r, r = foundR D' q v := ⟨_, rfl⟩
                obtain ⟨b, hb⟩ : ∃ b, b = foundB D' q v := ⟨_, rfl⟩
                have HF1 := hide (lfind_is H5.out q v r b hr.symm hb.symm)
                have HFN : Hid (foundR D' q v = r ∧ foundB D' q v = b) := ⟨hr.symm, hb.symm⟩
                clear hr hb
                go_wp2_with fail
                refine HF1.out.mono ?_
                rintro e w6 ⟨rfl, h6, f6⟩
                have H6 := hide h6
                have HT6 := hide (HT5.out.frm0 f6)
                clear h6 f6 HF1 H5 HT5 cv
                go_wp2_with (first
                  | ((with_reducible refine wpl_alloca (op := ⟨some 14, _, _, _, _, _⟩) rfl _ rfl _ zeroR ?_); intro g13 w7 hB7 hs7 hF7)
                  | ((refine wpl_storea aggR rfl (.tmp 14) (.tmp 97) rfl g13 (recC r) rfl rfl _ _ hB7 rfl rfl (recC_one r) ?_); intro w8 hB8 hF8; have hF68 := frm_join w6 hF7 hF8 (fun i hi => by omega); have H8 := hide (H6.out.frm0 hF68.out); have HT8 := hide (HT6.out.frm0 hF68.out); have HB8 := hide hB8; have cv := HCV.out w8 H8.out.run.below; clear hB7 hB8 hF7 hF8 hF68 hs7 H6 HT6))
                refine (lfind_is HT8.out q v r b HFN.out.1 HFN.out.2).mono ?_
                rintro e w9 ⟨rfl, h9, f9⟩
                have H9 := hide (H8.out.frm0 f9)
                have HT9 := hide h9
                have HB9 := hide (HB8.out.frm0a f9)
                clear h9 f9 H8 HT8 HB8 cv
                go_wp2_with (first
                  | ((with_reducible refine wpl_alloca (op := ⟨some 16, _, _, _, _, _⟩) rfl _ rfl _ zeroR ?_); intro g15 w10 hB10 hs10 hF10)
                  | ((refine wpl_storea aggR rfl (.tmp 16) (.tmp 107) rfl g15 (recC r) rfl rfl _ _ hB10 rfl rfl (recC_one r) ?_); intro w11 hB11 hF11; have hF911 := frm_join w9 hF10 hF11 (fun i hi => by omega); have H11 := hide (H9.out.frm0 hF911.out); have HT11 := hide (HT9.out.frm0 hF911.out); have hB13 := blk_lit (HB9.out.frm0a hF911.out); have hB15 := blk_lit hB11; clear hB11 hB10 hF10 hF11 hF911 hs10 H9 HT9 HB9)
                  | (with_reducible refine wpl_loada (op := ⟨some 109, _, _, _, _, _⟩) aggR rfl (.tmp 14) rfl g13 0 rfl _ [.int .u16 (r.a : Int), .int .u32 (r.f : Int), .int .u32 (r.t : Int), .int .u32 (r.l : Int)] [.int .u16 (r.a : Int), .int .u32 (r.f : Int), .int .u32 (r.t : Int), .int .u32 (r.l : Int)] hB13 (take4 _ _ _ _) (len4 _ _ _ _) ?_)
                  | (with_reducible refine wpl_loada (op := ⟨some 110, _, _, _, _, _⟩) aggR rfl (.tmp 16) rfl g15 0 rfl _ [.int .u16 (r.a : Int), .int .u32 (r.f : Int), .int .u32 (r.t : Int), .int .u32 (r.l : Int)] [.int .u16 (r.a : Int), .int .u32 (r.f : Int), .int .u32 (r.t : Int), .int .u32 (r.l : Int)] hB15 (take4 _ _ _ _) (len4 _ _ _ _) ?_))
                go_roundw
                case rel => exact ⟨q + 1, by omega, by go_num, H11.out, HT11.out⟩
                case measure => simp [intOf]; omega
              · obtain rfl : q = 16 := by omega
                clear cv
                go_wp2_with fail
                go_roundw
                case rel => exact ⟨j + 1, by omega, by omega, by go_num, H5.out, HT5.out⟩
                case measure => simp [intOf]; omega
          · have h30' : ¬ (j : Int) < 30 := by omega
            have HBEL := hide (HBX.out H5.out.run.below)
            clear H5 HT5
            go_wp2_with fail
            go_ret
            exact ⟨rfl, HBEL.out⟩
        · have hlt2' : ¬ (j : Int) < (n2 : Int) := by omega
          have HBEL := hide (HBX.out H5.out.run.below)
          clear H5 HT5
          go_wp2_with fail
          go_ret
          exact ⟨rfl, HBEL.out⟩
end Go.Proofs.YtjicnfkodieaaaaDoor
