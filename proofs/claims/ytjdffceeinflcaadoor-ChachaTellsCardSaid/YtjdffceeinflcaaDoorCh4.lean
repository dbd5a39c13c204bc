/-
  chacha: ten times eight quarters, walked.
-/
import Derived.Test.YtjdffceeinflcaaDoorCh3
import Derived.Deep.RegionHeld
namespace Go.Proofs.YtjdffceeinflcaaDoor
set_option linter.unusedVariables false
open Go.RowKit

structure MixInv (w : World) (g1 g2 : Nat) (l : List Nat) (wr : World) : Prop where
  blk : Blk wr g1 42 (cellsW l).toArray
  res : Blk wr g2 42 (cellsW (List.replicate 16 0)).toArray
  gc : Gc wr
  below : Below w.heap.size w wr

set_option maxHeartbeats 8000000 in
set_option maxRecDepth 100000 in
theorem mixed_any (s : List Nat) (w : World) (hG : Gc w) (hl : s.length = 16) (hs : Ws s) (hg0 : 2 ≤ w.heap.size) :
    Calls Tryd.prog 18 #[.agg (cellsW s).toArray] w fun e w' => e = .returned (.agg (cellsW (mixL s 10)).toArray) ∧ Below w.heap.size w w' := by
  have hF0 : Frm (fun _ => False) w (w.alloc (.cells (cellsW s).toArray 42)) := Frm.alloc _ _ _
  have hB0 := Blk.new w 42 (cellsW s).toArray
  obtain ⟨ql, hql⟩ : ∃ ql, ql = quartersL := ⟨_, rfl⟩
  have HQL : Hid (ql.length = 32) := by rw [hql]; rfl
  have HQC : Hid ((cellsI ql).length = 32) := by show _ = _; rw [cellsI_length, HQL.out]
  have HQA : Hid (∀ k i, ql.getD (4 * k + i) 0 = qAt k i) := by rw [hql]; exact fun _ _ => rfl
  have HCE : Hid (∀ w', Gc w' → ∀ j v, (cellsI ql)[j]? = some v → w'.cell? ⟨1, j, none⟩ = some v) := by
    intro w' f j v hv
    have hj : j < 32 := by have := (List.getElem?_eq_some_iff.1 hv).1; rw [HQC.out] at this; exact this
    rw [cellsI_at ql j (by rw [hql]; exact hj), hql] at hv
    rw [← hv]
    exact f.quarters j hj
  have HIX : Hid (∀ (k : Nat), k < 8 → ∀ w, Sem.run Tryd.prog (Instr.index 55 (.agg (cellsI ql).toArray) (.int .i64 (k : Int))) w = .ok (.agg (cellsI [qAt k 0, qAt k 1, qAt k 2, qAt k 3]).toArray) w) := by
    intro k hk w
    have := index_row ql HQL.out k hk w
    simp only [HQA.out] at this
    exact this
  obtain ⟨M, hM⟩ : ∃ M, M = mixL s := ⟨_, rfl⟩
  have HM0 : Hid (M 0 = s) := by rw [hM]; rfl
  have HML : Hid (∀ k, (M k).length = 16) := by rw [hM]; intro k; rw [mixL_length, hl]
  have HMW : Hid (∀ k, Ws (M k)) := by rw [hM]; exact fun k => mixL_ws hs _
  have HMN : Hid (∀ k, M (k + 1) = eightL (M k) 8) := by rw [hM]; intro k; rw [mixL]
  rw [← hM]
  clear hl hs hql hM
  go_enter Tryd.func18, Tryd.ntmps18
  go_wp2_with ((with_reducible refine wpl_alloca (op := ⟨some 2, _, _, _, _, _⟩) rfl _ rfl _ zero16w ?_); intro g2 w1 hB1 hs1 hF1)
  have hF01 := hF0.trans hF1 (fun _ _ h => h)
  have hne : w.heap.size ≠ g2 := by have := hB0.lt; omega
  have hge : w.heap.size ≤ g2 := by have := hF0.size; omega
  have HST : Hid (MixInv w w.heap.size g2 (M 0) w1) := ⟨by rw [HM0.out]; exact hB0.frm hF1 (fun h => h), hB1, hG.frm0 hF01, hF01.below (Nat.le_refl _) (fun _ h => h.elim)⟩
  clear hF0 hB0 hB1 hF1 hF01 hG hs1
  obtain ⟨g1, hg1⟩ : ∃ g1, g1 = w.heap.size := ⟨_, rfl⟩
  rw [← hg1] at HST hne ⊢
  have HG1 := hide hg1
  have hgw : 2 ≤ g1 := by omega
  have hgw2 : 2 ≤ g2 := by omega
  clear hg1
  go_loopw [9] (fun i wr => ∃ k : Nat, k ≤ 10 ∧ i = .int .i64 k ∧ MixInv w g1 g2 (M k) wr) (fun i _ => 10 - (intOf i).toNat)
  case atStart => exact ⟨0, by omega, rfl, HST.out⟩
  case round =>
    clear HST
    obtain ⟨k, hk, rfl, hi⟩ := hrel
    by_cases hlt : k < 10
    · have HCE2 := hide (HCE.out wr hi.gc)
      obtain ⟨E8, hE⟩ : ∃ E8 : Nat → List Nat, E8 = eightL (M k) := ⟨_, rfl⟩
      have HEL : Hid (∀ j, (E8 j).length = 16) := by rw [hE]; intro j; rw [eightL_length, HML.out]
      have HEW : Hid (∀ j, Ws (E8 j)) := by rw [hE]; exact fun j => eightL_ws (HMW.out k) _
      have HEN : Hid (∀ j, E8 (j + 1) = setQ (E8 j) (qAt j 0) (qAt j 1) (qAt j 2) (qAt j 3)) := by rw [hE]; intro j; rw [eightL]
      have HE8 : Hid (M (k + 1) = E8 8) := by show _ = _; rw [hE]; exact HMN.out k
      have HST : Hid (MixInv w g1 g2 (E8 0) wr) := by rw [hE]; exact hi
      clear hi hE
      go_wp2_with (with_reducible refine wpl_load_at (op := ⟨some 11, _, _, _, _, _⟩) agg32i rfl _ rfl 1 rfl (cellsI ql) HQC.out HCE2.out ?_)
      clear HCE2
      go_loopw [12] (fun i wr => ∃ j : Nat, j ≤ 8 ∧ i = .int .i64 j ∧ MixInv w g1 g2 (E8 j) wr) (fun i _ => 8 - (intOf i).toNat)
      case atStart => exact ⟨0, by omega, rfl, HST.out⟩
      case round =>
        clear HST
        obtain ⟨j, hj, rfl, hi⟩ := hrel
        by_cases hjt : j < 8
        · have hidx := HIX.out j hjt
          have HEJ : Hid (E8 (j + 1) = setQ (E8 j) (qAt j 0) (qAt j 1) (qAt j 2) (qAt j 3)) := HEN.out j
          have ha := qAt_lt j 0 hjt (by omega)
          have hb := qAt_lt j 1 hjt (by omega)
          have hc := qAt_lt j 2 hjt (by omega)
          have hd := qAt_lt j 3 hjt (by omega)
          have hl16 : (E8 j).length = 16 := HEL.out j
          have HOK := hide (Q4.of_ok (HEW.out j) (qAt j 0) (qAt j 1) (qAt j 2) (qAt j 3))
          generalize E8 j = E at *
          generalize qAt j 0 = qa at *
          generalize qAt j 1 = qb at *
          generalize qAt j 2 = qc at *
          generalize qAt j 3 = qd at *
          have HI := hide hi
          have HR : Hid ((cellsI [qa, qb, qc, qd]).length = 4) := rfl
          clear hi
          go_wp2_with (first
            | ((with_reducible refine wpl_alloca (op := ⟨some 4, _, _, _, _, _⟩) rfl _ rfl _ zero4i ?_); intro g4 wa hBa hsa hFa)
            | ((with_reducible refine wpl_storea agg4i rfl (.tmp 4) (.tmp 14) rfl g4 (cellsI [qa, qb, qc, qd]) rfl rfl _ _ hBa HR.out (by simp [cellsI]) (cellsI_one _) ?_); intro wb hBb hFb))
          have hr1 := HI.out.blk.lt
          have hr2 := HI.out.res.lt
          have hrs := HI.out.below.size
          have hFab : Frm (fun i => i = g4) wr wb := (hFa.mono (T := fun i => i = g4) (fun _ _ h => h.elim)).trans hFb (fun _ _ h => h)
          have HI2 : Hid (MixInv w g1 g2 E wb) := ⟨HI.out.blk.frm hFab (by omega), HI.out.res.frm hFab (by omega), HI.out.gc.frm hFab (by omega) (by omega), below_frm HI.out.below hFab HI.out.below.size (fun i hi => by omega)⟩
          have c0 : ∀ q, (wb.drewN q).cell? ⟨g4, 0, none⟩ = some (.int .i64 (qa : Int)) := fun q => hBb.cell 0
          have c1 : ∀ q, (wb.drewN q).cell? ⟨g4, 1, none⟩ = some (.int .i64 (qb : Int)) := fun q => hBb.cell 1
          have c2 : ∀ q, (wb.drewN q).cell? ⟨g4, 2, none⟩ = some (.int .i64 (qc : Int)) := fun q => hBb.cell 2
          have c3 : ∀ q, (wb.drewN q).cell? ⟨g4, 3, none⟩ = some (.int .i64 (qd : Int)) := fun q => hBb.cell 3
          clear HI hBa hBb hFa hFb hFab hsa hr1 hr2 hrs
          go_quiet (fail)
          go_wp2_with fail
          refine wp_region_held_drew (S := fun _ => True) (by kernel_rfl) (True.intro) ?_
          intro hHeld
          obtain ⟨W0, hW0⟩ : ∃ W0, W0 = (wb.drewN nq).drew := ⟨_, rfl⟩
          have FW : Frm (fun _ => False) wb W0 := by rw [hW0]; exact ((Frm.refl _ _).drewN nq).drew
          have X1 : Blk W0 g1 42 (cellsW E).toArray := HI2.out.blk.frm FW (fun h => h)
          have HI3 : Hid (MixInv w g1 g2 E W0) := ⟨X1, HI2.out.res.frm FW (fun h => h), HI2.out.gc.frm0 FW, below_frm HI2.out.below FW HI2.out.below.size (fun _ h => h.elim)⟩
          rw [← hW0]
          have la : W0.cell? ⟨g1, qa, none⟩ = some (.int .u32 ((E.getD qa 0 : Nat) : Int)) := by rw [X1.cell, List.getElem?_toArray]; exact cellsW_at _ _ (by omega)
          have lb : W0.cell? ⟨g1, qb, none⟩ = some (.int .u32 ((E.getD qb 0 : Nat) : Int)) := by rw [X1.cell, List.getElem?_toArray]; exact cellsW_at _ _ (by omega)
          have lc : W0.cell? ⟨g1, qc, none⟩ = some (.int .u32 ((E.getD qc 0 : Nat) : Int)) := by rw [X1.cell, List.getElem?_toArray]; exact cellsW_at _ _ (by omega)
          have ld : W0.cell? ⟨g1, qd, none⟩ = some (.int .u32 ((E.getD qd 0 : Nat) : Int)) := by rw [X1.cell, List.getElem?_toArray]; exact cellsW_at _ _ (by omega)
          unfold setQ at HEJ
          have ha' : (qa : Int) < 16 := by omega
          have hb' : (qb : Int) < 16 := by omega
          have hc' : (qc : Int) < 16 := by omega
          have hd' : (qd : Int) < 16 := by omega
          clear hW0 FW HI2 c0 c1 c2 c3
          generalize E.getD qa 0 = xa at *
          generalize E.getD qb 0 = xb at *
          generalize E.getD qc 0 = xc at *
          generalize E.getD qd 0 = xd at *
          refine wpAnyH_take (i := 0) (v := ?v1) rfl (by kernel_rfl) (by kernel_rfl) (by kernel_rfl) (fun _ _ _ h => h) (Or.inl ⟨by rfl, ?hy1⟩) (by assumption) ?rest1
          case hy1 => (intro w hSw; (try dsimp only at hSw); go_simp; try with_reducible rfl)
          try simp only [Act.put, List.getElem_toArray, List.getElem_cons_zero, List.setIfInBounds_toArray, List.set_cons_zero, List.set_cons_succ]
          refine wpAnyH_take (i := 1) (v := ?v2) rfl (by kernel_rfl) (by kernel_rfl) (by kernel_rfl) (fun _ _ _ h => h) (Or.inl ⟨by rfl, ?hy2⟩) (by assumption) ?rest2
          case hy2 => (intro w hSw; (try dsimp only at hSw); go_simp; try with_reducible rfl)
          try simp only [Act.put, List.getElem_toArray, List.getElem_cons_zero, List.getElem_cons_succ, List.setIfInBounds_toArray, List.set_cons_zero, List.set_cons_succ]
          refine wpAnyH_take (i := 2) (v := ?v3) rfl (by kernel_rfl) (by kernel_rfl) (by kernel_rfl) (fun _ _ _ h => h) (Or.inl ⟨by rfl, ?hy3⟩) (by assumption) ?rest3
          case hy3 => (intro w hSw; (try dsimp only at hSw); go_simp; try with_reducible rfl)
          try simp only [Act.put, List.getElem_toArray, List.getElem_cons_zero, List.getElem_cons_succ, List.setIfInBounds_toArray, List.set_cons_zero, List.set_cons_succ]
          refine wpAnyH_take (i := 3) (v := ?v4) rfl (by kernel_rfl) (by kernel_rfl) (by kernel_rfl) (fun _ _ _ h => h) (Or.inl ⟨by rfl, ?hy4⟩) (by assumption) ?rest4
          case hy4 => (intro w hSw; (try dsimp only at hSw); go_simp; try with_reducible rfl)
          try simp only [Act.put, List.getElem_toArray, List.getElem_cons_zero, List.getElem_cons_succ, List.setIfInBounds_toArray, List.set_cons_zero, List.set_cons_succ]
          refine wpAnyH_take (i := 4) (v := ?v5) rfl (by kernel_rfl) (by kernel_rfl) (by kernel_rfl) (fun _ _ _ h => h) (Or.inl ⟨by rfl, ?hy5⟩) (by assumption) ?rest5
          case hy5 => (intro w hSw; (try dsimp only at hSw); go_simp; try with_reducible rfl)
          try simp only [Act.put, List.getElem_toArray, List.getElem_cons_zero, List.getElem_cons_succ, List.setIfInBounds_toArray, List.set_cons_zero, List.set_cons_succ]
          refine wpAnyH_take (i := 5) (v := ?v6) rfl (by kernel_rfl) (by kernel_rfl) (by kernel_rfl) (fun _ _ _ h => h) (Or.inl ⟨by rfl, ?hy6⟩) (by assumption) ?rest6
          case hy6 => (intro w hSw; (try dsimp only at hSw); go_simp; try with_reducible rfl)
          try simp only [Act.put, List.getElem_toArray, List.getElem_cons_zero, List.getElem_cons_succ, List.setIfInBounds_toArray, List.set_cons_zero, List.set_cons_succ]
          refine wpAnyH_take (i := 7) (v := ?v7) rfl (by kernel_rfl) (by kernel_rfl) (by kernel_rfl) (fun _ _ _ h => h) (Or.inl ⟨by rfl, ?hy7⟩) (by assumption) ?rest7
          case hy7 => (intro w hSw; (try dsimp only at hSw); go_simp; try with_reducible rfl)
          try simp only [Act.put, List.getElem_toArray, List.getElem_cons_zero, List.getElem_cons_succ, List.setIfInBounds_toArray, List.set_cons_zero, List.set_cons_succ]
          refine wpAnyH_take (i := 8) (v := ?v8) rfl (by kernel_rfl) (by kernel_rfl) (by kernel_rfl) (fun _ _ _ h => h) (Or.inl ⟨by rfl, ?hy8⟩) (by assumption) ?rest8
          case hy8 => (intro w hSw; (try dsimp only at hSw); go_simp; try with_reducible rfl)
          try simp only [Act.put, List.getElem_toArray, List.getElem_cons_zero, List.getElem_cons_succ, List.setIfInBounds_toArray, List.set_cons_zero, List.set_cons_succ]
          refine wpAnyH_take (i := 10) (v := ?v9) rfl (by kernel_rfl) (by kernel_rfl) (by kernel_rfl) (fun _ _ _ h => h) (Or.inl ⟨by rfl, ?hy9⟩) (by assumption) ?rest9
          case hy9 => (intro w hSw; (try dsimp only at hSw); go_simp; try with_reducible rfl)
          try simp only [Act.put, List.getElem_toArray, List.getElem_cons_zero, List.getElem_cons_succ, List.setIfInBounds_toArray, List.set_cons_zero, List.set_cons_succ]
          refine wpAnyH_take (i := 11) (v := ?v10) rfl (by kernel_rfl) (by kernel_rfl) (by kernel_rfl) (fun _ _ _ h => h) (Or.inl ⟨by rfl, ?hy10⟩) (by assumption) ?rest10
          case hy10 => (intro w hSw; (try dsimp only at hSw); go_simp; try with_reducible rfl)
          try simp only [Act.put, List.getElem_toArray, List.getElem_cons_zero, List.getElem_cons_succ, List.setIfInBounds_toArray, List.set_cons_zero, List.set_cons_succ]
          refine wpAnyH_take (i := 13) (v := ?v11) rfl (by kernel_rfl) (by kernel_rfl) (by kernel_rfl) (fun _ _ _ h => h) (Or.inl ⟨by rfl, ?hy11⟩) (by assumption) ?rest11
          case hy11 => (intro w hSw; (try dsimp only at hSw); go_simp; try with_reducible rfl)
          try simp only [Act.put, List.getElem_toArray, List.getElem_cons_zero, List.getElem_cons_succ, List.setIfInBounds_toArray, List.set_cons_zero, List.set_cons_succ]
          refine wpAnyH_take (i := 14) (v := ?v12) rfl (by kernel_rfl) (by kernel_rfl) (by kernel_rfl) (fun _ _ _ h => h) (Or.inl ⟨by rfl, ?hy12⟩) (by assumption) ?rest12
          case hy12 => (intro w hSw; (try dsimp only at hSw); go_simp; try with_reducible rfl)
          try simp only [Act.put, List.getElem_toArray, List.getElem_cons_zero, List.getElem_cons_succ, List.setIfInBounds_toArray, List.set_cons_zero, List.set_cons_succ]
          refine wpAnyH_ready (rs := [6, 9, 12, 15]) (by kernel_rfl) (by simp) ?_
          refine AllReadyH.cons rfl (fun K hK => ?_) ?_
          go_simp
          refine hK.out _ _ (True.intro) (fun hHeld => ?_)
          clear hK K
          clear hHeld
          try simp only [Act.put, List.getElem_toArray, List.getElem_cons_zero, List.getElem_cons_succ, List.setIfInBounds_toArray, List.set_cons_zero, List.set_cons_succ]
          refine wpAnyH_ready (rs := [9, 12, 15]) (by kernel_rfl) (by simp) ?_
          refine AllReadyH.cons rfl (fun K hK => ?_) ?_
          go_simp
          refine hK.out _ _ (True.intro) (fun hHeld => ?_)
          clear hK K
          clear hHeld
          try simp only [Act.put, List.getElem_toArray, List.getElem_cons_zero, List.getElem_cons_succ, List.setIfInBounds_toArray, List.set_cons_zero, List.set_cons_succ]
          refine wpAnyH_ready (rs := [12, 15]) (by kernel_rfl) (by simp) ?_
          refine AllReadyH.cons rfl (fun K hK => ?_) ?_
          go_simp
          refine hK.out _ _ (True.intro) (fun hHeld => ?_)
          clear hK K
          clear hHeld
          try simp only [Act.put, List.getElem_toArray, List.getElem_cons_zero, List.getElem_cons_succ, List.setIfInBounds_toArray, List.set_cons_zero, List.set_cons_succ]
          refine wpAnyH_ready (rs := [15]) (by kernel_rfl) (by simp) ?_
          refine AllReadyH.cons rfl (fun K hK => ?_) AllReadyH.nil
          go_simp
          refine hK.out _ _ (True.intro) (fun hHeld => ?_)
          clear hK K
          clear hHeld
          try simp only [Act.put, List.getElem_toArray, List.getElem_cons_zero, List.getElem_cons_succ, List.setIfInBounds_toArray, List.set_cons_zero, List.set_cons_succ]
          refine ?shared
          rotate_left
          refine AllReadyH.cons rfl (fun K hK => ?_) AllReadyH.nil
          go_simp
          refine hK.out _ _ (True.intro) (fun hHeld => ?_)
          clear hK K
          clear hHeld
          try simp only [Act.put, List.getElem_toArray, List.getElem_cons_zero, List.getElem_cons_succ, List.setIfInBounds_toArray, List.set_cons_zero, List.set_cons_succ]
          refine wpAnyH_ready (rs := [12]) (by kernel_rfl) (by simp) ?_
          refine AllReadyH.cons rfl (fun K hK => ?_) AllReadyH.nil
          go_simp
          refine hK.out _ _ (True.intro) (fun hHeld => ?_)
          clear hK K
          clear hHeld
          try simp only [Act.put, List.getElem_toArray, List.getElem_cons_zero, List.getElem_cons_succ, List.setIfInBounds_toArray, List.set_cons_zero, List.set_cons_succ]
          exact ?shared
          refine AllReadyH.cons rfl (fun K hK => ?_) ?_
          go_simp
          refine hK.out _ _ (True.intro) (fun hHeld => ?_)
          clear hK K
          clear hHeld
          try simp only [Act.put, List.getElem_toArray, List.getElem_cons_zero, List.getElem_cons_succ, List.setIfInBounds_toArray, List.set_cons_zero, List.set_cons_succ]
          refine wpAnyH_ready (rs := [9, 15]) (by kernel_rfl) (by simp) ?_
          refine AllReadyH.cons rfl (fun K hK => ?_) ?_
          go_simp
          refine hK.out _ _ (True.intro) (fun hHeld => ?_)
          clear hK K
          clear hHeld
          try simp only [Act.put, List.getElem_toArray, List.getElem_cons_zero, List.getElem_cons_succ, List.setIfInBounds_toArray, List.set_cons_zero, List.set_cons_succ]
          refine wpAnyH_ready (rs := [15]) (by kernel_rfl) (by simp) ?_
          refine AllReadyH.cons rfl (fun K hK => ?_) AllReadyH.nil
          go_simp
          refine hK.out _ _ (True.intro) (fun hHeld => ?_)
          clear hK K
          clear hHeld
          try simp only [Act.put, List.getElem_toArray, List.getElem_cons_zero, List.getElem_cons_succ, List.setIfInBounds_toArray, List.set_cons_zero, List.set_cons_succ]
          exact ?shared
          refine AllReadyH.cons rfl (fun K hK => ?_) AllReadyH.nil
          go_simp
          refine hK.out _ _ (True.intro) (fun hHeld => ?_)
          clear hK K
          clear hHeld
          try simp only [Act.put, List.getElem_toArray, List.getElem_cons_zero, List.getElem_cons_succ, List.setIfInBounds_toArray, List.set_cons_zero, List.set_cons_succ]
          refine wpAnyH_ready (rs := [9]) (by kernel_rfl) (by simp) ?_
          refine AllReadyH.cons rfl (fun K hK => ?_) AllReadyH.nil
          go_simp
          refine hK.out _ _ (True.intro) (fun hHeld => ?_)
          clear hK K
          clear hHeld
          try simp only [Act.put, List.getElem_toArray, List.getElem_cons_zero, List.getElem_cons_succ, List.setIfInBounds_toArray, List.set_cons_zero, List.set_cons_succ]
          exact ?shared
          refine AllReadyH.cons rfl (fun K hK => ?_) AllReadyH.nil
          go_simp
          refine hK.out _ _ (True.intro) (fun hHeld => ?_)
          clear hK K
          clear hHeld
          try simp only [Act.put, List.getElem_toArray, List.getElem_cons_zero, List.getElem_cons_succ, List.setIfInBounds_toArray, List.set_cons_zero, List.set_cons_succ]
          refine wpAnyH_ready (rs := [9, 12]) (by kernel_rfl) (by simp) ?_
          refine AllReadyH.cons rfl (fun K hK => ?_) ?_
          go_simp
          refine hK.out _ _ (True.intro) (fun hHeld => ?_)
          clear hK K
          clear hHeld
          try simp only [Act.put, List.getElem_toArray, List.getElem_cons_zero, List.getElem_cons_succ, List.setIfInBounds_toArray, List.set_cons_zero, List.set_cons_succ]
          refine wpAnyH_ready (rs := [12]) (by kernel_rfl) (by simp) ?_
          refine AllReadyH.cons rfl (fun K hK => ?_) AllReadyH.nil
          go_simp
          refine hK.out _ _ (True.intro) (fun hHeld => ?_)
          clear hK K
          clear hHeld
          try simp only [Act.put, List.getElem_toArray, List.getElem_cons_zero, List.getElem_cons_succ, List.setIfInBounds_toArray, List.set_cons_zero, List.set_cons_succ]
          exact ?shared
          refine AllReadyH.cons rfl (fun K hK => ?_) AllReadyH.nil
          go_simp
          refine hK.out _ _ (True.intro) (fun hHeld => ?_)
          clear hK K
          clear hHeld
          try simp only [Act.put, List.getElem_toArray, List.getElem_cons_zero, List.getElem_cons_succ, List.setIfInBounds_toArray, List.set_cons_zero, List.set_cons_succ]
          refine wpAnyH_ready (rs := [9]) (by kernel_rfl) (by simp) ?_
          refine AllReadyH.cons rfl (fun K hK => ?_) AllReadyH.nil
          go_simp
          refine hK.out _ _ (True.intro) (fun hHeld => ?_)
          clear hK K
          clear hHeld
          try simp only [Act.put, List.getElem_toArray, List.getElem_cons_zero, List.getElem_cons_succ, List.setIfInBounds_toArray, List.set_cons_zero, List.set_cons_succ]
          exact ?shared
          refine AllReadyH.cons rfl (fun K hK => ?_) ?_
          go_simp
          refine hK.out _ _ (True.intro) (fun hHeld => ?_)
          clear hK K
          clear hHeld
          try simp only [Act.put, List.getElem_toArray, List.getElem_cons_zero, List.getElem_cons_succ, List.setIfInBounds_toArray, List.set_cons_zero, List.set_cons_succ]
          refine wpAnyH_ready (rs := [6, 12, 15]) (by kernel_rfl) (by simp) ?_
          refine AllReadyH.cons rfl (fun K hK => ?_) ?_
          go_simp
          refine hK.out _ _ (True.intro) (fun hHeld => ?_)
          clear hK K
          clear hHeld
          try simp only [Act.put, List.getElem_toArray, List.getElem_cons_zero, List.getElem_cons_succ, List.setIfInBounds_toArray, List.set_cons_zero, List.set_cons_succ]
          refine wpAnyH_ready (rs := [12, 15]) (by kernel_rfl) (by simp) ?_
          refine AllReadyH.cons rfl (fun K hK => ?_) ?_
          go_simp
          refine hK.out _ _ (True.intro) (fun hHeld => ?_)
          clear hK K
          clear hHeld
          try simp only [Act.put, List.getElem_toArray, List.getElem_cons_zero, List.getElem_cons_succ, List.setIfInBounds_toArray, List.set_cons_zero, List.set_cons_succ]
          refine wpAnyH_ready (rs := [15]) (by kernel_rfl) (by simp) ?_
          refine AllReadyH.cons rfl (fun K hK => ?_) AllReadyH.nil
          go_simp
          refine hK.out _ _ (True.intro) (fun hHeld => ?_)
          clear hK K
          clear hHeld
          try simp only [Act.put, List.getElem_toArray, List.getElem_cons_zero, List.getElem_cons_succ, List.setIfInBounds_toArray, List.set_cons_zero, List.set_cons_succ]
          exact ?shared
          refine AllReadyH.cons rfl (fun K hK => ?_) AllReadyH.nil
          go_simp
          refine hK.out _ _ (True.intro) (fun hHeld => ?_)
          clear hK K
          clear hHeld
          try simp only [Act.put, List.getElem_toArray, List.getElem_cons_zero, List.getElem_cons_succ, List.setIfInBounds_toArray, List.set_cons_zero, List.set_cons_succ]
          refine wpAnyH_ready (rs := [12]) (by kernel_rfl) (by simp) ?_
          refine AllReadyH.cons rfl (fun K hK => ?_) AllReadyH.nil
          go_simp
          refine hK.out _ _ (True.intro) (fun hHeld => ?_)
          clear hK K
          clear hHeld
          try simp only [Act.put, List.getElem_toArray, List.getElem_cons_zero, List.getElem_cons_succ, List.setIfInBounds_toArray, List.set_cons_zero, List.set_cons_succ]
          exact ?shared
          refine AllReadyH.cons rfl (fun K hK => ?_) ?_
          go_simp
          refine hK.out _ _ (True.intro) (fun hHeld => ?_)
          clear hK K
          clear hHeld
          try simp only [Act.put, List.getElem_toArray, List.getElem_cons_zero, List.getElem_cons_succ, List.setIfInBounds_toArray, List.set_cons_zero, List.set_cons_succ]
          refine wpAnyH_ready (rs := [6, 15]) (by kernel_rfl) (by simp) ?_
          refine AllReadyH.cons rfl (fun K hK => ?_) ?_
          go_simp
          refine hK.out _ _ (True.intro) (fun hHeld => ?_)
          clear hK K
          clear hHeld
          try simp only [Act.put, List.getElem_toArray, List.getElem_cons_zero, List.getElem_cons_succ, List.setIfInBounds_toArray, List.set_cons_zero, List.set_cons_succ]
          refine wpAnyH_ready (rs := [15]) (by kernel_rfl) (by simp) ?_
          refine AllReadyH.cons rfl (fun K hK => ?_) AllReadyH.nil
          go_simp
          refine hK.out _ _ (True.intro) (fun hHeld => ?_)
          clear hK K
          clear hHeld
          try simp only [Act.put, List.getElem_toArray, List.getElem_cons_zero, List.getElem_cons_succ, List.setIfInBounds_toArray, List.set_cons_zero, List.set_cons_succ]
          exact ?shared
          refine AllReadyH.cons rfl (fun K hK => ?_) AllReadyH.nil
          go_simp
          refine hK.out _ _ (True.intro) (fun hHeld => ?_)
          clear hK K
          clear hHeld
          try simp only [Act.put, List.getElem_toArray, List.getElem_cons_zero, List.getElem_cons_succ, List.setIfInBounds_toArray, List.set_cons_zero, List.set_cons_succ]
          refine wpAnyH_ready (rs := [6]) (by kernel_rfl) (by simp) ?_
          refine AllReadyH.cons rfl (fun K hK => ?_) AllReadyH.nil
          go_simp
          refine hK.out _ _ (True.intro) (fun hHeld => ?_)
          clear hK K
          clear hHeld
          try simp only [Act.put, List.getElem_toArray, List.getElem_cons_zero, List.getElem_cons_succ, List.setIfInBounds_toArray, List.set_cons_zero, List.set_cons_succ]
          exact ?shared
          refine AllReadyH.cons rfl (fun K hK => ?_) AllReadyH.nil
          go_simp
          refine hK.out _ _ (True.intro) (fun hHeld => ?_)
          clear hK K
          clear hHeld
          try simp only [Act.put, List.getElem_toArray, List.getElem_cons_zero, List.getElem_cons_succ, List.setIfInBounds_toArray, List.set_cons_zero, List.set_cons_succ]
          refine wpAnyH_ready (rs := [6, 12]) (by kernel_rfl) (by simp) ?_
          refine AllReadyH.cons rfl (fun K hK => ?_) ?_
          go_simp
          refine hK.out _ _ (True.intro) (fun hHeld => ?_)
          clear hK K
          clear hHeld
          try simp only [Act.put, List.getElem_toArray, List.getElem_cons_zero, List.getElem_cons_succ, List.setIfInBounds_toArray, List.set_cons_zero, List.set_cons_succ]
          refine wpAnyH_ready (rs := [12]) (by kernel_rfl) (by simp) ?_
          refine AllReadyH.cons rfl (fun K hK => ?_) AllReadyH.nil
          go_simp
          refine hK.out _ _ (True.intro) (fun hHeld => ?_)
          clear hK K
          clear hHeld
          try simp only [Act.put, List.getElem_toArray, List.getElem_cons_zero, List.getElem_cons_succ, List.setIfInBounds_toArray, List.set_cons_zero, List.set_cons_succ]
          exact ?shared
          refine AllReadyH.cons rfl (fun K hK => ?_) AllReadyH.nil
          go_simp
          refine hK.out _ _ (True.intro) (fun hHeld => ?_)
          clear hK K
          clear hHeld
          try simp only [Act.put, List.getElem_toArray, List.getElem_cons_zero, List.getElem_cons_succ, List.setIfInBounds_toArray, List.set_cons_zero, List.set_cons_succ]
          refine wpAnyH_ready (rs := [6]) (by kernel_rfl) (by simp) ?_
          refine AllReadyH.cons rfl (fun K hK => ?_) AllReadyH.nil
          go_simp
          refine hK.out _ _ (True.intro) (fun hHeld => ?_)
          clear hK K
          clear hHeld
          try simp only [Act.put, List.getElem_toArray, List.getElem_cons_zero, List.getElem_cons_succ, List.setIfInBounds_toArray, List.set_cons_zero, List.set_cons_succ]
          exact ?shared
          refine AllReadyH.cons rfl (fun K hK => ?_) ?_
          go_simp
          refine hK.out _ _ (True.intro) (fun hHeld => ?_)
          clear hK K
          clear hHeld
          try simp only [Act.put, List.getElem_toArray, List.getElem_cons_zero, List.getElem_cons_succ, List.setIfInBounds_toArray, List.set_cons_zero, List.set_cons_succ]
          refine wpAnyH_ready (rs := [6, 9, 15]) (by kernel_rfl) (by simp) ?_
          refine AllReadyH.cons rfl (fun K hK => ?_) ?_
          go_simp
          refine hK.out _ _ (True.intro) (fun hHeld => ?_)
          clear hK K
          clear hHeld
          try simp only [Act.put, List.getElem_toArray, List.getElem_cons_zero, List.getElem_cons_succ, List.setIfInBounds_toArray, List.set_cons_zero, List.set_cons_succ]
          refine wpAnyH_ready (rs := [9, 15]) (by kernel_rfl) (by simp) ?_
          refine AllReadyH.cons rfl (fun K hK => ?_) ?_
          go_simp
          refine hK.out _ _ (True.intro) (fun hHeld => ?_)
          clear hK K
          clear hHeld
          try simp only [Act.put, List.getElem_toArray, List.getElem_cons_zero, List.getElem_cons_succ, List.setIfInBounds_toArray, List.set_cons_zero, List.set_cons_succ]
          refine wpAnyH_ready (rs := [15]) (by kernel_rfl) (by simp) ?_
          refine AllReadyH.cons rfl (fun K hK => ?_) AllReadyH.nil
          go_simp
          refine hK.out _ _ (True.intro) (fun hHeld => ?_)
          clear hK K
          clear hHeld
          try simp only [Act.put, List.getElem_toArray, List.getElem_cons_zero, List.getElem_cons_succ, List.setIfInBounds_toArray, List.set_cons_zero, List.set_cons_succ]
          exact ?shared
          refine AllReadyH.cons rfl (fun K hK => ?_) AllReadyH.nil
          go_simp
          refine hK.out _ _ (True.intro) (fun hHeld => ?_)
          clear hK K
          clear hHeld
          try simp only [Act.put, List.getElem_toArray, List.getElem_cons_zero, List.getElem_cons_succ, List.setIfInBounds_toArray, List.set_cons_zero, List.set_cons_succ]
          refine wpAnyH_ready (rs := [9]) (by kernel_rfl) (by simp) ?_
          refine AllReadyH.cons rfl (fun K hK => ?_) AllReadyH.nil
          go_simp
          refine hK.out _ _ (True.intro) (fun hHeld => ?_)
          clear hK K
          clear hHeld
          try simp only [Act.put, List.getElem_toArray, List.getElem_cons_zero, List.getElem_cons_succ, List.setIfInBounds_toArray, List.set_cons_zero, List.set_cons_succ]
          exact ?shared
          refine AllReadyH.cons rfl (fun K hK => ?_) ?_
          go_simp
          refine hK.out _ _ (True.intro) (fun hHeld => ?_)
          clear hK K
          clear hHeld
          try simp only [Act.put, List.getElem_toArray, List.getElem_cons_zero, List.getElem_cons_succ, List.setIfInBounds_toArray, List.set_cons_zero, List.set_cons_succ]
          refine wpAnyH_ready (rs := [6, 15]) (by kernel_rfl) (by simp) ?_
          refine AllReadyH.cons rfl (fun K hK => ?_) ?_
          go_simp
          refine hK.out _ _ (True.intro) (fun hHeld => ?_)
          clear hK K
          clear hHeld
          try simp only [Act.put, List.getElem_toArray, List.getElem_cons_zero, List.getElem_cons_succ, List.setIfInBounds_toArray, List.set_cons_zero, List.set_cons_succ]
          refine wpAnyH_ready (rs := [15]) (by kernel_rfl) (by simp) ?_
          refine AllReadyH.cons rfl (fun K hK => ?_) AllReadyH.nil
          go_simp
          refine hK.out _ _ (True.intro) (fun hHeld => ?_)
          clear hK K
          clear hHeld
          try simp only [Act.put, List.getElem_toArray, List.getElem_cons_zero, List.getElem_cons_succ, List.setIfInBounds_toArray, List.set_cons_zero, List.set_cons_succ]
          exact ?shared
          refine AllReadyH.cons rfl (fun K hK => ?_) AllReadyH.nil
          go_simp
          refine hK.out _ _ (True.intro) (fun hHeld => ?_)
          clear hK K
          clear hHeld
          try simp only [Act.put, List.getElem_toArray, List.getElem_cons_zero, List.getElem_cons_succ, List.setIfInBounds_toArray, List.set_cons_zero, List.set_cons_succ]
          refine wpAnyH_ready (rs := [6]) (by kernel_rfl) (by simp) ?_
          refine AllReadyH.cons rfl (fun K hK => ?_) AllReadyH.nil
          go_simp
          refine hK.out _ _ (True.intro) (fun hHeld => ?_)
          clear hK K
          clear hHeld
          try simp only [Act.put, List.getElem_toArray, List.getElem_cons_zero, List.getElem_cons_succ, List.setIfInBounds_toArray, List.set_cons_zero, List.set_cons_succ]
          exact ?shared
          refine AllReadyH.cons rfl (fun K hK => ?_) AllReadyH.nil
          go_simp
          refine hK.out _ _ (True.intro) (fun hHeld => ?_)
          clear hK K
          clear hHeld
          try simp only [Act.put, List.getElem_toArray, List.getElem_cons_zero, List.getElem_cons_succ, List.setIfInBounds_toArray, List.set_cons_zero, List.set_cons_succ]
          refine wpAnyH_ready (rs := [6, 9]) (by kernel_rfl) (by simp) ?_
          refine AllReadyH.cons rfl (fun K hK => ?_) ?_
          go_simp
          refine hK.out _ _ (True.intro) (fun hHeld => ?_)
          clear hK K
          clear hHeld
          try simp only [Act.put, List.getElem_toArray, List.getElem_cons_zero, List.getElem_cons_succ, List.setIfInBounds_toArray, List.set_cons_zero, List.set_cons_succ]
          refine wpAnyH_ready (rs := [9]) (by kernel_rfl) (by simp) ?_
          refine AllReadyH.cons rfl (fun K hK => ?_) AllReadyH.nil
          go_simp
          refine hK.out _ _ (True.intro) (fun hHeld => ?_)
          clear hK K
          clear hHeld
          try simp only [Act.put, List.getElem_toArray, List.getElem_cons_zero, List.getElem_cons_succ, List.setIfInBounds_toArray, List.set_cons_zero, List.set_cons_succ]
          exact ?shared
          refine AllReadyH.cons rfl (fun K hK => ?_) AllReadyH.nil
          go_simp
          refine hK.out _ _ (True.intro) (fun hHeld => ?_)
          clear hK K
          clear hHeld
          try simp only [Act.put, List.getElem_toArray, List.getElem_cons_zero, List.getElem_cons_succ, List.setIfInBounds_toArray, List.set_cons_zero, List.set_cons_succ]
          refine wpAnyH_ready (rs := [6]) (by kernel_rfl) (by simp) ?_
          refine AllReadyH.cons rfl (fun K hK => ?_) AllReadyH.nil
          go_simp
          refine hK.out _ _ (True.intro) (fun hHeld => ?_)
          clear hK K
          clear hHeld
          try simp only [Act.put, List.getElem_toArray, List.getElem_cons_zero, List.getElem_cons_succ, List.setIfInBounds_toArray, List.set_cons_zero, List.set_cons_succ]
          exact ?shared
          refine AllReadyH.cons rfl (fun K hK => ?_) AllReadyH.nil
          go_simp
          refine hK.out _ _ (True.intro) (fun hHeld => ?_)
          clear hK K
          clear hHeld
          try simp only [Act.put, List.getElem_toArray, List.getElem_cons_zero, List.getElem_cons_succ, List.setIfInBounds_toArray, List.set_cons_zero, List.set_cons_succ]
          refine wpAnyH_ready (rs := [6, 9, 12]) (by kernel_rfl) (by simp) ?_
          refine AllReadyH.cons rfl (fun K hK => ?_) ?_
          go_simp
          refine hK.out _ _ (True.intro) (fun hHeld => ?_)
          clear hK K
          clear hHeld
          try simp only [Act.put, List.getElem_toArray, List.getElem_cons_zero, List.getElem_cons_succ, List.setIfInBounds_toArray, List.set_cons_zero, List.set_cons_succ]
          refine wpAnyH_ready (rs := [9, 12]) (by kernel_rfl) (by simp) ?_
          refine AllReadyH.cons rfl (fun K hK => ?_) ?_
          go_simp
          refine hK.out _ _ (True.intro) (fun hHeld => ?_)
          clear hK K
          clear hHeld
          try simp only [Act.put, List.getElem_toArray, List.getElem_cons_zero, List.getElem_cons_succ, List.setIfInBounds_toArray, List.set_cons_zero, List.set_cons_succ]
          refine wpAnyH_ready (rs := [12]) (by kernel_rfl) (by simp) ?_
          refine AllReadyH.cons rfl (fun K hK => ?_) AllReadyH.nil
          go_simp
          refine hK.out _ _ (True.intro) (fun hHeld => ?_)
          clear hK K
          clear hHeld
          try simp only [Act.put, List.getElem_toArray, List.getElem_cons_zero, List.getElem_cons_succ, List.setIfInBounds_toArray, List.set_cons_zero, List.set_cons_succ]
          exact ?shared
          refine AllReadyH.cons rfl (fun K hK => ?_) AllReadyH.nil
          go_simp
          refine hK.out _ _ (True.intro) (fun hHeld => ?_)
          clear hK K
          clear hHeld
          try simp only [Act.put, List.getElem_toArray, List.getElem_cons_zero, List.getElem_cons_succ, List.setIfInBounds_toArray, List.set_cons_zero, List.set_cons_succ]
          refine wpAnyH_ready (rs := [9]) (by kernel_rfl) (by simp) ?_
          refine AllReadyH.cons rfl (fun K hK => ?_) AllReadyH.nil
          go_simp
          refine hK.out _ _ (True.intro) (fun hHeld => ?_)
          clear hK K
          clear hHeld
          try simp only [Act.put, List.getElem_toArray, List.getElem_cons_zero, List.getElem_cons_succ, List.setIfInBounds_toArray, List.set_cons_zero, List.set_cons_succ]
          exact ?shared
          refine AllReadyH.cons rfl (fun K hK => ?_) ?_
          go_simp
          refine hK.out _ _ (True.intro) (fun hHeld => ?_)
          clear hK K
          clear hHeld
          try simp only [Act.put, List.getElem_toArray, List.getElem_cons_zero, List.getElem_cons_succ, List.setIfInBounds_toArray, List.set_cons_zero, List.set_cons_succ]
          refine wpAnyH_ready (rs := [6, 12]) (by kernel_rfl) (by simp) ?_
          refine AllReadyH.cons rfl (fun K hK => ?_) ?_
          go_simp
          refine hK.out _ _ (True.intro) (fun hHeld => ?_)
          clear hK K
          clear hHeld
          try simp only [Act.put, List.getElem_toArray, List.getElem_cons_zero, List.getElem_cons_succ, List.setIfInBounds_toArray, List.set_cons_zero, List.set_cons_succ]
          refine wpAnyH_ready (rs := [12]) (by kernel_rfl) (by simp) ?_
          refine AllReadyH.cons rfl (fun K hK => ?_) AllReadyH.nil
          go_simp
          refine hK.out _ _ (True.intro) (fun hHeld => ?_)
          clear hK K
          clear hHeld
          try simp only [Act.put, List.getElem_toArray, List.getElem_cons_zero, List.getElem_cons_succ, List.setIfInBounds_toArray, List.set_cons_zero, List.set_cons_succ]
          exact ?shared
          refine AllReadyH.cons rfl (fun K hK => ?_) AllReadyH.nil
          go_simp
          refine hK.out _ _ (True.intro) (fun hHeld => ?_)
          clear hK K
          clear hHeld
          try simp only [Act.put, List.getElem_toArray, List.getElem_cons_zero, List.getElem_cons_succ, List.setIfInBounds_toArray, List.set_cons_zero, List.set_cons_succ]
          refine wpAnyH_ready (rs := [6]) (by kernel_rfl) (by simp) ?_
          refine AllReadyH.cons rfl (fun K hK => ?_) AllReadyH.nil
          go_simp
          refine hK.out _ _ (True.intro) (fun hHeld => ?_)
          clear hK K
          clear hHeld
          try simp only [Act.put, List.getElem_toArray, List.getElem_cons_zero, List.getElem_cons_succ, List.setIfInBounds_toArray, List.set_cons_zero, List.set_cons_succ]
          exact ?shared
          refine AllReadyH.cons rfl (fun K hK => ?_) AllReadyH.nil
          go_simp
          refine hK.out _ _ (True.intro) (fun hHeld => ?_)
          clear hK K
          clear hHeld
          try simp only [Act.put, List.getElem_toArray, List.getElem_cons_zero, List.getElem_cons_succ, List.setIfInBounds_toArray, List.set_cons_zero, List.set_cons_succ]
          refine wpAnyH_ready (rs := [6, 9]) (by kernel_rfl) (by simp) ?_
          refine AllReadyH.cons rfl (fun K hK => ?_) ?_
          go_simp
          refine hK.out _ _ (True.intro) (fun hHeld => ?_)
          clear hK K
          clear hHeld
          try simp only [Act.put, List.getElem_toArray, List.getElem_cons_zero, List.getElem_cons_succ, List.setIfInBounds_toArray, List.set_cons_zero, List.set_cons_succ]
          refine wpAnyH_ready (rs := [9]) (by kernel_rfl) (by simp) ?_
          refine AllReadyH.cons rfl (fun K hK => ?_) AllReadyH.nil
          go_simp
          refine hK.out _ _ (True.intro) (fun hHeld => ?_)
          clear hK K
          clear hHeld
          try simp only [Act.put, List.getElem_toArray, List.getElem_cons_zero, List.getElem_cons_succ, List.setIfInBounds_toArray, List.set_cons_zero, List.set_cons_succ]
          exact ?shared
          refine AllReadyH.cons rfl (fun K hK => ?_) AllReadyH.nil
          go_simp
          refine hK.out _ _ (True.intro) (fun hHeld => ?_)
          clear hK K
          clear hHeld
          try simp only [Act.put, List.getElem_toArray, List.getElem_cons_zero, List.getElem_cons_succ, List.setIfInBounds_toArray, List.set_cons_zero, List.set_cons_succ]
          refine wpAnyH_ready (rs := [6]) (by kernel_rfl) (by simp) ?_
          refine AllReadyH.cons rfl (fun K hK => ?_) AllReadyH.nil
          go_simp
          refine hK.out _ _ (True.intro) (fun hHeld => ?_)
          clear hK K
          clear hHeld
          try simp only [Act.put, List.getElem_toArray, List.getElem_cons_zero, List.getElem_cons_succ, List.setIfInBounds_toArray, List.set_cons_zero, List.set_cons_succ]
          exact ?shared
          refine wpAnyH_ready (rs := [16]) (by kernel_rfl) (by simp) ?_
          refine AllReadyH.cons rfl (fun K hK => ?_) AllReadyH.nil
          go_simp
          refine (quarter_any ⟨xa, xb, xc, xd⟩ W0 HOK.out).mono ?_
          rintro e w' ⟨rfl, rfl⟩
          refine hK.out _ _ (True.intro) (fun hHeld => ?_)
          clear hK K
          try simp only [Act.put, List.getElem_toArray, List.getElem_cons_zero, List.getElem_cons_succ, List.setIfInBounds_toArray, List.set_cons_zero, List.set_cons_succ]
          generalize (Q4.mk xa xb xc xd).two = q at *
          refine wpAnyH_take (i := 17) (v := ?v13) rfl (by kernel_rfl) (by kernel_rfl) (by kernel_rfl) (fun _ _ _ h => h) (Or.inl ⟨by rfl, ?hy13⟩) (by assumption) ?rest13
          case hy13 => (intro w hSw; (try dsimp only at hSw); go_simp; try with_reducible rfl)
          try simp only [Act.put, List.getElem_toArray, List.getElem_cons_zero, List.getElem_cons_succ, List.setIfInBounds_toArray, List.set_cons_zero, List.set_cons_succ]
          refine wpAnyH_take (i := 18) (v := ?v14) rfl (by kernel_rfl) (by kernel_rfl) (by kernel_rfl) (fun _ _ _ h => h) (Or.inl ⟨by rfl, ?hy14⟩) (by assumption) ?rest14
          case hy14 => (intro w hSw; (try dsimp only at hSw); go_simp; try with_reducible rfl)
          try simp only [Act.put, List.getElem_toArray, List.getElem_cons_zero, List.getElem_cons_succ, List.setIfInBounds_toArray, List.set_cons_zero, List.set_cons_succ]
          refine wpAnyH_take (i := 19) (v := ?v15) rfl (by kernel_rfl) (by kernel_rfl) (by kernel_rfl) (fun _ _ _ h => h) (Or.inl ⟨by rfl, ?hy15⟩) (by assumption) ?rest15
          case hy15 => (intro w hSw; (try dsimp only at hSw); go_simp; try with_reducible rfl)
          try simp only [Act.put, List.getElem_toArray, List.getElem_cons_zero, List.getElem_cons_succ, List.setIfInBounds_toArray, List.set_cons_zero, List.set_cons_succ]
          refine wpAnyH_take (i := 20) (v := ?v16) rfl (by kernel_rfl) (by kernel_rfl) (by kernel_rfl) (fun _ _ _ h => h) (Or.inl ⟨by rfl, ?hy16⟩) (by assumption) ?rest16
          case hy16 => (intro w hSw; (try dsimp only at hSw); go_simp; try with_reducible rfl)
          try simp only [Act.put, List.getElem_toArray, List.getElem_cons_zero, List.getElem_cons_succ, List.setIfInBounds_toArray, List.set_cons_zero, List.set_cons_succ]
          refine wpAnyH_take (i := 21) (v := ?v17) rfl (by kernel_rfl) (by kernel_rfl) (by kernel_rfl) (fun _ _ _ h => h) (Or.inl ⟨by rfl, ?hy17⟩) (by assumption) ?rest17
          case hy17 => (intro w hSw; (try dsimp only at hSw); go_simp; try with_reducible rfl)
          try simp only [Act.put, List.getElem_toArray, List.getElem_cons_zero, List.getElem_cons_succ, List.setIfInBounds_toArray, List.set_cons_zero, List.set_cons_succ]
          refine wpAnyH_take (i := 22) (v := ?v18) rfl (by kernel_rfl) (by kernel_rfl) (by kernel_rfl) (fun _ _ _ h => h) (Or.inl ⟨by rfl, ?hy18⟩) (by assumption) ?rest18
          case hy18 => (intro w hSw; (try dsimp only at hSw); go_simp; try with_reducible rfl)
          try simp only [Act.put, List.getElem_toArray, List.getElem_cons_zero, List.getElem_cons_succ, List.setIfInBounds_toArray, List.set_cons_zero, List.set_cons_succ]
          obtain ⟨o0, co0⟩ := blk_some X1 qa (by first | exact hl16 | simpa using hl16) ha
          have fo0 := Blk.frozen X1 qa
          refine wpAnyH_ready (rs := [23]) (by kernel_rfl) (by simp) ?_
          refine AllReadyH.cons rfl (fun K hK => ?_) AllReadyH.nil
          go_simp
          refine hK.out _ _ (True.intro) (fun hHeld => ?_)
          clear hK K
          try simp only [Act.put, List.getElem_toArray, List.getElem_cons_zero, List.getElem_cons_succ, List.setIfInBounds_toArray, List.set_cons_zero, List.set_cons_succ]
          have Y0 := X1.set qa (.int .u32 (q.a : Int))
          rw [List.setIfInBounds_toArray, cellsW_set] at Y0
          clear co0 fo0
          refine wpAnyH_take (i := 24) (v := ?v19) rfl (by kernel_rfl) (by kernel_rfl) (by kernel_rfl) (fun _ _ _ h => h) (Or.inl ⟨by rfl, ?hy19⟩) (by assumption) ?rest19
          case hy19 => (intro w hSw; (try dsimp only at hSw); go_simp; try with_reducible rfl)
          try simp only [Act.put, List.getElem_toArray, List.getElem_cons_zero, List.getElem_cons_succ, List.setIfInBounds_toArray, List.set_cons_zero, List.set_cons_succ]
          obtain ⟨o1, co1⟩ := blk_some Y0 qb (by first | exact hl16 | simpa using hl16) hb
          have fo1 := Blk.frozen Y0 qb
          refine wpAnyH_ready (rs := [25]) (by kernel_rfl) (by simp) ?_
          refine AllReadyH.cons rfl (fun K hK => ?_) AllReadyH.nil
          go_simp
          refine hK.out _ _ (True.intro) (fun hHeld => ?_)
          clear hK K
          try simp only [Act.put, List.getElem_toArray, List.getElem_cons_zero, List.getElem_cons_succ, List.setIfInBounds_toArray, List.set_cons_zero, List.set_cons_succ]
          have Y1 := Y0.set qb (.int .u32 (q.b : Int))
          rw [List.setIfInBounds_toArray, cellsW_set] at Y1
          clear co1 fo1
          refine wpAnyH_take (i := 26) (v := ?v20) rfl (by kernel_rfl) (by kernel_rfl) (by kernel_rfl) (fun _ _ _ h => h) (Or.inl ⟨by rfl, ?hy20⟩) (by assumption) ?rest20
          case hy20 => (intro w hSw; (try dsimp only at hSw); go_simp; try with_reducible rfl)
          try simp only [Act.put, List.getElem_toArray, List.getElem_cons_zero, List.getElem_cons_succ, List.setIfInBounds_toArray, List.set_cons_zero, List.set_cons_succ]
          obtain ⟨o2, co2⟩ := blk_some Y1 qc (by first | exact hl16 | simpa using hl16) hc
          have fo2 := Blk.frozen Y1 qc
          refine wpAnyH_ready (rs := [27]) (by kernel_rfl) (by simp) ?_
          refine AllReadyH.cons rfl (fun K hK => ?_) AllReadyH.nil
          go_simp
          refine hK.out _ _ (True.intro) (fun hHeld => ?_)
          clear hK K
          try simp only [Act.put, List.getElem_toArray, List.getElem_cons_zero, List.getElem_cons_succ, List.setIfInBounds_toArray, List.set_cons_zero, List.set_cons_succ]
          have Y2 := Y1.set qc (.int .u32 (q.c : Int))
          rw [List.setIfInBounds_toArray, cellsW_set] at Y2
          clear co2 fo2
          refine wpAnyH_take (i := 28) (v := ?v21) rfl (by kernel_rfl) (by kernel_rfl) (by kernel_rfl) (fun _ _ _ h => h) (Or.inl ⟨by rfl, ?hy21⟩) (by assumption) ?rest21
          case hy21 => (intro w hSw; (try dsimp only at hSw); go_simp; try with_reducible rfl)
          try simp only [Act.put, List.getElem_toArray, List.getElem_cons_zero, List.getElem_cons_succ, List.setIfInBounds_toArray, List.set_cons_zero, List.set_cons_succ]
          obtain ⟨o3, co3⟩ := blk_some Y2 qd (by first | exact hl16 | simpa using hl16) hd
          have fo3 := Blk.frozen Y2 qd
          refine wpAnyH_ready (rs := [29]) (by kernel_rfl) (by simp) ?_
          refine AllReadyH.cons rfl (fun K hK => ?_) AllReadyH.nil
          go_simp
          refine hK.out _ _ (True.intro) (fun hHeld => ?_)
          clear hK K
          try simp only [Act.put, List.getElem_toArray, List.getElem_cons_zero, List.getElem_cons_succ, List.setIfInBounds_toArray, List.set_cons_zero, List.set_cons_succ]
          have Y3 := Y2.set qd (.int .u32 (q.d : Int))
          rw [List.setIfInBounds_toArray, cellsW_set] at Y3
          clear co3 fo3
          have FIN : Hid (MixInv w g1 g2 (E8 (j + 1)) ((((W0.setCell ⟨g1, qa, none⟩ (.int .u32 (q.a : Int))).setCell ⟨g1, qb, none⟩ (.int .u32 (q.b : Int))).setCell ⟨g1, qc, none⟩ (.int .u32 (q.c : Int))).setCell ⟨g1, qd, none⟩ (.int .u32 (q.d : Int)))) := by
            have fr : Frm (fun i => i = g1) W0 ((((W0.setCell ⟨g1, qa, none⟩ (.int .u32 (q.a : Int))).setCell ⟨g1, qb, none⟩ (.int .u32 (q.b : Int))).setCell ⟨g1, qc, none⟩ (.int .u32 (q.c : Int))).setCell ⟨g1, qd, none⟩ (.int .u32 (q.d : Int))) := ((((Frm.setCell _ _ _ (fun k => k = g1) rfl).trans (Frm.setCell _ _ _ (fun k => k = g1) rfl) (fun _ _ h => h)).trans (Frm.setCell _ _ _ (fun k => k = g1) rfl) (fun _ _ h => h)).trans (Frm.setCell _ _ _ (fun k => k = g1) rfl) (fun _ _ h => h))
            exact ⟨by rw [HEJ.out]; exact Y3, HI3.out.res.frm fr (fun h => hne h.symm), HI3.out.gc.frm fr (by omega) (by omega), below_frm HI3.out.below fr HI3.out.below.size (fun i hi => by rw [hi, HG1.out]; exact Nat.le_refl _)⟩
          clear Y0 Y1 Y2 Y3 X1 HI3 HEJ la lb lc ld
          refine wpAnyH_done (by kernel_rfl) ?_ _
          go_wp2_with fail
          go_roundw
          case rel => first | exact ⟨j + 1, by omega, by go_num, FIN.out⟩ | ((repeat apply Exists.intro); exact ⟨⟨j + 1, by omega, by go_num, FIN.out⟩, rfl⟩)
          case measure => simp [intOf]; omega
        · obtain rfl : j = 8 := by omega
          have FIN : Hid (MixInv w g1 g2 (M (k + 1)) wr) := by rw [HE8.out]; exact hi
          clear hi
          go_wp2_with fail
          go_roundw
          case rel => first | exact ⟨k + 1, by omega, by go_num, FIN.out⟩ | ((repeat apply Exists.intro); exact ⟨⟨k + 1, by omega, by go_num, FIN.out⟩, rfl⟩)
          case measure => simp [intOf]; omega
    · obtain rfl : k = 10 := by omega
      have hb := hi.blk
      have hres := hi.res
      have hbel := hi.below
      have HL : Hid ((cellsW (M 10)).length = 16) := by show _ = _; rw [cellsW_length, HML.out]
      have HX : Hid (((cellsW (M 10)).drop 0).take 16 = cellsW (M 10)) := by show _ = _; rw [List.drop_zero, List.take_of_length_le (by rw [HL.out]; exact Nat.le_refl _)]
      clear hi
      go_wp2_with (first
        | (with_reducible refine wpl_loada (op := ⟨some 51, _, _, _, _, _⟩) agg16w rfl _ rfl g1 0 rfl _ _ _ hb HX.out (by rw [HL.out]; exact Nat.le_refl _) ?_)
        | ((with_reducible refine wpl_storea agg16w rfl (.tmp 2) (.tmp 51) rfl g2 (cellsW (M 10)) rfl rfl _ _ hres HL.out (by simp [cellsW]) (cellsW_one _) ?_); intro w4 hB4 hF4))
      refine ret_agg agg16w rfl rfl g2 _ _ rfl hB4 HL.out ⟨rfl, below_frm hbel hF4 hbel.size (by intro i hi; omega)⟩

end Go.Proofs.YtjdffceeinflcaaDoor
