/-
  Parts that come in, cut and joined.
-/
import Derived.Test.YtbicjcpdcopbhaaDoorJoined
import Derived.OwnWalk
namespace Go.Proofs.YtbicjcpdcopbhaaDoor
set_option linter.unusedVariables false
set_option linter.unusedSimpArgs false
open Go.RowKit

def Dis (a b : Value) : Prop := ∀ g, a.ownBlock = some g → b.ownBlock ≠ some g
theorem OwnAll.ltall {w : World} {B : Nat} {vs : List Value} {ls : List (List UInt8)} (h : OwnAll w B vs ls) : ∀ v ∈ vs, ∀ g, v.ownBlock = some g → g < w.heap.size := by
  induction h with
  | nil => intro v hv; cases hv
  | cons ho _ ih =>
    intro v hv g hg
    rcases List.mem_cons.1 hv with rfl | hv
    · exact (ho.lt g hg).2
    · exact ih v hv g hg
structure JInv2 (w : World) (A : Option Addr) (c : Nat) (TA : Option Addr) (tc k : Nat) (vs : List Value) (ps : List (List UInt8)) (wr : World) : Prop where
  frm : Frm (fun _ => False) w wr
  own : wr.ownsRow w.heap.size 24 1 (.slice A k c) k vs
  parts : OwnAll wr w.heap.size vs ps
  texts : wr.ownsRow w.heap.size 9 1 (.slice TA k tc) k (ps.map strV)
  dis : vs.Pairwise Dis

set_option maxHeartbeats 8000000 in
set_option maxRecDepth 100000 in
theorem joined2_any (a0 : Option Addr) (len0 cap0 : Nat) (L : Nat → List UInt8) (w : World) (h0 : Rows2 w a0 len0 L) (hl0 : len0 ≤ cap0) (hm0 : cap0 ≤ 9223372036854775807) :
    Calls Tryd.prog 26 #[.slice a0 len0 cap0] w fun e w' => ∃ (k : Nat) (A : Option Addr) (c : Nat) (TA : Option Addr) (tc : Nat) (vs : List Value), k ≤ 5 ∧ e = .returned (.tuple #[.slice A k c, .slice TA k tc, .string ⟨((partsL L k).flatten).toArray⟩]) ∧ JInv2 w A c TA tc k vs (partsL L k) w' := by
  obtain ⟨KK, hKK⟩ : ∃ K, K = Nat.min len0 5 := ⟨_, rfl⟩
  have hK1 : KK ≤ len0 := by rw [hKK]; exact Nat.min_le_left _ _
  have hK2 : KK ≤ 5 := by rw [hKK]; exact Nat.min_le_right _ _
  have HKK : Hid (KK = len0 ∨ KK = 5) := by show _ ∨ _; rw [hKK]; simp only [Nat.min_def]; split <;> omega
  have H0 := hide h0
  clear hKK h0
  go_enter Tryd.func26, Tryd.ntmps26
  go_wp2_with fail
  have HI : Hid (JInv2 w none 0 none 0 0 [] (partsL L 0) w) := ⟨Frm.refl _ _, ⟨rfl, .inl ⟨rfl, rfl⟩⟩, .nil, ⟨rfl, .inl ⟨rfl, rfl⟩⟩, List.Pairwise.nil⟩
  go_loopw [5, 6, 7, 8] (fun v t s i wr => ∃ (k : Nat) (A : Option Addr) (c : Nat) (TA : Option Addr) (tc : Nat) (vs : List Value), k ≤ KK ∧ i = .int .i64 k ∧ v = .slice A k c ∧ t = .slice TA k tc ∧ s = .string ⟨((partsL L k).flatten).toArray⟩ ∧ JInv2 w A c TA tc k vs (partsL L k) wr) (fun _ _ _ i _ => KK - (intOf i).toNat)
  case atStart => exact ⟨0, none, 0, none, 0, [], by omega, rfl, rfl, rfl, rfl, HI.out⟩
  case round =>
    clear HI
    obtain ⟨k, A, c, TA, tc, vs, hk, rfl, rfl, rfl, rfl, hi⟩ := hrel
    have HI := hide hi
    clear hi
    by_cases hlt : k < KK
    · have hkl : k < len0 := by omega
      have hk6 : k < 5 := by omega
      obtain ⟨pa, rfl, hrow⟩ := H0.out (by omega)
      obtain ⟨Ar, cr, hcell, hcr1, hcr2, hrd⟩ := hrow k hkl
      obtain ⟨m, HM, hm1, hm2, hm3⟩ := nat_min (L k).length 200
      have HRM := hide (hrd.take m hm1)
      rw [cellsB_take] at HRM
      have hxk : (L k).take m = (L k).take 200 := by
        rw [hm3]
        apply List.ext_getElem?
        intro j
        rw [List.getElem?_take, List.getElem?_take]
        have : Nat.min (L k).length 200 = min (L k).length 200 := rfl
        split <;> split <;> first | rfl | omega | (rw [List.getElem?_eq_none (by omega)])
      have HPS := hide (partsL_succ L k)
      rw [← hxk] at HPS
      have HXM : Hid (((L k).take m).length = m) := by have := HRM.out.1; rwa [cellsB_length] at this
      have hfl := partsL_flat L k
      obtain ⟨nr, hnr⟩ : ∃ nr, nr = (L k).length := ⟨_, rfl⟩
      rw [← hnr] at hcell hcr1 HM hm1
      generalize (L k).take m = x at *
      have hcw : wr.cell? (pa.add k) = some (.slice Ar nr cr) := cell_frm HI.out.frm hcell (fun h => h)
      have hpb : (pa.add k).block < w.heap.size := World.block_lt_of_cell? w _ hcell
      have HC0 : Hid (wr.drew.cell? (pa.add k) = some (.slice Ar nr cr)) := hcw
      have hnm : nr ≤ 9223372036854775807 := by omega
      have hmc : m ≤ cr := by omega
      have hki : (k : Int) < (len0 : Int) := by omega
      clear hcell hrd hrow hxk hnr hm3 hcw
      go_wp2_with fail
      refine wp_region_held_drew (S := fun W => W.cell? (pa.add k) = some (.slice Ar nr cr)) (by kernel_rfl) (HC0.out) ?_
      intro hHeld
      obtain ⟨W0, hW0⟩ : ∃ W0, W0 = wr.drew := ⟨_, rfl⟩
      rw [← hW0] at HC0 hHeld ⊢
      have hFd : Frm (fun _ => False) wr W0 := by rw [hW0]; exact (Frm.refl _ _).drew
      clear hW0
      refine wpAnyH_take (i := 1) (v := ?v1) rfl (by kernel_rfl) (by kernel_rfl) (by kernel_rfl) (fun _ _ _ h => h) (Or.inl ⟨by rfl, ?hy1⟩) (by assumption) ?rest1
      case hy1 => (intro w hSw; (try dsimp only at hSw); go_simp; try with_reducible rfl)
      try simp only [Act.put, List.getElem_toArray, List.getElem_cons_zero, List.getElem_cons_succ, List.setIfInBounds_toArray, List.set_cons_zero, List.set_cons_succ]
      refine wpAnyH_take (i := 2) (v := ?v2) rfl (by kernel_rfl) (by kernel_rfl) (by kernel_rfl) (fun _ _ _ h => h) (Or.inl ⟨by rfl, ?hy2⟩) (by assumption) ?rest2
      case hy2 => (intro w hSw; (try dsimp only at hSw); go_simp; try with_reducible rfl)
      try simp only [Act.put, List.getElem_toArray, List.getElem_cons_zero, List.getElem_cons_succ, List.setIfInBounds_toArray, List.set_cons_zero, List.set_cons_succ]
      refine wpAnyH_take (i := 3) (v := ?v3) rfl (by kernel_rfl) (by kernel_rfl) (by kernel_rfl) (fun _ _ _ h => h) (Or.inl ⟨by rfl, ?hy3⟩) (by assumption) ?rest3
      case hy3 => (intro w hSw; (try dsimp only at hSw); go_simp; try with_reducible rfl)
      try simp only [Act.put, List.getElem_toArray, List.getElem_cons_zero, List.getElem_cons_succ, List.setIfInBounds_toArray, List.set_cons_zero, List.set_cons_succ]
      refine wpAnyH_take (i := 4) (v := ?v4) rfl (by kernel_rfl) (by kernel_rfl) (by kernel_rfl) (fun _ _ _ h => h) (Or.inl ⟨by rfl, ?hy4⟩) (by assumption) ?rest4
      case hy4 => (intro w hSw; (try dsimp only at hSw); go_simp; try with_reducible rfl)
      try simp only [Act.put, List.getElem_toArray, List.getElem_cons_zero, List.getElem_cons_succ, List.setIfInBounds_toArray, List.set_cons_zero, List.set_cons_succ]
      refine wpAnyH_take (i := 5) (v := ?v5) rfl (by kernel_rfl) (by kernel_rfl) (by kernel_rfl) (fun _ _ _ h => h) (Or.inl ⟨by rfl, ?hy5⟩) (by assumption) ?rest5
      case hy5 => (intro w hSw; (try dsimp only at hSw); go_simp; try with_reducible rfl)
      try simp only [Act.put, List.getElem_toArray, List.getElem_cons_zero, List.getElem_cons_succ, List.setIfInBounds_toArray, List.set_cons_zero, List.set_cons_succ]
      refine wpAnyH_take (i := 6) (v := ?v6) rfl (by kernel_rfl) (by kernel_rfl) (by kernel_rfl) (fun _ _ _ h => h) (Or.inl ⟨by rfl, ?hy6⟩) (by assumption) ?rest6
      case hy6 => (intro w hSw; (try dsimp only at hSw); go_simp; try with_reducible rfl)
      try simp only [Act.put, List.getElem_toArray, List.getElem_cons_zero, List.getElem_cons_succ, List.setIfInBounds_toArray, List.set_cons_zero, List.set_cons_succ]
      refine wpAnyH_take (i := 7) (v := ?v7) rfl (by kernel_rfl) (by kernel_rfl) (by kernel_rfl) (fun _ _ _ h => h) (Or.inl ⟨by rfl, ?hy7⟩) (by assumption) ?rest7
      case hy7 => (intro w hSw; (try dsimp only at hSw); go_simp; try with_reducible rfl)
      try simp only [Act.put, List.getElem_toArray, List.getElem_cons_zero, List.getElem_cons_succ, List.setIfInBounds_toArray, List.set_cons_zero, List.set_cons_succ]
      refine wpAnyH_take (i := 8) (v := ?v8) rfl (by kernel_rfl) (by kernel_rfl) (by kernel_rfl) (fun _ _ _ h => h) (Or.inl ⟨by rfl, ?hy8⟩) (by assumption) ?rest8
      case hy8 => (intro w hSw; (try dsimp only at hSw); go_simp; try with_reducible rfl)
      try simp only [Act.put, List.getElem_toArray, List.getElem_cons_zero, List.getElem_cons_succ, List.setIfInBounds_toArray, List.set_cons_zero, List.set_cons_succ]
      refine wpAnyH_take (i := 9) (v := ?v9) rfl (by kernel_rfl) (by kernel_rfl) (by kernel_rfl) (fun _ _ _ h => h) (Or.inl ⟨by rfl, ?hy9⟩) (by assumption) ?rest9
      case hy9 => (intro w hSw; (try dsimp only at hSw); go_simp; try with_reducible rfl)
      try simp only [Act.put, List.getElem_toArray, List.getElem_cons_zero, List.getElem_cons_succ, List.setIfInBounds_toArray, List.set_cons_zero, List.set_cons_succ]
      refine wpAnyH_take (i := 10) (v := ?v10) rfl (by kernel_rfl) (by kernel_rfl) (by kernel_rfl) (fun _ _ _ h => h) (Or.inl ⟨by rfl, ?hy10⟩) (by assumption) ?rest10
      case hy10 => (intro w hSw; refine held_min (.tmp 29) (.const (.int .i64 200)) 3 3 ?_ (nr : Int) 200 (m : Int) ?_ ?_ HM.out <;> rfl)
      try simp only [Act.put, List.getElem_toArray, List.getElem_cons_zero, List.getElem_cons_succ, List.setIfInBounds_toArray, List.set_cons_zero, List.set_cons_succ]
      refine wpAnyH_take (i := 11) (v := ?v11) rfl (by kernel_rfl) (by kernel_rfl) (by kernel_rfl) (fun _ _ _ h => h) (Or.inl ⟨by rfl, ?hy11⟩) (by assumption) ?rest11
      case hy11 => (intro w hSw; refine held_cut0 (.tmp 24) (.tmp 30) ?_ Ar nr cr m ?_ ?_ hmc <;> rfl)
      try simp only [Act.put, List.getElem_toArray, List.getElem_cons_zero, List.getElem_cons_succ, List.setIfInBounds_toArray, List.set_cons_zero, List.set_cons_succ]
      refine wpAnyH_ready (rs := [0]) (by kernel_rfl) (by simp) ?_
      refine AllReadyH.cons rfl (fun K hK => ?_) AllReadyH.nil
      go_simp
      have hFa : Frm (fun _ => False) W0 (W0.alloc (.cells #[] 5)) := Frm.alloc _ _ _
      have HC1 := hide (cell_frm hFa HC0.out (fun h => h))
      have hov := World.ownsRow_made (e := 5) (size := 1) (base := W0.heap.size) W0 #[] 0 (Nat.le_refl _) (by simp [maxLen]) (by simp)
      have hW0s : w.heap.size ≤ W0.heap.size := by have := HI.out.frm.size; have := hFd.size; omega
      have HRW := hide (HRM.out.frm ((HI.out.frm.trans hFd (fun _ _ h => h)).trans hFa (fun _ _ h => h)) (fun _ _ _ h => h))
      refine hK.out _ _ (HC1.out) (fun hHeld => ?_)
      clear hK K
      refine wpAnyH_ready (rs := [12]) (by kernel_rfl) (by simp) ?_
      refine AllReadyH.cons rfl (fun K hK => ?_) AllReadyH.nil
      refine step_app one_u8 rfl (.tmp 20) (.tmp 31) rfl (W0.alloc (.cells #[] 5)) W0.heap.size (.slice (some ⟨W0.heap.size, 0, none⟩) 0 0) 0 _ rfl hov Ar m cr (cellsB x) rfl HRW.out (cellsB_one _) (by omega) (by omega) hFa.size ?_
      intro A7 c7 w7 hown7 hg7 hat7
      have hF7 := Frm.of_grown hg7
      have HC7 := hide (cell_frm hF7 HC1.out (fun h => by have h' : (pa.add k).block = W0.heap.size := by simpa [Value.ownBlock] using h
                                                          omega))
      refine hK.out _ _ (HC7.out) (fun hHeld => ?_)
      clear hK K
      refine wpAnyH_take (i := 13) (v := ?v12) rfl (by kernel_rfl) (by kernel_rfl) (by kernel_rfl) (fun _ _ _ h => h) (Or.inl ⟨by rfl, ?hy12⟩) (by assumption) ?rest12
      case hy12 => (intro w hSw; (try dsimp only at hSw); go_simp; try with_reducible rfl)
      try simp only [Act.put, List.getElem_toArray, List.getElem_cons_zero, List.getElem_cons_succ, List.setIfInBounds_toArray, List.set_cons_zero, List.set_cons_succ]
      refine wpAnyH_done (by kernel_rfl) ?_ _
      have F07 : Frm (fun j => j = W0.heap.size) W0 w7 := (hFa.mono (T := fun j => j = W0.heap.size) (fun _ _ h => h.elim)).trans hF7 (fun j _ h => (by simpa [Value.ownBlock] using h : j = W0.heap.size))
      have Fw7 : Frm (fun _ => False) w w7 := (HI.out.frm.trans hFd (fun _ _ h => h)).trans F07 (fun j hj h => by omega)
      rw [Nat.zero_add, List.nil_append] at hown7
      have hp7 : w7.ownsRow w.heap.size 5 1 (.slice A7 m c7) x.length (cellsB x) := by rw [HXM.out]; exact own_base hown7 hW0s
      have ho0 := own_frm HI.out.own hFd (fun _ _ h => h)
      have ho7 := own_frm ho0 F07 (fun j hj => by have := (ho0.lt j hj).2; omega)
      have ht0 := own_frm HI.out.texts hFd (fun _ _ h => h)
      have ht7 := own_frm ht0 F07 (fun j hj => by have := (ht0.lt j hj).2; omega)
      have hps7 := (HI.out.parts.frm2 hFd (fun _ _ h => h)).frm2 F07 (fun g hg => by omega)
      have hps7' := hps7.snoc hp7
      have HDIS : Hid ((vs ++ [Value.slice A7 m c7]).Pairwise Dis) := by
        refine List.pairwise_append.2 ⟨HI.out.dis, List.pairwise_singleton _ _, fun a ha b hb g hg hb' => ?_⟩
        have h1 := HI.out.parts.ltall a ha g hg
        have h2 := hFd.size
        rw [List.mem_singleton] at hb
        subst hb
        have := (hown7.lt g hb').1
        omega
      clear hov HRW HRM hg7 hat7 hF7 F07 HC7 HC1 HC0 hHeld HI ho0 ht0 hps7 hown7
      have hFb : Frm (fun _ => False) w7 (w7.alloc (.cells #[.slice A7 m c7] 24)) := Frm.alloc _ _ _
      have ho8 := own_frm ho7 hFb (fun _ _ h => h)
      have ht8 := own_frm ht7 hFb (fun _ _ h => h)
      have hp8 := own_frm hp7 hFb (fun _ _ h => h)
      have hps8 := hps7'.frm2 hFb (fun _ _ h => h)
      have Fw8 := Fw7.trans hFb (fun _ _ h => h)
      have hr1 := Rds.new1 w7 24 (.slice A7 m c7)
      have hb1 : (k + 1) * 24 ≤ 140737488355328 := by omega
      have hb2 : k + 1 ≤ 140737488355328 := by omega
      have hb3 := Fw8.size
      have hn1 : ∀ u ∈ [Value.slice A7 m c7], u.oneCell' = true := by intro u hu; simp at hu; subst hu; rfl
      clear ho7 ht7 hp7 hps7' hFb
      have HCVf : Hid (∀ w9 : World, w9.ownsRow w.heap.size 5 1 (.slice A7 m c7) x.length (cellsB x) → Sem.run Tryd.prog (convert 24 9 (.slice A7 m c7)) w9 = .ok (.string ⟨x.toArray⟩) w9) := fun w9 h => by
        refine conv_rds w9 24 9 5 under24 under5 under9 A7 m c7 x ?_
        have h2 := h
        rw [HXM.out] at h2
        exact (Seg.of_own h2).rds
      have hap : ((⟨((partsL L k).flatten).toArray⟩ : ByteArray) ++ ⟨x.toArray⟩) = ⟨((partsL L (k + 1)).flatten).toArray⟩ := by rw [txt_append, HPS.out, List.flatten_append]; simp
      have hz1 : (⟨((partsL L k).flatten).toArray⟩ : ByteArray).size ≤ 1200 := by show ((partsL L k).flatten).toArray.size ≤ 1200; rw [List.size_toArray]; omega
      have hz2 : (⟨x.toArray⟩ : ByteArray).size = m := by show x.toArray.size = m; rw [List.size_toArray]; exact HXM.out
      have HSV : Hid (strV x = .string ⟨x.toArray⟩) := rfl
      generalize hBx : (⟨x.toArray⟩ : ByteArray) = Bx at *
      generalize (⟨((partsL L k).flatten).toArray⟩ : ByteArray) = B0 at *
      generalize hB1 : (⟨((partsL L (k + 1)).flatten).toArray⟩ : ByteArray) = B1 at *
      have HB1 := hide hB1
      clear hB1 hBx
      have HKd := hide (own_kind' ho8 hp8)
      have HKt := hide (own_own ho8 ht8 (by decide))
      go_wp2_with (first
        | (at_builtin; refine wpl_app one_sl rfl (.tmp 33) (.tmp 35) rfl _ w.heap.size (.slice A k c) k _ rfl ho8 (some ⟨w7.heap.size, 0, none⟩) 1 1 [.slice A7 m c7] rfl hr1 hn1 hb1 hb2 hb3 ?_; intro A9 c9 w9 hown9 hg9 hat9; have hF9 := Frm.of_grown hg9; have hp9 := own_frm hp8 hF9 HKd.out; have hcv := HCVf.out w9 hp9; have hFc : Frm (fun _ => False) w9 (w9.alloc (.cells #[.string Bx] 9)) := Frm.alloc _ _ _; have ht9 := own_frm (own_frm ht8 hF9 HKt.out) hFc (fun _ _ h => h); have hr9 := Rds.new1 w9 9 (.string Bx); have hb9 : w.heap.size ≤ (w9.alloc (.cells #[.string Bx] 9)).heap.size := (by have := hF9.size; have := hFc.size; omega); have hb6 : (k + 1) * 16 ≤ 140737488355328 := (by omega); have hn9 : ∀ u ∈ [Value.string Bx], u.oneCell' = true := (by intro u hu; simp at hu; subst hu; rfl))
        | (at_builtin; refine wpl_app one_str rfl (.tmp 37) (.tmp 40) rfl _ w.heap.size (.slice TA k tc) k _ rfl ht9 (some ⟨w9.heap.size, 0, none⟩) 1 1 [.string Bx] rfl hr9 hn9 hb6 hb2 hb9 ?_; intro A10 c10 w10 hown10 hg10 hat10; have hF10 := Frm.of_grown hg10; have hp10 := own_frm (own_frm hp9 hFc (fun _ _ h => h)) hF10 (own_own ht9 (own_frm hp9 hFc (fun _ _ h => h)) (by decide)); have hcv2 := HCVf.out w10 hp10))
      have FIN : Hid (JInv2 w A9 c9 A10 c10 (k + 1) (vs ++ [.slice A7 m c7]) (partsL L (k + 1)) w10) := by
        rw [HPS.out]
        refine ⟨((Fw8.trans hF9 (fun j hj h => by have := (ho8.lt j h.symm).1; omega)).trans hFc (fun _ _ h => h)).trans hF10 (fun j hj h => by have := (ht9.lt j h.symm).1; omega), own_frm (own_frm hown9 hFc (fun _ _ h => h)) hF10 (own_own ht9 (own_frm hown9 hFc (fun _ _ h => h)) (by decide)), ((hps8.frm hF9 (own_kind ho8)).frm2 hFc (fun _ _ h => h)).frm hF10 (fun g cur hb => own_other ht9 hb (by decide)), ?_, HDIS.out⟩
        rw [List.map_append, List.map_cons, List.map_nil, HSV.out]
        exact hown10
      go_roundw
      case rel => first | exact ⟨k + 1, A9, c9, A10, c10, _, by omega, by go_num, rfl, rfl, by rw [HB1.out], FIN.out⟩ | ((repeat apply Exists.intro); exact ⟨⟨k + 1, A9, c9, A10, c10, _, by omega, by go_num, rfl, rfl, by rw [HB1.out], FIN.out⟩, rfl⟩)
      case measure => simp [intOf]; omega
    · obtain rfl : k = KK := by omega
      rcases HKK.out with hlen | hlen
      · have hd : decide (k < len0) = false := by simp; omega
        clear hlen
        go_wp2_with fail
        go_ret3
        exact ⟨k, A, c, TA, tc, vs, hK2, rfl, HI.out⟩
      · by_cases hl6 : k < len0
        · have hki : (k : Int) < (len0 : Int) := by omega
          have hd : decide ((k : Int) < 5) = false := by simp; omega
          clear hlen
          go_wp2_with fail
          go_ret3
          exact ⟨k, A, c, TA, tc, vs, hK2, rfl, HI.out⟩
        · have hd : decide (k < len0) = false := by simp; omega
          clear hlen
          go_wp2_with fail
          go_ret3
          exact ⟨k, A, c, TA, tc, vs, hK2, rfl, HI.out⟩
end Go.Proofs.YtbicjcpdcopbhaaDoor
