/-
  ShaTells, walked.
-/
import Derived.Test.YtbicjcpdcopbhaaDoorEdgesWalk
import Derived.Test.YtbicjcpdcopbhaaDoorOwn
namespace Go.Proofs.YtbicjcpdcopbhaaDoor
set_option linter.unusedVariables false
open Go.RowKit


structure TellInv (w : World) (A : Option Addr) (c k : Nat) (vs : List Value) (ps : List (List UInt8)) (wr : World) : Prop where
  run : Run w wr
  own : wr.ownsRow w.heap.size 24 1 (.slice A k c) k vs
  parts : OwnAll wr w.heap.size vs ps

set_option maxHeartbeats 8000000 in
set_option maxRecDepth 100000 in
theorem tells_walk (a0 : Option Addr) (len0 cap0 : Nat) (L : Nat → List UInt8) (w : World) (hG : Gl w) (hg0 : 2 ≤ w.heap.size) (h0 : Rows2 w a0 len0 L) (hl0 : len0 ≤ cap0) (hm0 : cap0 ≤ 9223372036854775807) :
    Calls Tryd.prog 3 #[.slice a0 len0 cap0] w fun e w' => e = .returned (.bool true) ∧ Below w.heap.size w w' := by
  obtain ⟨KK, hKK⟩ : ∃ K, K = Nat.min len0 6 := ⟨_, rfl⟩
  have hK1 : KK ≤ len0 := by rw [hKK]; exact Nat.min_le_left _ _
  have hK2 : KK ≤ 6 := by rw [hKK]; exact Nat.min_le_right _ _
  have HKK : Hid (KK = len0 ∨ KK = 6) := by show _ ∨ _; rw [hKK]; simp only [Nat.min_def]; split <;> omega
  have H0 := hide h0
  clear hKK h0
  go_enter Tryd.func3, Tryd.ntmps3
  go_wp2_with fail
  refine (shown_run w hG hg0).mono ?_
  rintro e w1 ⟨rfl, hR⟩
  go_wp2_with fail
  have HI : Hid (TellInv w none 0 0 [] (partsL L 0) w1) := ⟨hR, ⟨rfl, .inl ⟨rfl, rfl⟩⟩, .nil⟩
  clear hR hG
  go_loopw [4, 5, 6] (fun v s i wr => ∃ (k : Nat) (A : Option Addr) (c : Nat) (vs : List Value), k ≤ KK ∧ i = .int .i64 k ∧ v = .slice A k c ∧ s = .string ⟨((partsL L k).flatten).toArray⟩ ∧ TellInv w A c k vs (partsL L k) wr) (fun _ _ i _ => KK - (intOf i).toNat)
  case atStart => exact ⟨0, none, 0, [], by omega, rfl, rfl, rfl, HI.out⟩
  case round =>
    clear HI
    obtain ⟨k, A, c, vs, hk, rfl, rfl, rfl, hi⟩ := hrel
    have HI := hide hi
    clear hi
    by_cases hlt : k < KK
    · have hkl : k < len0 := by omega
      have hk6 : k < 6 := by omega
      obtain ⟨pa, rfl, hrow⟩ := H0.out (by omega)
      obtain ⟨Ar, cr, hcell, hcr1, hcr2, hrd⟩ := hrow k hkl
      obtain ⟨m, HM, hm1, hm2, hm3⟩ := nat_min (L k).length 200
      have HRM := hide (hrd.take m hm1)
      rw [cellsB_take] at HRM
      have hxk : (L k).take m = (L k).take 200 := by
        rw [hm3]
        apply List.ext_getElem?
        intro j
        rw [List.getElem?_take, List.getElem?_take]
        have : Nat.min (L k).length 200 = min (L k).length 200 := rfl
        split <;> split <;> first | rfl | omega | (rw [List.getElem?_eq_none (by omega)])
      have HPS := hide (partsL_succ L k)
      rw [← hxk] at HPS
      have HXM : Hid (((L k).take m).length = m) := by have := HRM.out.1; rwa [cellsB_length] at this
      have hfl := partsL_flat L k
      obtain ⟨nr, hnr⟩ : ∃ nr, nr = (L k).length := ⟨_, rfl⟩
      rw [← hnr] at hcell hcr1 HM hm1
      generalize (L k).take m = x at *
      have hcw : wr.cell? (pa.add k) = some (.slice Ar nr cr) := by rw [HI.out.run.below.cell (World.block_lt_of_cell? w _ hcell)]; exact hcell
      have hpb : (pa.add k).block < w.heap.size := World.block_lt_of_cell? w _ hcell
      have HC0 : Hid (wr.drew.cell? (pa.add k) = some (.slice Ar nr cr)) := hcw
      have hnm : nr ≤ 9223372036854775807 := by omega
      have hmc : m ≤ cr := by omega
      have hki : (k : Int) < (len0 : Int) := by omega
      clear hcell hrd hrow hxk hnr hm3 hcw
      go_wp2_with fail
      refine wp_region_held_drew (S := fun W => W.cell? (pa.add k) = some (.slice Ar nr cr)) (by kernel_rfl) (HC0.out) ?_
      intro hHeld
      obtain ⟨W0, hW0⟩ : ∃ W0, W0 = wr.drew := ⟨_, rfl⟩
      rw [← hW0] at HC0 hHeld ⊢
      have hFd : Frm (fun _ => False) wr W0 := by rw [hW0]; exact (Frm.refl _ _).drew
      clear hW0
      refine wpAnyH_take (i := 1) (v := ?v1) rfl (by kernel_rfl) (by kernel_rfl) (by kernel_rfl) (fun _ _ _ h => h) (Or.inl ⟨by rfl, ?hy1⟩) (by assumption) ?rest1
      case hy1 => (intro w hSw; (try dsimp only at hSw); go_simp; try with_reducible rfl)
      try simp only [Act.put, List.getElem_toArray, List.getElem_cons_zero, List.getElem_cons_succ, List.setIfInBounds_toArray, List.set_cons_zero, List.set_cons_succ]
      refine wpAnyH_take (i := 2) (v := ?v2) rfl (by kernel_rfl) (by kernel_rfl) (by kernel_rfl) (fun _ _ _ h => h) (Or.inl ⟨by rfl, ?hy2⟩) (by assumption) ?rest2
      case hy2 => (intro w hSw; (try dsimp only at hSw); go_simp; try with_reducible rfl)
      try simp only [Act.put, List.getElem_toArray, List.getElem_cons_zero, List.getElem_cons_succ, List.setIfInBounds_toArray, List.set_cons_zero, List.set_cons_succ]
      refine wpAnyH_take (i := 3) (v := ?v3) rfl (by kernel_rfl) (by kernel_rfl) (by kernel_rfl) (fun _ _ _ h => h) (Or.inl ⟨by rfl, ?hy3⟩) (by assumption) ?rest3
      case hy3 => (intro w hSw; (try dsimp only at hSw); go_simp; try with_reducible rfl)
      try simp only [Act.put, List.getElem_toArray, List.getElem_cons_zero, List.getElem_cons_succ, List.setIfInBounds_toArray, List.set_cons_zero, List.set_cons_succ]
      refine wpAnyH_take (i := 4) (v := ?v4) rfl (by kernel_rfl) (by kernel_rfl) (by kernel_rfl) (fun _ _ _ h => h) (Or.inl ⟨by rfl, ?hy4⟩) (by assumption) ?rest4
      case hy4 => (intro w hSw; (try dsimp only at hSw); go_simp; try with_reducible rfl)
      try simp only [Act.put, List.getElem_toArray, List.getElem_cons_zero, List.getElem_cons_succ, List.setIfInBounds_toArray, List.set_cons_zero, List.set_cons_succ]
      refine wpAnyH_take (i := 5) (v := ?v5) rfl (by kernel_rfl) (by kernel_rfl) (by kernel_rfl) (fun _ _ _ h => h) (Or.inl ⟨by rfl, ?hy5⟩) (by assumption) ?rest5
      case hy5 => (intro w hSw; (try dsimp only at hSw); go_simp; try with_reducible rfl)
      try simp only [Act.put, List.getElem_toArray, List.getElem_cons_zero, List.getElem_cons_succ, List.setIfInBounds_toArray, List.set_cons_zero, List.set_cons_succ]
      refine wpAnyH_take (i := 6) (v := ?v6) rfl (by kernel_rfl) (by kernel_rfl) (by kernel_rfl) (fun _ _ _ h => h) (Or.inl ⟨by rfl, ?hy6⟩) (by assumption) ?rest6
      case hy6 => (intro w hSw; (try dsimp only at hSw); go_simp; try with_reducible rfl)
      try simp only [Act.put, List.getElem_toArray, List.getElem_cons_zero, List.getElem_cons_succ, List.setIfInBounds_toArray, List.set_cons_zero, List.set_cons_succ]
      refine wpAnyH_take (i := 7) (v := ?v7) rfl (by kernel_rfl) (by kernel_rfl) (by kernel_rfl) (fun _ _ _ h => h) (Or.inl ⟨by rfl, ?hy7⟩) (by assumption) ?rest7
      case hy7 => (intro w hSw; (try dsimp only at hSw); go_simp; try with_reducible rfl)
      try simp only [Act.put, List.getElem_toArray, List.getElem_cons_zero, List.getElem_cons_succ, List.setIfInBounds_toArray, List.set_cons_zero, List.set_cons_succ]
      refine wpAnyH_take (i := 8) (v := ?v8) rfl (by kernel_rfl) (by kernel_rfl) (by kernel_rfl) (fun _ _ _ h => h) (Or.inl ⟨by rfl, ?hy8⟩) (by assumption) ?rest8
      case hy8 => (intro w hSw; (try dsimp only at hSw); go_simp; try with_reducible rfl)
      try simp only [Act.put, List.getElem_toArray, List.getElem_cons_zero, List.getElem_cons_succ, List.setIfInBounds_toArray, List.set_cons_zero, List.set_cons_succ]
      refine wpAnyH_take (i := 9) (v := ?v9) rfl (by kernel_rfl) (by kernel_rfl) (by kernel_rfl) (fun _ _ _ h => h) (Or.inl ⟨by rfl, ?hy9⟩) (by assumption) ?rest9
      case hy9 => (intro w hSw; (try dsimp only at hSw); go_simp; try with_reducible rfl)
      try simp only [Act.put, List.getElem_toArray, List.getElem_cons_zero, List.getElem_cons_succ, List.setIfInBounds_toArray, List.set_cons_zero, List.set_cons_succ]
      refine wpAnyH_take (i := 10) (v := ?v10) rfl (by kernel_rfl) (by kernel_rfl) (by kernel_rfl) (fun _ _ _ h => h) (Or.inl ⟨by rfl, ?hy10⟩) (by assumption) ?rest10
      case hy10 => (intro w hSw; refine held_min (.tmp 31) (.const (.int .i64 200)) 3 3 ?_ (nr : Int) 200 (m : Int) ?_ ?_ HM.out <;> rfl)
      try simp only [Act.put, List.getElem_toArray, List.getElem_cons_zero, List.getElem_cons_succ, List.setIfInBounds_toArray, List.set_cons_zero, List.set_cons_succ]
      refine wpAnyH_take (i := 11) (v := ?v11) rfl (by kernel_rfl) (by kernel_rfl) (by kernel_rfl) (fun _ _ _ h => h) (Or.inl ⟨by rfl, ?hy11⟩) (by assumption) ?rest11
      case hy11 => (intro w hSw; refine held_cut0 (.tmp 26) (.tmp 32) ?_ Ar nr cr m ?_ ?_ hmc <;> rfl)
      try simp only [Act.put, List.getElem_toArray, List.getElem_cons_zero, List.getElem_cons_succ, List.setIfInBounds_toArray, List.set_cons_zero, List.set_cons_succ]
      refine wpAnyH_ready (rs := [0]) (by kernel_rfl) (by simp) ?_
      refine AllReadyH.cons rfl (fun K hK => ?_) AllReadyH.nil
      go_simp
      have hFa : Frm (fun _ => False) W0 (W0.alloc (.cells #[] 5)) := Frm.alloc _ _ _
      have HC1 := hide (cell_frm hFa HC0.out (fun h => h))
      have hov := World.ownsRow_made (e := 5) (size := 1) (base := W0.heap.size) W0 #[] 0 (Nat.le_refl _) (by simp [maxLen]) (by simp)
      have hW0s : w.heap.size ≤ W0.heap.size := by have := HI.out.run.size; have := hFd.size; omega
      have HRW := hide (HRM.out.below (HI.out.run.below.trans ((hFd.trans hFa (fun _ _ h => h)).below (Nat.le_refl _) (fun _ h => h.elim) |>.mono HI.out.run.size)))
      refine hK.out _ _ (HC1.out) (fun hHeld => ?_)
      clear hK K
      refine wpAnyH_ready (rs := [12]) (by kernel_rfl) (by simp) ?_
      refine AllReadyH.cons rfl (fun K hK => ?_) AllReadyH.nil
      refine step_app one_u8 rfl (.tmp 22) (.tmp 33) rfl (W0.alloc (.cells #[] 5)) W0.heap.size (.slice (some ⟨W0.heap.size, 0, none⟩) 0 0) 0 _ rfl hov Ar m cr (cellsB x) rfl HRW.out (cellsB_one _) (by omega) (by omega) hFa.size ?_
      intro A7 c7 w7 hown7 hg7 hat7
      have hF7 := Frm.of_grown hg7
      have HC7 := hide (cell_frm hF7 HC1.out (fun h => by have h' : (pa.add k).block = W0.heap.size := by simpa [Value.ownBlock] using h
                                                          omega))
      refine hK.out _ _ (HC7.out) (fun hHeld => ?_)
      clear hK K
      refine wpAnyH_take (i := 13) (v := ?v12) rfl (by kernel_rfl) (by kernel_rfl) (by kernel_rfl) (fun _ _ _ h => h) (Or.inl ⟨by rfl, ?hy12⟩) (by assumption) ?rest12
      case hy12 => (intro w hSw; (try dsimp only at hSw); go_simp; try with_reducible rfl)
      try simp only [Act.put, List.getElem_toArray, List.getElem_cons_zero, List.getElem_cons_succ, List.setIfInBounds_toArray, List.set_cons_zero, List.set_cons_succ]
      refine wpAnyH_done (by kernel_rfl) ?_ _
      have F07 : Frm (fun j => j = W0.heap.size) W0 w7 := (hFa.mono (T := fun j => j = W0.heap.size) (fun _ _ h => h.elim)).trans hF7 (fun j _ h => (by simpa [Value.ownBlock] using h : j = W0.heap.size))
      rw [Nat.zero_add, List.nil_append] at hown7
      have hp7 : w7.ownsRow w.heap.size 5 1 (.slice A7 m c7) x.length (cellsB x) := by rw [HXM.out]; exact own_base hown7 hW0s
      have hR7 := (HI.out.run.frm hFd (fun _ h => h.elim)).frm F07 (fun j hj => by omega)
      have ho0 := own_frm HI.out.own hFd (fun _ _ h => h)
      have ho7 := own_frm ho0 F07 (fun j hj => by have := (ho0.lt j hj).2; omega)
      have hps7 := (HI.out.parts.frm2 hFd (fun _ _ h => h)).frm2 F07 (fun g hg => by omega)
      have hps7' := hps7.snoc hp7
      clear hov HRW HRM hg7 hat7 hF7 F07 HC7 HC1 HC0 hHeld HI ho0 hps7 hown7
      have hFb : Frm (fun _ => False) w7 (w7.alloc (.cells #[.slice A7 m c7] 24)) := Frm.alloc _ _ _
      have ho8 := own_frm ho7 hFb (fun _ _ h => h)
      have hp8 := own_frm hp7 hFb (fun _ _ h => h)
      have hps8 := hps7'.frm2 hFb (fun _ _ h => h)
      have hR8 := hR7.frm hFb (fun _ h => h.elim)
      have hr1 := Rds.new1 w7 24 (.slice A7 m c7)
      have hb1 : (k + 1) * 24 ≤ 140737488355328 := by omega
      have hb2 : k + 1 ≤ 140737488355328 := by omega
      have hb3 := hR8.size
      have hn1 : ∀ u ∈ [Value.slice A7 m c7], u.oneCell' = true := by intro u hu; simp at hu; subst hu; rfl
      clear ho7 hp7 hps7' hR7 hFb
      have HCVf : Hid (∀ w9 : World, w9.ownsRow w.heap.size 5 1 (.slice A7 m c7) x.length (cellsB x) → Sem.run Tryd.prog (convert 24 9 (.slice A7 m c7)) w9 = .ok (.string ⟨x.toArray⟩) w9) := fun w9 h => by
        refine conv_txt w9 A7 m c7 x ?_
        have h2 := h
        rw [HXM.out] at h2
        exact (Seg.of_own h2).rds
      have hap : ((⟨((partsL L k).flatten).toArray⟩ : ByteArray) ++ ⟨x.toArray⟩) = ⟨((partsL L (k + 1)).flatten).toArray⟩ := by rw [txt_append, HPS.out, List.flatten_append]; simp
      have hz1 : (⟨((partsL L k).flatten).toArray⟩ : ByteArray).size ≤ 1200 := by show ((partsL L k).flatten).toArray.size ≤ 1200; rw [List.size_toArray]; omega
      have hz2 : (⟨x.toArray⟩ : ByteArray).size = m := by show x.toArray.size = m; rw [List.size_toArray]; exact HXM.out
      generalize (⟨((partsL L k).flatten).toArray⟩ : ByteArray) = B0 at *
      generalize hB1 : (⟨((partsL L (k + 1)).flatten).toArray⟩ : ByteArray) = B1 at *
      have HB1 := hide hB1
      clear hB1
      have HKd := hide (own_kind' ho8 hp8)
      go_wp2_with (at_builtin; refine wpl_app one_sl rfl (.tmp 35) (.tmp 37) rfl _ w.heap.size (.slice A k c) k _ rfl ho8 (some ⟨w7.heap.size, 0, none⟩) 1 1 [.slice A7 m c7] rfl hr1 hn1 hb1 hb2 hb3 ?_; intro A9 c9 w9 hown9 hg9 hat9; have hF9 := Frm.of_grown hg9; have hcv := HCVf.out w9 (own_frm hp8 hF9 HKd.out))
      have FIN : Hid (TellInv w A9 c9 (k + 1) (vs ++ [.slice A7 m c7]) (partsL L (k + 1)) w9) := by
        rw [HPS.out]
        exact ⟨hR8.frm hF9 (fun j hj => (ho8.lt j hj.symm).1), hown9, hps8.frm hF9 (own_kind ho8)⟩
      go_roundw
      case rel => first | exact ⟨k + 1, A9, c9, _, by omega, by go_num, rfl, by rw [HB1.out], FIN.out⟩ | ((repeat apply Exists.intro); exact ⟨⟨k + 1, A9, c9, _, by omega, by go_num, rfl, by rw [HB1.out], FIN.out⟩, rfl⟩)
      case measure => simp [intOf]; omega
    · obtain rfl : k = KK := by omega
      rcases HKK.out with hlen | hlen
      · have hd : decide (k < len0) = false := by simp; omega
        clear hlen
        have HFL : Hid ((partsL L k).flatten.length ≤ 1200) := by show _ ≤ _; have := partsL_flat L k; omega
        have HPL := hide (partsL_length L k)
        generalize partsL L k = ps at *
        go_wp2_with fail
        refine (sums_now w wr A k c vs ps ps.flatten (Seg.of_own HI.out.own).rds HI.out.parts.all2 rfl HI.out.run (by have := HFL.out; omega) (by rw [HPL.out]; omega)).mono ?_
        rintro e w3 ⟨rfl, hF3, hR3⟩
        go_wp2_with (first
          | ((with_reducible refine wpl_alloca (op := ⟨some 8, _, _, _, _, _⟩) rfl _ rfl _ zero32 ?_); intro g8 w4 hB4 hs4 hF4)
          | ((with_reducible refine wpl_storea agg32 rfl (.tmp 8) (.tmp 44) rfl g8 (cellsB (shaL ps.flatten)) rfl rfl _ _ hB4 (shaC_length _) zero32_size (cellsB_one _) ?_); intro w5 hB5 hF5))
        have hg8 : w.heap.size ≤ g8 := by have := hR3.size; omega
        have F35 : Frm (fun j => j = g8) w3 w5 := (hF4.mono (T := fun j => j = g8) (fun _ _ h => h.elim)).trans hF5 (fun _ _ h => h)
        have hR5 := hR3.frm F35 (fun j hj => by omega)
        have ho3 := own_frm HI.out.own hF3 (fun _ _ h => h)
        have ho5 := own_frm ho3 F35 (fun j hj => by have := (ho3.lt j hj).2; omega)
        have hp5 := (HI.out.parts.frm2 hF3 (fun _ _ h => h)).frm2 F35 (fun g hg => by omega)
        have HO5 := hide ho5
        have HP5 := hide hp5.all2
        clear hB4 hF4 hF5 F35 hR3 hF3 ho3 ho5 hp5 HI
        go_loop [9, 10] (fun s i => ∃ j : Nat, j ≤ k ∧ i = .int .i64 j ∧ s = .string ⟨((ps.take j).flatten).toArray⟩) (fun _ i => k - (intOf i).toNat)
        case atStart => exact ⟨0, by omega, rfl, rfl⟩
        case round =>
          obtain ⟨j, hj, rfl, rfl⟩ := hrel
          by_cases hjk : j < k
          · obtain ⟨v, hv, Aj, cj, rfl, hcj, hrj⟩ := HP5.out.at j (by rw [HPL.out]; exact hjk)
            obtain ⟨go, co, hvv, hgo1, hgo2⟩ := World.ownsRow.form HO5.out (by omega)
            injection hvv with hv1 hv2 hv3
            subst hv1 hv3
            have hcc := HO5.out.cells (g := go) rfl j _ hv
            rw [addr_add, Nat.zero_add] at hcc
            have hcv := conv_txt w5 Aj (ps.getD j []).length cj (ps.getD j []) hrj
            have hft := flat_take ps j (by rw [HPL.out]; exact hjk)
            have hle := flat_le ps (j + 1)
            have hle1 : (ps.take j).flatten.length + (ps.getD j []).length ≤ 1200 := by have := HFL.out; rw [hft, List.length_append] at hle; omega
            have hap : ((⟨((ps.take j).flatten).toArray⟩ : ByteArray) ++ ⟨(ps.getD j []).toArray⟩) = ⟨((ps.take (j + 1)).flatten).toArray⟩ := by rw [txt_append, hft]
            have hz1 : (⟨((ps.take j).flatten).toArray⟩ : ByteArray).size ≤ 1200 := by show ((ps.take j).flatten).toArray.size ≤ 1200; rw [List.size_toArray]; omega
            have hz2 : (⟨(ps.getD j []).toArray⟩ : ByteArray).size ≤ 1200 := by show (ps.getD j []).toArray.size ≤ 1200; rw [List.size_toArray]; omega
            clear hft hle hle1 hrj hv hcj
            generalize (ps.getD j []).length = nj at *
            generalize (⟨(ps.getD j []).toArray⟩ : ByteArray) = Bp at *
            generalize (⟨((ps.take j).flatten).toArray⟩ : ByteArray) = B0 at *
            generalize hB1 : (⟨((ps.take (j + 1)).flatten).toArray⟩ : ByteArray) = B1 at *
            have HB1 := hide hB1
            clear hB1
            go_wp2_with fail
            go_round
            case rel => first | exact ⟨j + 1, by omega, by go_num, by rw [HB1.out]⟩ | ((repeat apply Exists.intro); exact ⟨⟨j + 1, by omega, by go_num, by rw [HB1.out]⟩, rfl⟩)
            case measure => simp [intOf]; omega
          · obtain rfl : j = k := by omega
            have hall : ps.take j = ps := List.take_of_length_le (by rw [HPL.out]; exact Nat.le_refl _)
            rw [hall]
            have hsl : ∀ w, Sem.run Tryd.prog (Instr.sliceAt 25 (.pointer (some ⟨g8, 0, none⟩)) none none none) w = .ok (.slice (some ⟨g8, 0, none⟩) 32 32) w := fun w => run_slice_arr0 (P := Tryd.prog) (t := 25) (e := 5) (N := 32) under25 size8 g8 0 (by omega) w
            have F0 : Frm (fun _ => False) w5 w5.drew := (Frm.refl _ _).drew
            have X0 := hB5.frm F0 (fun h => h)
            have R0 := hR5.frm F0 (fun _ h => h.elim)
            obtain ⟨all, hal⟩ : ∃ all, all = ps.flatten := ⟨_, rfl⟩
            rw [← hal] at X0 HFL ⊢
            have HCV : Hid (∀ w', Blk w' g8 25 (cellsB (shaL all)).toArray → Sem.run Tryd.prog (convert 24 9 (.slice (some ⟨g8, 0, none⟩) 32 32)) w' = .ok (.string ⟨(shaL all).toArray⟩) w') := fun w' hb => by
              have := hb.txt 32 32 (by rw [shaL_length]; exact Nat.le_refl _)
              rwa [List.take_of_length_le (by rw [shaL_length]; exact Nat.le_refl _)] at this
            clear hall hB5 hR5 F0 HO5 HP5 hal
            go_wp2_with fail
            refine wp_region_held_drew (S := fun W => Sem.run Tryd.prog (convert 24 9 (.slice (some ⟨g8, 0, none⟩) 32 32)) W = .ok (.string ⟨(shaL all).toArray⟩) W) (by kernel_rfl) (HCV.out _ X0) ?_
            intro hHeld
            obtain ⟨W0, hW0⟩ : ∃ W0, W0 = w5.drew := ⟨_, rfl⟩
            rw [← hW0] at X0 R0 hHeld ⊢
            clear hW0
            refine wpAnyH_take (i := 0) (v := ?v13) rfl (by kernel_rfl) (by kernel_rfl) (by kernel_rfl) (fun _ _ _ h => h) (Or.inl ⟨by rfl, ?hy13⟩) (by assumption) ?rest13
            case hy13 => (intro w hSw; (try dsimp only at hSw); go_simp; try with_reducible rfl)
            try simp only [Act.put, List.getElem_toArray, List.getElem_cons_zero, List.setIfInBounds_toArray, List.set_cons_zero, List.set_cons_succ]
            refine wpAnyH_take (i := 1) (v := ?v14) rfl (by kernel_rfl) (by kernel_rfl) (by kernel_rfl) (fun _ _ _ h => h) (Or.inl ⟨by rfl, ?hy14⟩) (by assumption) ?rest14
            case hy14 => (intro w hSw; (try dsimp only at hSw); go_simp; try with_reducible rfl)
            try simp only [Act.put, List.getElem_toArray, List.getElem_cons_zero, List.getElem_cons_succ, List.setIfInBounds_toArray, List.set_cons_zero, List.set_cons_succ]
            refine wpAnyH_take (i := 2) (v := ?v15) rfl (by kernel_rfl) (by kernel_rfl) (by kernel_rfl) (fun _ _ _ h => h) (Or.inl ⟨by rfl, ?hy15⟩) (by assumption) ?rest15
            case hy15 => (intro w hSw; (try dsimp only at hSw); go_simp; try with_reducible rfl)
            try simp only [Act.put, List.getElem_toArray, List.getElem_cons_zero, List.getElem_cons_succ, List.setIfInBounds_toArray, List.set_cons_zero, List.set_cons_succ]
            refine wpAnyH_take (i := 3) (v := ?v16) rfl (by kernel_rfl) (by kernel_rfl) (by kernel_rfl) (fun _ _ _ h => h) (Or.inl ⟨by rfl, ?hy16⟩) (by assumption) ?rest16
            case hy16 => (intro w hSw; (try dsimp only at hSw); go_simp; try with_reducible rfl)
            try simp only [Act.put, List.getElem_toArray, List.getElem_cons_zero, List.getElem_cons_succ, List.setIfInBounds_toArray, List.set_cons_zero, List.set_cons_succ]
            refine wpAnyH_take (i := 4) (v := ?v17) rfl (by kernel_rfl) (by kernel_rfl) (by kernel_rfl) (fun _ _ _ h => h) (Or.inl ⟨by rfl, ?hy17⟩) (by assumption) ?rest17
            case hy17 => (intro w hSw; (try dsimp only at hSw); go_simp; try with_reducible rfl)
            try simp only [Act.put, List.getElem_toArray, List.getElem_cons_zero, List.getElem_cons_succ, List.setIfInBounds_toArray, List.set_cons_zero, List.set_cons_succ]
            refine wpAnyH_ready (rs := [5]) (by kernel_rfl) (by simp) ?_
            refine AllReadyH.cons rfl (fun K hK => ?_) AllReadyH.nil
            go_simp
            refine (rsum_run all w _ R0 (by have := HFL.out; omega)).mono ?_
            rintro e W1 ⟨rfl, F1, R1⟩
            have X1 := X0.frm F1 (fun h => h)
            refine hK.out _ _ (HCV.out _ X1) (fun hHeld => ?_)
            clear hK K
            refine wpAnyH_take (i := 6) (v := ?v18) rfl (by kernel_rfl) (by kernel_rfl) (by kernel_rfl) (fun _ _ _ h => h) (Or.inl ⟨by rfl, ?hy18⟩) (by assumption) ?rest18
            case hy18 => (intro w hSw; (try dsimp only at hSw); go_simp; try with_reducible rfl)
            try simp only [Act.put, List.getElem_toArray, List.getElem_cons_zero, List.getElem_cons_succ, List.setIfInBounds_toArray, List.set_cons_zero, List.set_cons_succ]
            refine wpAnyH_take (i := 7) (v := ?v19) rfl (by kernel_rfl) (by kernel_rfl) (by kernel_rfl) (fun _ _ _ h => h) (Or.inl ⟨by rfl, ?hy19⟩) (by assumption) ?rest19
            case hy19 => (intro w hSw; (try dsimp only at hSw); go_simp; try with_reducible rfl)
            try simp only [Act.put, List.getElem_toArray, List.getElem_cons_zero, List.getElem_cons_succ, List.setIfInBounds_toArray, List.set_cons_zero, List.set_cons_succ]
            refine wpAnyH_take (i := 8) (v := ?v20) rfl (by kernel_rfl) (by kernel_rfl) (by kernel_rfl) (fun _ _ _ h => h) (Or.inl ⟨by rfl, ?hy20⟩) (by assumption) ?rest20
            case hy20 => (intro w hSw; (try dsimp only at hSw); go_simp; try with_reducible rfl)
            try simp only [Act.put, List.getElem_toArray, List.getElem_cons_zero, List.getElem_cons_succ, List.setIfInBounds_toArray, List.set_cons_zero, List.set_cons_succ]
            refine wpAnyH_take (i := 9) (v := ?v21) rfl (by kernel_rfl) (by kernel_rfl) (by kernel_rfl) (fun _ _ _ h => h) (Or.inl ⟨by rfl, ?hy21⟩) (by assumption) ?rest21
            case hy21 => (intro w hSw; (try dsimp only at hSw); go_simp; try with_reducible rfl)
            try simp only [Act.put, List.getElem_toArray, List.getElem_cons_zero, List.getElem_cons_succ, List.setIfInBounds_toArray, List.set_cons_zero, List.set_cons_succ]
            refine wpAnyH_take (i := 10) (v := ?v22) rfl (by kernel_rfl) (by kernel_rfl) (by kernel_rfl) (fun _ _ _ h => h) (Or.inl ⟨by rfl, ?hy22⟩) (by assumption) ?rest22
            case hy22 => (intro w hSw; (try dsimp only at hSw); go_simp; try with_reducible rfl)
            try simp only [Act.put, List.getElem_toArray, List.getElem_cons_zero, List.getElem_cons_succ, List.setIfInBounds_toArray, List.set_cons_zero, List.set_cons_succ]
            refine wpAnyH_take (i := 11) (v := ?v23) rfl (by kernel_rfl) (by kernel_rfl) (by kernel_rfl) (fun _ _ _ h => h) (Or.inl ⟨by rfl, ?hy23⟩) (by assumption) ?rest23
            case hy23 => (intro w hSw; (try dsimp only at hSw); go_simp; try with_reducible rfl)
            try simp only [Act.put, List.getElem_toArray, List.getElem_cons_zero, List.getElem_cons_succ, List.setIfInBounds_toArray, List.set_cons_zero, List.set_cons_succ]
            refine wpAnyH_take (i := 12) (v := ?v24) rfl (by kernel_rfl) (by kernel_rfl) (by kernel_rfl) (fun _ _ _ h => h) (Or.inl ⟨by rfl, ?hy24⟩) (by assumption) ?rest24
            case hy24 => (intro w hSw; (try dsimp only at hSw); go_simp; try with_reducible rfl)
            try simp only [Act.put, List.getElem_toArray, List.getElem_cons_zero, List.getElem_cons_succ, List.setIfInBounds_toArray, List.set_cons_zero, List.set_cons_succ]
            refine wpAnyH_take (i := 13) (v := ?v25) rfl (by kernel_rfl) (by kernel_rfl) (by kernel_rfl) (fun _ _ _ h => h) (Or.inl ⟨by rfl, ?hy25⟩) (by assumption) ?rest25
            case hy25 => (intro w hSw; (try dsimp only at hSw); go_simp; try with_reducible rfl)
            try simp only [Act.put, List.getElem_toArray, List.getElem_cons_zero, List.getElem_cons_succ, List.setIfInBounds_toArray, List.set_cons_zero, List.set_cons_succ]
            refine wpAnyH_done (by kernel_rfl) ?_ _
            go_wp2
            go_ret
            exact ⟨rfl, R1.below⟩
      · by_cases hl6 : k < len0
        · have hki : (k : Int) < (len0 : Int) := by omega
          have hd : decide ((k : Int) < 6) = false := by simp; omega
          clear hlen
          have HFL : Hid ((partsL L k).flatten.length ≤ 1200) := by show _ ≤ _; have := partsL_flat L k; omega
          have HPL := hide (partsL_length L k)
          generalize partsL L k = ps at *
          go_wp2_with fail
          refine (sums_now w wr A k c vs ps ps.flatten (Seg.of_own HI.out.own).rds HI.out.parts.all2 rfl HI.out.run (by have := HFL.out; omega) (by rw [HPL.out]; omega)).mono ?_
          rintro e w3 ⟨rfl, hF3, hR3⟩
          go_wp2_with (first
            | ((with_reducible refine wpl_alloca (op := ⟨some 8, _, _, _, _, _⟩) rfl _ rfl _ zero32 ?_); intro g8 w4 hB4 hs4 hF4)
            | ((with_reducible refine wpl_storea agg32 rfl (.tmp 8) (.tmp 44) rfl g8 (cellsB (shaL ps.flatten)) rfl rfl _ _ hB4 (shaC_length _) zero32_size (cellsB_one _) ?_); intro w5 hB5 hF5))
          have hg8 : w.heap.size ≤ g8 := by have := hR3.size; omega
          have F35 : Frm (fun j => j = g8) w3 w5 := (hF4.mono (T := fun j => j = g8) (fun _ _ h => h.elim)).trans hF5 (fun _ _ h => h)
          have hR5 := hR3.frm F35 (fun j hj => by omega)
          have ho3 := own_frm HI.out.own hF3 (fun _ _ h => h)
          have ho5 := own_frm ho3 F35 (fun j hj => by have := (ho3.lt j hj).2; omega)
          have hp5 := (HI.out.parts.frm2 hF3 (fun _ _ h => h)).frm2 F35 (fun g hg => by omega)
          have HO5 := hide ho5
          have HP5 := hide hp5.all2
          clear hB4 hF4 hF5 F35 hR3 hF3 ho3 ho5 hp5 HI
          go_loop [9, 10] (fun s i => ∃ j : Nat, j ≤ k ∧ i = .int .i64 j ∧ s = .string ⟨((ps.take j).flatten).toArray⟩) (fun _ i => k - (intOf i).toNat)
          case atStart => exact ⟨0, by omega, rfl, rfl⟩
          case round =>
            obtain ⟨j, hj, rfl, rfl⟩ := hrel
            by_cases hjk : j < k
            · obtain ⟨v, hv, Aj, cj, rfl, hcj, hrj⟩ := HP5.out.at j (by rw [HPL.out]; exact hjk)
              obtain ⟨go, co, hvv, hgo1, hgo2⟩ := World.ownsRow.form HO5.out (by omega)
              injection hvv with hv1 hv2 hv3
              subst hv1 hv3
              have hcc := HO5.out.cells (g := go) rfl j _ hv
              rw [addr_add, Nat.zero_add] at hcc
              have hcv := conv_txt w5 Aj (ps.getD j []).length cj (ps.getD j []) hrj
              have hft := flat_take ps j (by rw [HPL.out]; exact hjk)
              have hle := flat_le ps (j + 1)
              have hle1 : (ps.take j).flatten.length + (ps.getD j []).length ≤ 1200 := by have := HFL.out; rw [hft, List.length_append] at hle; omega
              have hap : ((⟨((ps.take j).flatten).toArray⟩ : ByteArray) ++ ⟨(ps.getD j []).toArray⟩) = ⟨((ps.take (j + 1)).flatten).toArray⟩ := by rw [txt_append, hft]
              have hz1 : (⟨((ps.take j).flatten).toArray⟩ : ByteArray).size ≤ 1200 := by show ((ps.take j).flatten).toArray.size ≤ 1200; rw [List.size_toArray]; omega
              have hz2 : (⟨(ps.getD j []).toArray⟩ : ByteArray).size ≤ 1200 := by show (ps.getD j []).toArray.size ≤ 1200; rw [List.size_toArray]; omega
              clear hft hle hle1 hrj hv hcj
              generalize (ps.getD j []).length = nj at *
              generalize (⟨(ps.getD j []).toArray⟩ : ByteArray) = Bp at *
              generalize (⟨((ps.take j).flatten).toArray⟩ : ByteArray) = B0 at *
              generalize hB1 : (⟨((ps.take (j + 1)).flatten).toArray⟩ : ByteArray) = B1 at *
              have HB1 := hide hB1
              clear hB1
              go_wp2_with fail
              go_round
              case rel => first | exact ⟨j + 1, by omega, by go_num, by rw [HB1.out]⟩ | ((repeat apply Exists.intro); exact ⟨⟨j + 1, by omega, by go_num, by rw [HB1.out]⟩, rfl⟩)
              case measure => simp [intOf]; omega
            · obtain rfl : j = k := by omega
              have hall : ps.take j = ps := List.take_of_length_le (by rw [HPL.out]; exact Nat.le_refl _)
              rw [hall]
              have hsl : ∀ w, Sem.run Tryd.prog (Instr.sliceAt 25 (.pointer (some ⟨g8, 0, none⟩)) none none none) w = .ok (.slice (some ⟨g8, 0, none⟩) 32 32) w := fun w => run_slice_arr0 (P := Tryd.prog) (t := 25) (e := 5) (N := 32) under25 size8 g8 0 (by omega) w
              have F0 : Frm (fun _ => False) w5 w5.drew := (Frm.refl _ _).drew
              have X0 := hB5.frm F0 (fun h => h)
              have R0 := hR5.frm F0 (fun _ h => h.elim)
              obtain ⟨all, hal⟩ : ∃ all, all = ps.flatten := ⟨_, rfl⟩
              rw [← hal] at X0 HFL ⊢
              have HCV : Hid (∀ w', Blk w' g8 25 (cellsB (shaL all)).toArray → Sem.run Tryd.prog (convert 24 9 (.slice (some ⟨g8, 0, none⟩) 32 32)) w' = .ok (.string ⟨(shaL all).toArray⟩) w') := fun w' hb => by
                have := hb.txt 32 32 (by rw [shaL_length]; exact Nat.le_refl _)
                rwa [List.take_of_length_le (by rw [shaL_length]; exact Nat.le_refl _)] at this
              clear hall hB5 hR5 F0 HO5 HP5 hal
              go_wp2_with fail
              refine wp_region_held_drew (S := fun W => Sem.run Tryd.prog (convert 24 9 (.slice (some ⟨g8, 0, none⟩) 32 32)) W = .ok (.string ⟨(shaL all).toArray⟩) W) (by kernel_rfl) (HCV.out _ X0) ?_
              intro hHeld
              obtain ⟨W0, hW0⟩ : ∃ W0, W0 = w5.drew := ⟨_, rfl⟩
              rw [← hW0] at X0 R0 hHeld ⊢
              clear hW0
              refine wpAnyH_take (i := 0) (v := ?v26) rfl (by kernel_rfl) (by kernel_rfl) (by kernel_rfl) (fun _ _ _ h => h) (Or.inl ⟨by rfl, ?hy26⟩) (by assumption) ?rest26
              case hy26 => (intro w hSw; (try dsimp only at hSw); go_simp; try with_reducible rfl)
              try simp only [Act.put, List.getElem_toArray, List.getElem_cons_zero, List.setIfInBounds_toArray, List.set_cons_zero, List.set_cons_succ]
              refine wpAnyH_take (i := 1) (v := ?v27) rfl (by kernel_rfl) (by kernel_rfl) (by kernel_rfl) (fun _ _ _ h => h) (Or.inl ⟨by rfl, ?hy27⟩) (by assumption) ?rest27
              case hy27 => (intro w hSw; (try dsimp only at hSw); go_simp; try with_reducible rfl)
              try simp only [Act.put, List.getElem_toArray, List.getElem_cons_zero, List.getElem_cons_succ, List.setIfInBounds_toArray, List.set_cons_zero, List.set_cons_succ]
              refine wpAnyH_take (i := 2) (v := ?v28) rfl (by kernel_rfl) (by kernel_rfl) (by kernel_rfl) (fun _ _ _ h => h) (Or.inl ⟨by rfl, ?hy28⟩) (by assumption) ?rest28
              case hy28 => (intro w hSw; (try dsimp only at hSw); go_simp; try with_reducible rfl)
              try simp only [Act.put, List.getElem_toArray, List.getElem_cons_zero, List.getElem_cons_succ, List.setIfInBounds_toArray, List.set_cons_zero, List.set_cons_succ]
              refine wpAnyH_take (i := 3) (v := ?v29) rfl (by kernel_rfl) (by kernel_rfl) (by kernel_rfl) (fun _ _ _ h => h) (Or.inl ⟨by rfl, ?hy29⟩) (by assumption) ?rest29
              case hy29 => (intro w hSw; (try dsimp only at hSw); go_simp; try with_reducible rfl)
              try simp only [Act.put, List.getElem_toArray, List.getElem_cons_zero, List.getElem_cons_succ, List.setIfInBounds_toArray, List.set_cons_zero, List.set_cons_succ]
              refine wpAnyH_take (i := 4) (v := ?v30) rfl (by kernel_rfl) (by kernel_rfl) (by kernel_rfl) (fun _ _ _ h => h) (Or.inl ⟨by rfl, ?hy30⟩) (by assumption) ?rest30
              case hy30 => (intro w hSw; (try dsimp only at hSw); go_simp; try with_reducible rfl)
              try simp only [Act.put, List.getElem_toArray, List.getElem_cons_zero, List.getElem_cons_succ, List.setIfInBounds_toArray, List.set_cons_zero, List.set_cons_succ]
              refine wpAnyH_ready (rs := [5]) (by kernel_rfl) (by simp) ?_
              refine AllReadyH.cons rfl (fun K hK => ?_) AllReadyH.nil
              go_simp
              refine (rsum_run all w _ R0 (by have := HFL.out; omega)).mono ?_
              rintro e W1 ⟨rfl, F1, R1⟩
              have X1 := X0.frm F1 (fun h => h)
              refine hK.out _ _ (HCV.out _ X1) (fun hHeld => ?_)
              clear hK K
              refine wpAnyH_take (i := 6) (v := ?v31) rfl (by kernel_rfl) (by kernel_rfl) (by kernel_rfl) (fun _ _ _ h => h) (Or.inl ⟨by rfl, ?hy31⟩) (by assumption) ?rest31
              case hy31 => (intro w hSw; (try dsimp only at hSw); go_simp; try with_reducible rfl)
              try simp only [Act.put, List.getElem_toArray, List.getElem_cons_zero, List.getElem_cons_succ, List.setIfInBounds_toArray, List.set_cons_zero, List.set_cons_succ]
              refine wpAnyH_take (i := 7) (v := ?v32) rfl (by kernel_rfl) (by kernel_rfl) (by kernel_rfl) (fun _ _ _ h => h) (Or.inl ⟨by rfl, ?hy32⟩) (by assumption) ?rest32
              case hy32 => (intro w hSw; (try dsimp only at hSw); go_simp; try with_reducible rfl)
              try simp only [Act.put, List.getElem_toArray, List.getElem_cons_zero, List.getElem_cons_succ, List.setIfInBounds_toArray, List.set_cons_zero, List.set_cons_succ]
              refine wpAnyH_take (i := 8) (v := ?v33) rfl (by kernel_rfl) (by kernel_rfl) (by kernel_rfl) (fun _ _ _ h => h) (Or.inl ⟨by rfl, ?hy33⟩) (by assumption) ?rest33
              case hy33 => (intro w hSw; (try dsimp only at hSw); go_simp; try with_reducible rfl)
              try simp only [Act.put, List.getElem_toArray, List.getElem_cons_zero, List.getElem_cons_succ, List.setIfInBounds_toArray, List.set_cons_zero, List.set_cons_succ]
              refine wpAnyH_take (i := 9) (v := ?v34) rfl (by kernel_rfl) (by kernel_rfl) (by kernel_rfl) (fun _ _ _ h => h) (Or.inl ⟨by rfl, ?hy34⟩) (by assumption) ?rest34
              case hy34 => (intro w hSw; (try dsimp only at hSw); go_simp; try with_reducible rfl)
              try simp only [Act.put, List.getElem_toArray, List.getElem_cons_zero, List.getElem_cons_succ, List.setIfInBounds_toArray, List.set_cons_zero, List.set_cons_succ]
              refine wpAnyH_take (i := 10) (v := ?v35) rfl (by kernel_rfl) (by kernel_rfl) (by kernel_rfl) (fun _ _ _ h => h) (Or.inl ⟨by rfl, ?hy35⟩) (by assumption) ?rest35
              case hy35 => (intro w hSw; (try dsimp only at hSw); go_simp; try with_reducible rfl)
              try simp only [Act.put, List.getElem_toArray, List.getElem_cons_zero, List.getElem_cons_succ, List.setIfInBounds_toArray, List.set_cons_zero, List.set_cons_succ]
              refine wpAnyH_take (i := 11) (v := ?v36) rfl (by kernel_rfl) (by kernel_rfl) (by kernel_rfl) (fun _ _ _ h => h) (Or.inl ⟨by rfl, ?hy36⟩) (by assumption) ?rest36
              case hy36 => (intro w hSw; (try dsimp only at hSw); go_simp; try with_reducible rfl)
              try simp only [Act.put, List.getElem_toArray, List.getElem_cons_zero, List.getElem_cons_succ, List.setIfInBounds_toArray, List.set_cons_zero, List.set_cons_succ]
              refine wpAnyH_take (i := 12) (v := ?v37) rfl (by kernel_rfl) (by kernel_rfl) (by kernel_rfl) (fun _ _ _ h => h) (Or.inl ⟨by rfl, ?hy37⟩) (by assumption) ?rest37
              case hy37 => (intro w hSw; (try dsimp only at hSw); go_simp; try with_reducible rfl)
              try simp only [Act.put, List.getElem_toArray, List.getElem_cons_zero, List.getElem_cons_succ, List.setIfInBounds_toArray, List.set_cons_zero, List.set_cons_succ]
              refine wpAnyH_take (i := 13) (v := ?v38) rfl (by kernel_rfl) (by kernel_rfl) (by kernel_rfl) (fun _ _ _ h => h) (Or.inl ⟨by rfl, ?hy38⟩) (by assumption) ?rest38
              case hy38 => (intro w hSw; (try dsimp only at hSw); go_simp; try with_reducible rfl)
              try simp only [Act.put, List.getElem_toArray, List.getElem_cons_zero, List.getElem_cons_succ, List.setIfInBounds_toArray, List.set_cons_zero, List.set_cons_succ]
              refine wpAnyH_done (by kernel_rfl) ?_ _
              go_wp2
              go_ret
              exact ⟨rfl, R1.below⟩
        · have hd : decide (k < len0) = false := by simp; omega
          clear hlen
          have HFL : Hid ((partsL L k).flatten.length ≤ 1200) := by show _ ≤ _; have := partsL_flat L k; omega
          have HPL := hide (partsL_length L k)
          generalize partsL L k = ps at *
          go_wp2_with fail
          refine (sums_now w wr A k c vs ps ps.flatten (Seg.of_own HI.out.own).rds HI.out.parts.all2 rfl HI.out.run (by have := HFL.out; omega) (by rw [HPL.out]; omega)).mono ?_
          rintro e w3 ⟨rfl, hF3, hR3⟩
          go_wp2_with (first
            | ((with_reducible refine wpl_alloca (op := ⟨some 8, _, _, _, _, _⟩) rfl _ rfl _ zero32 ?_); intro g8 w4 hB4 hs4 hF4)
            | ((with_reducible refine wpl_storea agg32 rfl (.tmp 8) (.tmp 44) rfl g8 (cellsB (shaL ps.flatten)) rfl rfl _ _ hB4 (shaC_length _) zero32_size (cellsB_one _) ?_); intro w5 hB5 hF5))
          have hg8 : w.heap.size ≤ g8 := by have := hR3.size; omega
          have F35 : Frm (fun j => j = g8) w3 w5 := (hF4.mono (T := fun j => j = g8) (fun _ _ h => h.elim)).trans hF5 (fun _ _ h => h)
          have hR5 := hR3.frm F35 (fun j hj => by omega)
          have ho3 := own_frm HI.out.own hF3 (fun _ _ h => h)
          have ho5 := own_frm ho3 F35 (fun j hj => by have := (ho3.lt j hj).2; omega)
          have hp5 := (HI.out.parts.frm2 hF3 (fun _ _ h => h)).frm2 F35 (fun g hg => by omega)
          have HO5 := hide ho5
          have HP5 := hide hp5.all2
          clear hB4 hF4 hF5 F35 hR3 hF3 ho3 ho5 hp5 HI
          go_loop [9, 10] (fun s i => ∃ j : Nat, j ≤ k ∧ i = .int .i64 j ∧ s = .string ⟨((ps.take j).flatten).toArray⟩) (fun _ i => k - (intOf i).toNat)
          case atStart => exact ⟨0, by omega, rfl, rfl⟩
          case round =>
            obtain ⟨j, hj, rfl, rfl⟩ := hrel
            by_cases hjk : j < k
            · obtain ⟨v, hv, Aj, cj, rfl, hcj, hrj⟩ := HP5.out.at j (by rw [HPL.out]; exact hjk)
              obtain ⟨go, co, hvv, hgo1, hgo2⟩ := World.ownsRow.form HO5.out (by omega)
              injection hvv with hv1 hv2 hv3
              subst hv1 hv3
              have hcc := HO5.out.cells (g := go) rfl j _ hv
              rw [addr_add, Nat.zero_add] at hcc
              have hcv := conv_txt w5 Aj (ps.getD j []).length cj (ps.getD j []) hrj
              have hft := flat_take ps j (by rw [HPL.out]; exact hjk)
              have hle := flat_le ps (j + 1)
              have hle1 : (ps.take j).flatten.length + (ps.getD j []).length ≤ 1200 := by have := HFL.out; rw [hft, List.length_append] at hle; omega
              have hap : ((⟨((ps.take j).flatten).toArray⟩ : ByteArray) ++ ⟨(ps.getD j []).toArray⟩) = ⟨((ps.take (j + 1)).flatten).toArray⟩ := by rw [txt_append, hft]
              have hz1 : (⟨((ps.take j).flatten).toArray⟩ : ByteArray).size ≤ 1200 := by show ((ps.take j).flatten).toArray.size ≤ 1200; rw [List.size_toArray]; omega
              have hz2 : (⟨(ps.getD j []).toArray⟩ : ByteArray).size ≤ 1200 := by show (ps.getD j []).toArray.size ≤ 1200; rw [List.size_toArray]; omega
              clear hft hle hle1 hrj hv hcj
              generalize (ps.getD j []).length = nj at *
              generalize (⟨(ps.getD j []).toArray⟩ : ByteArray) = Bp at *
              generalize (⟨((ps.take j).flatten).toArray⟩ : ByteArray) = B0 at *
              generalize hB1 : (⟨((ps.take (j + 1)).flatten).toArray⟩ : ByteArray) = B1 at *
              have HB1 := hide hB1
              clear hB1
              go_wp2_with fail
              go_round
              case rel => first | exact ⟨j + 1, by omega, by go_num, by rw [HB1.out]⟩ | ((repeat apply Exists.intro); exact ⟨⟨j + 1, by omega, by go_num, by rw [HB1.out]⟩, rfl⟩)
              case measure => simp [intOf]; omega
            · obtain rfl : j = k := by omega
              have hall : ps.take j = ps := List.take_of_length_le (by rw [HPL.out]; exact Nat.le_refl _)
              rw [hall]
              have hsl : ∀ w, Sem.run Tryd.prog (Instr.sliceAt 25 (.pointer (some ⟨g8, 0, none⟩)) none none none) w = .ok (.slice (some ⟨g8, 0, none⟩) 32 32) w := fun w => run_slice_arr0 (P := Tryd.prog) (t := 25) (e := 5) (N := 32) under25 size8 g8 0 (by omega) w
              have F0 : Frm (fun _ => False) w5 w5.drew := (Frm.refl _ _).drew
              have X0 := hB5.frm F0 (fun h => h)
              have R0 := hR5.frm F0 (fun _ h => h.elim)
              obtain ⟨all, hal⟩ : ∃ all, all = ps.flatten := ⟨_, rfl⟩
              rw [← hal] at X0 HFL ⊢
              have HCV : Hid (∀ w', Blk w' g8 25 (cellsB (shaL all)).toArray → Sem.run Tryd.prog (convert 24 9 (.slice (some ⟨g8, 0, none⟩) 32 32)) w' = .ok (.string ⟨(shaL all).toArray⟩) w') := fun w' hb => by
                have := hb.txt 32 32 (by rw [shaL_length]; exact Nat.le_refl _)
                rwa [List.take_of_length_le (by rw [shaL_length]; exact Nat.le_refl _)] at this
              clear hall hB5 hR5 F0 HO5 HP5 hal
              go_wp2_with fail
              refine wp_region_held_drew (S := fun W => Sem.run Tryd.prog (convert 24 9 (.slice (some ⟨g8, 0, none⟩) 32 32)) W = .ok (.string ⟨(shaL all).toArray⟩) W) (by kernel_rfl) (HCV.out _ X0) ?_
              intro hHeld
              obtain ⟨W0, hW0⟩ : ∃ W0, W0 = w5.drew := ⟨_, rfl⟩
              rw [← hW0] at X0 R0 hHeld ⊢
              clear hW0
              refine wpAnyH_take (i := 0) (v := ?v39) rfl (by kernel_rfl) (by kernel_rfl) (by kernel_rfl) (fun _ _ _ h => h) (Or.inl ⟨by rfl, ?hy39⟩) (by assumption) ?rest39
              case hy39 => (intro w hSw; (try dsimp only at hSw); go_simp; try with_reducible rfl)
              try simp only [Act.put, List.getElem_toArray, List.getElem_cons_zero, List.setIfInBounds_toArray, List.set_cons_zero, List.set_cons_succ]
              refine wpAnyH_take (i := 1) (v := ?v40) rfl (by kernel_rfl) (by kernel_rfl) (by kernel_rfl) (fun _ _ _ h => h) (Or.inl ⟨by rfl, ?hy40⟩) (by assumption) ?rest40
              case hy40 => (intro w hSw; (try dsimp only at hSw); go_simp; try with_reducible rfl)
              try simp only [Act.put, List.getElem_toArray, List.getElem_cons_zero, List.getElem_cons_succ, List.setIfInBounds_toArray, List.set_cons_zero, List.set_cons_succ]
              refine wpAnyH_take (i := 2) (v := ?v41) rfl (by kernel_rfl) (by kernel_rfl) (by kernel_rfl) (fun _ _ _ h => h) (Or.inl ⟨by rfl, ?hy41⟩) (by assumption) ?rest41
              case hy41 => (intro w hSw; (try dsimp only at hSw); go_simp; try with_reducible rfl)
              try simp only [Act.put, List.getElem_toArray, List.getElem_cons_zero, List.getElem_cons_succ, List.setIfInBounds_toArray, List.set_cons_zero, List.set_cons_succ]
              refine wpAnyH_take (i := 3) (v := ?v42) rfl (by kernel_rfl) (by kernel_rfl) (by kernel_rfl) (fun _ _ _ h => h) (Or.inl ⟨by rfl, ?hy42⟩) (by assumption) ?rest42
              case hy42 => (intro w hSw; (try dsimp only at hSw); go_simp; try with_reducible rfl)
              try simp only [Act.put, List.getElem_toArray, List.getElem_cons_zero, List.getElem_cons_succ, List.setIfInBounds_toArray, List.set_cons_zero, List.set_cons_succ]
              refine wpAnyH_take (i := 4) (v := ?v43) rfl (by kernel_rfl) (by kernel_rfl) (by kernel_rfl) (fun _ _ _ h => h) (Or.inl ⟨by rfl, ?hy43⟩) (by assumption) ?rest43
              case hy43 => (intro w hSw; (try dsimp only at hSw); go_simp; try with_reducible rfl)
              try simp only [Act.put, List.getElem_toArray, List.getElem_cons_zero, List.getElem_cons_succ, List.setIfInBounds_toArray, List.set_cons_zero, List.set_cons_succ]
              refine wpAnyH_ready (rs := [5]) (by kernel_rfl) (by simp) ?_
              refine AllReadyH.cons rfl (fun K hK => ?_) AllReadyH.nil
              go_simp
              refine (rsum_run all w _ R0 (by have := HFL.out; omega)).mono ?_
              rintro e W1 ⟨rfl, F1, R1⟩
              have X1 := X0.frm F1 (fun h => h)
              refine hK.out _ _ (HCV.out _ X1) (fun hHeld => ?_)
              clear hK K
              refine wpAnyH_take (i := 6) (v := ?v44) rfl (by kernel_rfl) (by kernel_rfl) (by kernel_rfl) (fun _ _ _ h => h) (Or.inl ⟨by rfl, ?hy44⟩) (by assumption) ?rest44
              case hy44 => (intro w hSw; (try dsimp only at hSw); go_simp; try with_reducible rfl)
              try simp only [Act.put, List.getElem_toArray, List.getElem_cons_zero, List.getElem_cons_succ, List.setIfInBounds_toArray, List.set_cons_zero, List.set_cons_succ]
              refine wpAnyH_take (i := 7) (v := ?v45) rfl (by kernel_rfl) (by kernel_rfl) (by kernel_rfl) (fun _ _ _ h => h) (Or.inl ⟨by rfl, ?hy45⟩) (by assumption) ?rest45
              case hy45 => (intro w hSw; (try dsimp only at hSw); go_simp; try with_reducible rfl)
              try simp only [Act.put, List.getElem_toArray, List.getElem_cons_zero, List.getElem_cons_succ, List.setIfInBounds_toArray, List.set_cons_zero, List.set_cons_succ]
              refine wpAnyH_take (i := 8) (v := ?v46) rfl (by kernel_rfl) (by kernel_rfl) (by kernel_rfl) (fun _ _ _ h => h) (Or.inl ⟨by rfl, ?hy46⟩) (by assumption) ?rest46
              case hy46 => (intro w hSw; (try dsimp only at hSw); go_simp; try with_reducible rfl)
              try simp only [Act.put, List.getElem_toArray, List.getElem_cons_zero, List.getElem_cons_succ, List.setIfInBounds_toArray, List.set_cons_zero, List.set_cons_succ]
              refine wpAnyH_take (i := 9) (v := ?v47) rfl (by kernel_rfl) (by kernel_rfl) (by kernel_rfl) (fun _ _ _ h => h) (Or.inl ⟨by rfl, ?hy47⟩) (by assumption) ?rest47
              case hy47 => (intro w hSw; (try dsimp only at hSw); go_simp; try with_reducible rfl)
              try simp only [Act.put, List.getElem_toArray, List.getElem_cons_zero, List.getElem_cons_succ, List.setIfInBounds_toArray, List.set_cons_zero, List.set_cons_succ]
              refine wpAnyH_take (i := 10) (v := ?v48) rfl (by kernel_rfl) (by kernel_rfl) (by kernel_rfl) (fun _ _ _ h => h) (Or.inl ⟨by rfl, ?hy48⟩) (by assumption) ?rest48
              case hy48 => (intro w hSw; (try dsimp only at hSw); go_simp; try with_reducible rfl)
              try simp only [Act.put, List.getElem_toArray, List.getElem_cons_zero, List.getElem_cons_succ, List.setIfInBounds_toArray, List.set_cons_zero, List.set_cons_succ]
              refine wpAnyH_take (i := 11) (v := ?v49) rfl (by kernel_rfl) (by kernel_rfl) (by kernel_rfl) (fun _ _ _ h => h) (Or.inl ⟨by rfl, ?hy49⟩) (by assumption) ?rest49
              case hy49 => (intro w hSw; (try dsimp only at hSw); go_simp; try with_reducible rfl)
              try simp only [Act.put, List.getElem_toArray, List.getElem_cons_zero, List.getElem_cons_succ, List.setIfInBounds_toArray, List.set_cons_zero, List.set_cons_succ]
              refine wpAnyH_take (i := 12) (v := ?v50) rfl (by kernel_rfl) (by kernel_rfl) (by kernel_rfl) (fun _ _ _ h => h) (Or.inl ⟨by rfl, ?hy50⟩) (by assumption) ?rest50
              case hy50 => (intro w hSw; (try dsimp only at hSw); go_simp; try with_reducible rfl)
              try simp only [Act.put, List.getElem_toArray, List.getElem_cons_zero, List.getElem_cons_succ, List.setIfInBounds_toArray, List.set_cons_zero, List.set_cons_succ]
              refine wpAnyH_take (i := 13) (v := ?v51) rfl (by kernel_rfl) (by kernel_rfl) (by kernel_rfl) (fun _ _ _ h => h) (Or.inl ⟨by rfl, ?hy51⟩) (by assumption) ?rest51
              case hy51 => (intro w hSw; (try dsimp only at hSw); go_simp; try with_reducible rfl)
              try simp only [Act.put, List.getElem_toArray, List.getElem_cons_zero, List.getElem_cons_succ, List.setIfInBounds_toArray, List.set_cons_zero, List.set_cons_succ]
              refine wpAnyH_done (by kernel_rfl) ?_ _
              go_wp2
              go_ret
              exact ⟨rfl, R1.below⟩
end Go.Proofs.YtbicjcpdcopbhaaDoor
