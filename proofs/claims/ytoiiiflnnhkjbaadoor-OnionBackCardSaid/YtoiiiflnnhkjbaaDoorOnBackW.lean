/-
  OnionBack, walked.
-/
import Derived.Test.YtoiiiflnnhkjbaaDoorOnQ
namespace Go.Proofs.YtoiiiflnnhkjbaaDoor
set_option linter.unusedVariables false
set_option linter.unusedSimpArgs false
open Go.RowKit

set_option maxHeartbeats 64000000 in
set_option maxRecDepth 100000 in
theorem oback_walk (w : World) (hT : Tb w) (A : Option Addr) (n c : Nat) (hs0 : List HopL) (box : Nat) (x : List UInt8) (hR0 : HRow w A n hs0) (hnc : n ≤ c) (hc : c ≤ 9223372036854775807) (hbx : box < 65536) (hx : x.length = 256) :
    Calls Tryd.prog 3 #[.slice A n c, .int .u16 (box : Int), .agg (cellsB x).toArray] w fun e w' => e = .returned (.bool true) ∧ Below w.heap.size w w' := by
  have H := hide (OAt.start hT)
  have HSH := hide shown_o
  obtain ⟨m, HM, hmn, hm5, hme⟩ := nat_min n 5
  clear hme
  have hcut := cut_hops A n c m (by omega)
  obtain ⟨hs, hhs⟩ : ∃ hs, hs = hs0.take m := ⟨_, rfl⟩
  have hR : HRow w A m hs := by rw [hhs]; exact hR0.take hmn
  have HR := hide hR
  have HLEN := hide hR.len
  have HOK := hide hR.ok
  clear hhs hR0
  have HXc := hide (cl hx)
  have HX256 := hide hx
  have HBX := hide hbx
  have HM5 := hide hm5
  have HBU : Hid (∀ (W : World) (g c : Nat) (L : List HopL), Tb W → HRow W (some ⟨g, 0, none⟩) m L → Calls Tryd.prog 9 #[.slice (some ⟨g, 0, none⟩) m c, .int .u16 (box : Int), .agg (cellsB x).toArray] W fun e w' => e = .returned (.tuple #[.agg (pktC (buildP L box x)).toArray, .int .i64 (buildE L)]) ∧ Below W.heap.size W w') := fun W g c L h1 h2 => build_any (some ⟨g, 0, none⟩) m c box L x W h2 (by omega) hbx hx h1
  clear hR hT hx hbx
  go_enter Tryd.func3, Tryd.ntmps3
  go_wp2_with (first
    | (with_reducible refine at_op (op := ⟨some 5, _, _, _, _, _⟩) ?_; (refine wpl_boxa (op := ⟨some 5, _, _, _, _, _⟩) rfl _ _ rfl (cellsB x) rfl ?_); intro g5 W5 hB1 hg1 hF1; replace H := hide (H.out.box hg1 hF1 hB1); clear hB1 hg1 hF1)
    | (go_at_call 8; with_reducible refine (HSH.out _ H.out.tb).mono ?_; rintro e W7 ⟨rfl, hbc⟩; replace H := hide (H.out.call hbc); clear hbc)
    | (with_reducible refine at_op (op := ⟨some 18, _, _, _, _, _⟩) ?_; refine wpl_made0 (op := ⟨some 18, _, _, _, _, _⟩) rfl rfl ?_; intro gm W8 hB1 hg1 hF1; have HM1 := hide (And.intro hB1 (And.intro hg1 hF1)); clear hB1 hg1 hF1)
    | (with_reducible refine wpl_min (op := ⟨some 22, _, _, _, _, _⟩) rfl _ _ _ _ rfl _ _ _ (m : Int) rfl rfl HM.out ?_)
    | (with_reducible refine at_op (op := ⟨some 24, _, _, _, _, _⟩) ?_; refine wpl_appH (op := ⟨some 24, _, _, _, _, _⟩) rfl (.tmp 18) (.tmp 23) rfl _ W7.heap.size gm rfl HM1.out.1 HM1.out.2.1 (A) m (c) hs rfl ((HR.out.below H.out.bel).frm0 HM1.out.2.2) (by omega) ?_; intro ga ca ra W9 hB1 hg1 hca hcm hbl; have hbw : Below W7.heap.size W7 W9 := (HM1.out.2.2.below (Nat.le_refl _) (fun _ h => h.elim)).trans hbl; replace H := hide (H.out.box hg1 (Frm.of_below hbw) hB1); clear hB1 hg1 hbl hbw HM1))
  have H0 := H
  clear H
  go_loopw [8] (fun i wr => ∃ (k : Nat) (L : List HopL), k ≤ m ∧ L.length = m ∧ (∀ h ∈ L, h.ok) ∧ (∀ j, j < k → (L.getD j hop0).lo ≤ (L.getD j hop0).hi) ∧ i = .int .i64 k ∧ OAt w [(g5, 24, cellsB x), (ga, 35, hopsC L ++ ra)] wr) (fun i _ => m - (intOf i).toNat)
  case atStart => exact ⟨0, hs, by omega, HLEN.out, HOK.out, (fun j h => by omega), rfl, H0.out⟩
  case round =>
    clear H0
    obtain ⟨k, L, hk, hll, hlo, hlw, rfl, hat⟩ := hrel
    have H := hide hat
    have HLL := hide hll
    have HLO := hide hlo
    have HLW := hide hlw
    clear hat hll hlo hlw
    by_cases hlt : k < m
    · have hkL : k < L.length := by rw [HLL.out]; exact hlt
      have ho1 := HLO.out _ (hop_mem hkL)
      have HKL := hide hkL
      obtain ⟨h, hh⟩ : ∃ h, h = L.getD k hop0 := ⟨_, rfl⟩
      have HHE := hide hh
      have HHO : Hid h.ok := by show h.ok; rw [hh]; exact ho1
      have HG5 : Hid ((hopsC L ++ ra)[k * 54 + 51]? = some (.int .u64 (h.lo : Int))) := by show _ = _; rw [row_get HLO.out HLL.out hlt (by decide), hh]; exact hopC_lo ho1
      have HG6 : Hid ((hopsC L ++ ra)[k * 54 + 52]? = some (.int .u64 (h.hi : Int))) := by show _ = _; rw [row_get HLO.out HLL.out hlt (by decide), hh]; exact hopC_hi ho1
      have HF5 := hide (row_fits (ra := ra) HLO.out HLL.out hlt (q := 51) (by decide))
      obtain ⟨h1, hh1⟩ : ∃ t : HopL, t = { h with lo := h.hi } := ⟨_, rfl⟩
      obtain ⟨h2, hh2⟩ : ∃ t : HopL, t = { h1 with hi := h.lo } := ⟨_, rfl⟩
      have hok1 : h1.ok := by rw [hh1]; exact ⟨HHO.out.addr, HHO.out.who, HHO.out.key, HHO.out.epoch, HHO.out.nonce, HHO.out.hi, HHO.out.hi, HHO.out.delay⟩
      have hok2 : h2.ok := by rw [hh2]; exact ⟨hok1.addr, hok1.who, hok1.key, hok1.epoch, hok1.nonce, hok1.lo, HHO.out.lo, hok1.delay⟩
      obtain ⟨L1, hL1⟩ : ∃ l, l = L.set k h1 := ⟨_, rfl⟩
      obtain ⟨L2, hL2⟩ : ∃ l, l = L1.set k h2 := ⟨_, rfl⟩
      have ho1' : ∀ y ∈ L1, y.ok := by rw [hL1]; exact ok_set HLO.out hok1
      have ho2' : ∀ y ∈ L2, y.ok := by rw [hL2]; exact ok_set ho1' hok2
      have hl1 : L1.length = m := by rw [hL1, List.length_set]; exact HLL.out
      have hl2 : L2.length = m := by rw [hL2, List.length_set]; exact hl1
      have hg1 : L1.getD k hop0 = h1 := by rw [hL1]; exact getD_set_same hkL h1
      have HS1 : Hid ((hopsC L ++ ra).set (k * 54 + 51) (.int .u64 (h.hi : Int)) = hopsC L1 ++ ra) := by
        show _ = _
        rw [hL1]
        exact row_set HLO.out HLL.out hlt (by decide) (by rw [← hh, hopC_slo HHO.out, hh1])
      have HS2 : Hid ((hopsC L1 ++ ra).set (k * 54 + 52) (.int .u64 (h.lo : Int)) = hopsC L2 ++ ra) := by
        show _ = _
        rw [hL2]
        exact row_set ho1' hl1 hlt (by decide) (by rw [hg1, hopC_shi hok1, hh2])
      have HF6 := hide (row_fits (ra := ra) ho1' hl1 hlt (q := 52) (by decide))
      have HL2o := hide ho2'
      have HL2l := hide hl2
      have HL2w : Hid (h.hi < h.lo → ∀ j, j < k + 1 → (L2.getD j hop0).lo ≤ (L2.getD j hop0).hi) := fun hgt j hj => by
        by_cases e : j = k
        · subst e
          rw [hL2, getD_set_same (by rw [hL1, List.length_set]; exact hkL), hh2, hh1]
          show h.hi ≤ h.lo
          omega
        · rw [hL2, getD_set_other _ e, hL1, getD_set_other _ e]
          exact HLW.out j (by omega)
      have HLw2 : Hid (¬ h.hi < h.lo → ∀ j, j < k + 1 → (L.getD j hop0).lo ≤ (L.getD j hop0).hi) := fun hgt j hj => by
        by_cases e : j = k
        · subst e
          rw [← hh]
          omega
        · exact HLW.out j (by omega)
      have hki : (k : Int) < (m : Int) := by omega
      have hkd : decide ((k : Int) < (m : Int)) = true := decide_eq_true hki
      clear hh hh1 hh2 hL1 hL2 hok1 hok2 ho1' ho2' hl1 hl2 hg1 ho1 hkL HHE
      by_cases hgt : h.hi < h.lo
      · have hgi : (h.hi : Int) < (h.lo : Int) := by omega
        have hgd : decide ((h.hi : Int) < (h.lo : Int)) = true := decide_eq_true hgi
        have HGT := hide hgt
        clear hgt
        go_wp2_with fail
        obtain ⟨N, hN⟩ : ∃ N, N = wr.heap.size := ⟨_, rfl⟩
        have hq : Below N wr wr := hN ▸ Below.refl _ _
        have HA := hide (fun W' (h : Below N wr W') => H.out.call (hN ▸ h))
        have HC := hide (fun W' (h : Below N wr W') W'' (k : Below W'.heap.size W' W'') => h.trans (k.mono (by rw [hN]; exact h.size)))
        clear hN
        refine wp_region_class (fun W' => Below N wr W') (by kernel_rfl) (by kernel_rfl) (below_drewN hq 1) ?_
        with_reducible refine wpQuiet_step ?_
        intro K hK
        go_simp
        first | (refine hK _ ?_; clear hK K) | (refine ⟨_, fun w' hw' => rfl, hK _ ?_⟩; clear hK K)
        with_reducible refine wpQuiet_step ?_
        intro K hK
        go_simp
        first | (refine hK _ ?_; clear hK K) | (refine ⟨_, fun w' hw' => rfl, hK _ ?_⟩; clear hK K)
        with_reducible refine wpQuiet_step ?_
        intro K hK
        go_simp
        first | (refine hK _ ?_; clear hK K) | (refine ⟨_, fun w' hw' => rfl, hK _ ?_⟩; clear hK K)
        with_reducible refine wpQuiet_step ?_
        intro K hK
        go_simp
        first | (refine hK _ ?_; clear hK K) | (refine ⟨_, fun w' hw' => rfl, hK _ ?_⟩; clear hK K)
        with_reducible refine wpQuiet_step ?_
        intro K hK
        refine quiet_val (.int .u64 (h.lo : Int)) (fun w' hw' => held_load1 Tryd.underlying33 rfl one64 _ rfl ga (k * 54 + 51) rfl _ _ (.int .u64 (h.lo : Int)) ((HA.out w' hw').get 1 rfl) HG5.out) ?_ rfl
        go_simp
        refine hK _ ?_
        clear hK K
        with_reducible refine wpQuiet_step ?_
        intro K hK
        go_simp
        first | (refine hK _ ?_; clear hK K) | (refine ⟨_, fun w' hw' => rfl, hK _ ?_⟩; clear hK K)
        with_reducible refine wpQuiet_step ?_
        intro K hK
        go_simp
        first | (refine hK _ ?_; clear hK K) | (refine ⟨_, fun w' hw' => rfl, hK _ ?_⟩; clear hK K)
        with_reducible refine wpQuiet_step ?_
        intro K hK
        go_simp
        first | (refine hK _ ?_; clear hK K) | (refine ⟨_, fun w' hw' => rfl, hK _ ?_⟩; clear hK K)
        with_reducible refine wpQuiet_step ?_
        intro K hK
        go_simp
        first | (refine hK _ ?_; clear hK K) | (refine ⟨_, fun w' hw' => rfl, hK _ ?_⟩; clear hK K)
        with_reducible refine wpQuiet_step ?_
        intro K hK
        refine quiet_val (.int .u64 (h.hi : Int)) (fun w' hw' => held_load1 Tryd.underlying33 rfl one64 _ rfl ga (k * 54 + 52) rfl _ _ (.int .u64 (h.hi : Int)) ((HA.out w' hw').get 1 rfl) HG6.out) ?_ rfl
        go_simp
        refine hK _ ?_
        clear hK K
        with_reducible refine wpQuiet_step ?_
        intro K hK
        go_simp
        first | (refine hK _ ?_; clear hK K) | (refine ⟨_, fun w' hw' => rfl, hK _ ?_⟩; clear hK K)
        refine wpQuiet_nil ?_
        clear hq
        intro wq hwq
        replace H := hide (HA.out wq hwq)
        clear HA HC hwq
        go_wp2_with (first
          | (with_reducible refine at_op (op := ⟨some 46, _, _, _, _, _⟩) ?_; refine wpl_held (op := ⟨some 46, _, _, _, _, _⟩) (.int .u64 (h.lo : Int)) (held_load1 Tryd.underlying33 rfl one64 _ rfl ga (k * 54 + 51) rfl _ _ (.int .u64 (h.lo : Int)) (H.out.get 1 rfl) HG5.out) rfl ?_)
          | (with_reducible refine at_op (op := ⟨some 53, _, _, _, _, _⟩) ?_; refine wpl_held (op := ⟨some 53, _, _, _, _, _⟩) (.int .u64 (h.hi : Int)) (held_load1 Tryd.underlying33 rfl one64 _ rfl ga (k * 54 + 52) rfl _ _ (.int .u64 (h.hi : Int)) (H.out.get 1 rfl) HG6.out) rfl ?_)
          | (with_reducible refine at_op (op := ⟨none, .store _ (.tmp 55) _, _, _, _, _⟩) ?_; (refine wpl_store1 (op := ⟨none, _, _, _, _, _⟩) one64 rfl (.tmp 55) (.tmp 53) rfl ga (k * 54 + 51) (.int .u64 (h.hi : Int)) (hopsC L ++ ra) (hopsC L1 ++ ra) rfl rfl rfl _ (H.out.get 1 rfl) HF5.out HS1.out ?_); intro W10 hB1 hF1; replace H := hide (H.out.store 1 rfl hF1 hB1); clear hB1 hF1)
          | (with_reducible refine at_op (op := ⟨none, .store _ (.tmp 60) _, _, _, _, _⟩) ?_; (refine wpl_store1 (op := ⟨none, _, _, _, _, _⟩) one64 rfl (.tmp 60) (.tmp 58) rfl ga (k * 54 + 52) (.int .u64 (h.lo : Int)) (hopsC L1 ++ ra) (hopsC L2 ++ ra) rfl rfl rfl _ (H.out.get 1 rfl) HF6.out HS2.out ?_); intro W11 hB1 hF1; replace H := hide (H.out.store 1 rfl hF1 hB1); clear hB1 hF1))
        go_roundw
        case rel => exact ⟨k + 1, L2, by omega, HL2l.out, HL2o.out, HL2w.out HGT.out, by go_num, H.out⟩
        case measure => simp [intOf]; omega
      · have hgi : ¬ (h.hi : Int) < (h.lo : Int) := by omega
        have hgd : decide ((h.hi : Int) < (h.lo : Int)) = false := decide_eq_false hgi
        have HGT := hide hgt
        clear hgt
        go_wp2_with fail
        obtain ⟨N, hN⟩ : ∃ N, N = wr.heap.size := ⟨_, rfl⟩
        have hq : Below N wr wr := hN ▸ Below.refl _ _
        have HA := hide (fun W' (h : Below N wr W') => H.out.call (hN ▸ h))
        have HC := hide (fun W' (h : Below N wr W') W'' (k : Below W'.heap.size W' W'') => h.trans (k.mono (by rw [hN]; exact h.size)))
        clear hN
        refine wp_region_class (fun W' => Below N wr W') (by kernel_rfl) (by kernel_rfl) (below_drewN hq 1) ?_
        with_reducible refine wpQuiet_step ?_
        intro K hK
        go_simp
        first | (refine hK _ ?_; clear hK K) | (refine ⟨_, fun w' hw' => rfl, hK _ ?_⟩; clear hK K)
        with_reducible refine wpQuiet_step ?_
        intro K hK
        go_simp
        first | (refine hK _ ?_; clear hK K) | (refine ⟨_, fun w' hw' => rfl, hK _ ?_⟩; clear hK K)
        with_reducible refine wpQuiet_step ?_
        intro K hK
        go_simp
        first | (refine hK _ ?_; clear hK K) | (refine ⟨_, fun w' hw' => rfl, hK _ ?_⟩; clear hK K)
        with_reducible refine wpQuiet_step ?_
        intro K hK
        go_simp
        first | (refine hK _ ?_; clear hK K) | (refine ⟨_, fun w' hw' => rfl, hK _ ?_⟩; clear hK K)
        with_reducible refine wpQuiet_step ?_
        intro K hK
        refine quiet_val (.int .u64 (h.lo : Int)) (fun w' hw' => held_load1 Tryd.underlying33 rfl one64 _ rfl ga (k * 54 + 51) rfl _ _ (.int .u64 (h.lo : Int)) ((HA.out w' hw').get 1 rfl) HG5.out) ?_ rfl
        go_simp
        refine hK _ ?_
        clear hK K
        with_reducible refine wpQuiet_step ?_
        intro K hK
        go_simp
        first | (refine hK _ ?_; clear hK K) | (refine ⟨_, fun w' hw' => rfl, hK _ ?_⟩; clear hK K)
        with_reducible refine wpQuiet_step ?_
        intro K hK
        go_simp
        first | (refine hK _ ?_; clear hK K) | (refine ⟨_, fun w' hw' => rfl, hK _ ?_⟩; clear hK K)
        with_reducible refine wpQuiet_step ?_
        intro K hK
        go_simp
        first | (refine hK _ ?_; clear hK K) | (refine ⟨_, fun w' hw' => rfl, hK _ ?_⟩; clear hK K)
        with_reducible refine wpQuiet_step ?_
        intro K hK
        go_simp
        first | (refine hK _ ?_; clear hK K) | (refine ⟨_, fun w' hw' => rfl, hK _ ?_⟩; clear hK K)
        with_reducible refine wpQuiet_step ?_
        intro K hK
        refine quiet_val (.int .u64 (h.hi : Int)) (fun w' hw' => held_load1 Tryd.underlying33 rfl one64 _ rfl ga (k * 54 + 52) rfl _ _ (.int .u64 (h.hi : Int)) ((HA.out w' hw').get 1 rfl) HG6.out) ?_ rfl
        go_simp
        refine hK _ ?_
        clear hK K
        with_reducible refine wpQuiet_step ?_
        intro K hK
        go_simp
        first | (refine hK _ ?_; clear hK K) | (refine ⟨_, fun w' hw' => rfl, hK _ ?_⟩; clear hK K)
        refine wpQuiet_nil ?_
        clear hq
        intro wq hwq
        replace H := hide (HA.out wq hwq)
        clear HA HC hwq
        go_wp2_with fail
        go_roundw
        case rel => exact ⟨k + 1, L, by omega, HLL.out, HLO.out, HLw2.out HGT.out, by go_num, H.out⟩
        case measure => simp [intOf]; omega
    · obtain rfl : k = m := by omega
      by_cases hz : k = 0
      · have hr := rightH_none (HLL.out.trans hz)
        have HB : Hid (∀ W, Tb W → HRow W (some ⟨ga, 0, none⟩) k L → Calls Tryd.prog 9 #[.slice (some ⟨ga, 0, none⟩) k ca, .int .u16 (box : Int), .agg (cellsB x).toArray] W fun e w' => e = .returned (.tuple #[.agg (pktC pkt0).toArray, .int .i64 1]) ∧ Below W.heap.size W w') := fun W h1 h2 => by
          have := HBU.out W ga ca L h1 h2
          rwa [(built_wrong hr box x).1, (built_wrong hr box x).2] at this
        have HLp : Hid ((pktC pkt0).length = 610) := pkt0_c
        have hz1 : (k : Int) = 0 := by omega
        have hz2 : decide ((k : Int) = 0) = true := decide_eq_true hz1
        have hz3 : ((k : Int) == 0) = true := beq_iff_eq.2 hz1
        clear hr hz HBU
        go_wp2_with (first
          | (with_reducible refine at_op (op := ⟨some 64, _, _, _, _, _⟩) ?_; refine wpl_held (op := ⟨some 64, _, _, _, _, _⟩) (.agg (cellsB x).toArray) (held_loadf agg256 _ rfl g5 rfl _ (cellsB x) (H.out.get 0 rfl) HXc.out) rfl ?_)
          | (go_at_call 9; with_reducible refine (HB.out _ H.out.tb (H.out.row 1 rfl HLO.out HLL.out)).mono ?_; rintro e W12 ⟨rfl, hbc⟩; replace H := hide (H.out.call hbc); clear hbc)
          | (with_reducible refine at_op (op := ⟨some 10, _, _, _, _, _⟩) ?_; (with_reducible refine wpl_alloca (op := ⟨some 10, _, _, _, _, _⟩) rfl _ rfl _ zeroP ?_); intro g10 V10 hB1 hg1 hF1; go_simp; (with_reducible refine wpl_storea aggP rfl (.tmp 10) (.tmp 66) rfl g10 (pktC pkt0) rfl rfl _ _ hB1 HLp.out pkt0_len (pktC_one _) ?_); intro W13 hB2 hF2; replace H := hide (H.out.var hg1 hF1 hF2 hB2); clear hB1 hg1 hF1 hB2 hF2))
        go_ret
        exact ⟨rfl, H.out.bel⟩
      · have h5 : k ≤ 5 := HM5.out
        have hr := rightH_of (L := L) (by rw [HLL.out]; omega) (by rw [HLL.out]; omega) (fun j hj => HLW.out j (by rw [← HLL.out]; exact hj))
        have hB0 := (built_right hr box x)
        have HB : Hid (∀ W, Tb W → HRow W (some ⟨ga, 0, none⟩) k L → Calls Tryd.prog 9 #[.slice (some ⟨ga, 0, none⟩) k ca, .int .u16 (box : Int), .agg (cellsB x).toArray] W fun e w' => e = .returned (.tuple #[.agg (pktC (pktAt L box x 0)).toArray, .int .i64 0]) ∧ Below W.heap.size W w') := fun W h1 h2 => by
          have := HBU.out W ga ca L h1 h2
          rwa [hB0.1, hB0.2] at this
        have hlm : ∀ j, j < k → j < L.length := fun j h => by rw [HLL.out]; exact h
        have hok := HLO.out
        have hbx := HBX.out
        have hx := HX256.out
        obtain ⟨X, hX⟩ : ∃ X, X = pktAt L box x := ⟨_, rfl⟩
        obtain ⟨S, hS⟩ : ∃ S, S = slotAt L box x := ⟨_, rfl⟩
        obtain ⟨P, hP⟩ : ∃ P : Nat → HopL, P = fun j => L.getD j hop0 := ⟨_, rfl⟩
        have HPX : Hid (∀ j, j < k → ∀ W, Tb W → Calls Tryd.prog 10 #[.agg (cellsB (P j).key).toArray, .agg (pktC (X j)).toArray] W fun e w' => e = .returned (.tuple #[.agg (slotC (S j)).toArray, .agg (pktC (X (j + 1))).toArray, .int .i64 0]) ∧ Below W.heap.size W w') := by
          rw [hX, hS, hP]; exact fun j hk W h => peel_at hok hr hbx hx (hlm j hk) W h
        have oX : ∀ j, (X j).ok := by rw [hX]; exact pktAt_ok hok hbx hx
        have oS : ∀ j, j < k → (S j).ok := by rw [hS]; exact fun j hk => slotAt_ok hok hbx hx (hlm j hk)
        have oP : ∀ j, j < k → (P j).ok := by rw [hP]; exact fun j hk => hok _ (hop_mem (hlm j hk))
        have HOX := hide oX
        have HOS := hide oS
        have HOP := hide oP
        have hself : ∀ l : List UInt8, (l == l) = true := fun l => by simp
        have HPC : Hid (∀ (W : World), HRow W (some ⟨ga, 0, none⟩) k L → ∀ j, j < k → ∀ q u, (hopC (P j))[q]? = some u → W.cell? ((⟨ga, j * 54, none⟩ : Addr).add q) = some u) := fun W h j hj => by rw [hP]; exact h.at0 hj
        have HPA : Hid (∀ j, j < k → (hopsC L ++ ra)[j * 54 + 0]? = some (.int .u16 ((P j).addr : Int))) := fun j hj => by rw [row_get hok HLL.out hj (by decide), hP]; rfl
        have HXw : Hid (∀ j, j < k → (pktC (X j))[0]? = some (.int .u16 ((P j).who : Int))) := fun j hj => by rw [hP, ← (pktAt_head L box x (hlm j hj)).1, hX]; rfl
        have HXe : Hid (∀ j, j < k → (pktC (X j))[1]? = some (.int .u32 ((P j).epoch : Int))) := fun j hj => by rw [hP, ← (pktAt_head L box x (hlm j hj)).2.1, hX]; rfl
        have HXn : Hid (∀ j, j < k → ((pktC (X j)).drop 2).take 16 = cellsB (P j).nonce) := fun j hj => by rw [hP, ← (pktAt_head L box x (hlm j hj)).2.2, pktC_nonce (oX j), hX]
        have HSl : Hid (∀ j, j < k → (slotC (S j))[37]? = some (.int .u64 ((P j).lo : Int))) := fun j hj => by rw [slotC_lo (oS j hj).nonce (oS j hj).mac, hS, hP, (slotAt_says L box x j).1]
        have HSh : Hid (∀ j, j < k → (slotC (S j))[38]? = some (.int .u64 ((P j).hi : Int))) := fun j hj => by rw [slotC_hi (oS j hj).nonce (oS j hj).mac, hS, hP, (slotAt_says L box x j).2.1]
        have HSd : Hid (∀ j, j < k → (slotC (S j))[39]? = some (.int .u32 ((P j).delay : Int))) := fun j hj => by rw [slotC_delay (oS j hj).nonce (oS j hj).mac, hS, hP, (slotAt_says L box x j).2.2]
        have HSm : Hid (∀ j, j < k → ((slotC (S j)).drop 21).take 16 = cellsB (X (j + 1)).mac) := fun j hj => by rw [slotC_mac (oS j hj).nonce (oS j hj).mac, hS, hX, slotAt_mac]
        have HXm := hide (fun j => pktC_mac (oX j))
        have HSL : Hid (∀ j, j < k → j + 1 = k → (slotC (S j))[0]? = some (.bool true) ∧ (slotC (S j))[2]? = some (.int .u16 (box : Int))) := fun j hj e => by
          obtain ⟨a, b⟩ := slotAt_last L box x j (by rw [HLL.out]; exact e)
          rw [← hS] at a b
          rw [slotC_at2, b]
          exact ⟨by rw [← a]; rfl, rfl⟩
        have HSI : Hid (∀ j, j < k → j + 1 < k → (slotC (S j))[0]? = some (.bool false) ∧ (slotC (S j))[1]? = some (.int .u16 ((P (j + 1)).addr : Int))) := fun j hj e => by
          obtain ⟨a, b⟩ := slotAt_inner L box x j (by rw [HLL.out]; exact e)
          rw [← hS] at a b
          rw [slotC_at1, b, hP]
          exact ⟨by rw [← a]; rfl, rfl⟩
        have HXb : Hid (((pktC (X k)).drop 354).take 256 = cellsB x) := by
          show _ = _
          rw [pktC_body (oX k), hX, ← HLL.out, pktAt_last]
        have HEX : Hid (∀ w, (Op.equalIn 10000 24 (.agg (cellsB x).toArray) (.agg (cellsB x).toArray)).run Tryd.prog w = .ok true w) := fun w => by
          have h := eq_bytes 9998 under256 x x hx hx w
          rwa [hself] at h
        have HEN : Hid (∀ j, j < k → ∀ w, (Op.equalIn 10000 32 (.agg (cellsB (P j).nonce).toArray) (.agg (cellsB (P j).nonce).toArray)).run Tryd.prog w = .ok true w) := fun j hj w => by
          have h := eq_bytes 9998 underN (P j).nonce (P j).nonce (oP j hj).nonce (oP j hj).nonce w
          rwa [hself] at h
        have HEM : Hid (∀ j w, (Op.equalIn 10000 36 (.agg (cellsB (X j).mac).toArray) (.agg (cellsB (X j).mac).toArray)).run Tryd.prog w = .ok true w) := fun j w => by
          have h := eq_bytes 9998 underM (X j).mac (X j).mac (oX j).mac (oX j).mac w
          rwa [hself] at h
        rw [← hX] at HB
        have hz1 : ¬ (k : Int) = 0 := by omega
        have hz2 : decide ((k : Int) = 0) = false := decide_eq_false hz1
        have hz3 : ((k : Int) == 0) = false := beq_eq_false_iff_ne.2 hz1
        have HLX := hide (fun j => pktC_length (oX j))
        clear hX hS hP oX oS oP hself hr hlm hok hbx hx hz h5 hB0 HBU
        go_wp2_with (first
          | (with_reducible refine at_op (op := ⟨some 64, _, _, _, _, _⟩) ?_; refine wpl_held (op := ⟨some 64, _, _, _, _, _⟩) (.agg (cellsB x).toArray) (held_loadf agg256 _ rfl g5 rfl _ (cellsB x) (H.out.get 0 rfl) HXc.out) rfl ?_)
          | (go_at_call 9; with_reducible refine (HB.out _ H.out.tb (H.out.row 1 rfl HLO.out HLL.out)).mono ?_; rintro e W12 ⟨rfl, hbc⟩; replace H := hide (H.out.call hbc); clear hbc)
          | (with_reducible refine at_op (op := ⟨some 10, _, _, _, _, _⟩) ?_; (with_reducible refine wpl_alloca (op := ⟨some 10, _, _, _, _, _⟩) rfl _ rfl _ zeroP ?_); intro g10 V10 hB1 hg1 hF1; go_simp; (with_reducible refine wpl_storea aggP rfl (.tmp 10) (.tmp 66) rfl g10 (pktC (X 0)) rfl rfl _ _ hB1 (HLX.out 0) pkt0_len (pktC_one _) ?_); intro W13 hB2 hF2; replace H := hide (H.out.var hg1 hF1 hF2 hB2); clear hB1 hg1 hF1 hB2 hF2))
        have H1 := H
        clear H
        go_loopw [12] (fun i wr => ∃ j : Nat, j ≤ k ∧ i = .int .i64 j ∧ OAt w [(g5, 24, cellsB x), (ga, 35, hopsC L ++ ra), (g10, 39, pktC (X j))] wr) (fun i _ => k - (intOf i).toNat)
        case atStart => exact ⟨0, by omega, rfl, H1.out⟩
        case round =>
          clear H1
          obtain ⟨j, hj, rfl, hat⟩ := hrel
          have H := hide hat
          clear hat
          by_cases hjt : j < k
          · have HP1 := hide (HOP.out j hjt)
            have HPL1 := hide (hopC_length HP1.out)
            have HPK1 := hide (hopC_key HP1.out)
            have HPN1 := hide (hopC_nonce HP1.out)
            have HPE1 := hide (hopC_epoch HP1.out)
            have HPl1 := hide (hopC_lo HP1.out)
            have HPh1 := hide (hopC_hi HP1.out)
            have HPd1 := hide (hopC_delay HP1.out)
            have HS1 := hide (HOS.out j hjt)
            have HSL1 := hide (slotC_length (S j) HS1.out.nonce HS1.out.mac)
            have HX1 := hide (HPX.out j hjt)
            have HLX1 := hide (HLX.out j)
            have HLX2 := hide (HLX.out (j + 1))
            have hji : (j : Int) < (k : Int) := by omega
            have hjd : decide ((j : Int) < (k : Int)) = true := decide_eq_true hji
            by_cases hl : j + 1 = k
            · obtain ⟨q0, q2⟩ := HSL.out j hjt hl
              have HQ0 := hide q0
              have HQ2 := hide q2
              have hli : (j : Int) = (k : Int) - 1 := by omega
              have hld : decide ((j : Int) = (k : Int) - 1) = true := decide_eq_true hli
              have hlb : ((j : Int) == (k : Int) - 1) = true := beq_iff_eq.2 hli
              have hkk : (k : Int) - 1 ≤ 9223372036854775807 ∧ -9223372036854775808 ≤ (k : Int) - 1 := by have := HM5.out; omega
              have hwk : IntKind.i64.wrap ((k : Int) - 1) = (k : Int) - 1 := by rw [IntKind.wrap_i64] <;> omega
              clear q0 q2 hl hli
              go_wp2_with (first
                | (with_reducible refine at_op (op := ⟨some 87, _, _, _, _, _⟩) ?_; refine wpl_held (op := ⟨some 87, _, _, _, _, _⟩) (.agg (hopC (P j)).toArray) (held_loadC aggH _ rfl ⟨ga, j * 54, none⟩ rfl (hopC (P j)) HPL1.out (HPC.out _ (H.out.row 1 rfl HLO.out HLL.out) j hjt)) rfl ?_)
                | (with_reducible refine at_op (op := ⟨some 13, _, _, _, _, _⟩) ?_; (with_reducible refine wpl_alloca (op := ⟨some 13, _, _, _, _, _⟩) rfl _ rfl _ zeroH ?_); intro g13 V13 hB1 hg1 hF1; go_simp; (with_reducible refine wpl_storea aggH rfl (.tmp 13) (.tmp 87) rfl g13 (hopC (P j)) rfl rfl _ _ hB1 HPL1.out hop0_len (hopC_one _) ?_); intro V1 hB2 hF2; replace H := hide (H.out.var hg1 hF1 hF2 hB2); clear hB1 hg1 hF1 hB2 hF2)
                | (with_reducible refine at_op (op := ⟨some 90, _, _, _, _, _⟩) ?_; refine wpl_held (op := ⟨some 90, _, _, _, _, _⟩) (.agg (cellsB (P j).key).toArray) (held_loada aggK _ rfl g13 2 rfl _ (hopC (P j)) (cellsB (P j).key) (H.out.get 3 rfl) HPK1.out (by rw [HPL1.out]; decide)) rfl ?_)
                | (with_reducible refine at_op (op := ⟨some 91, _, _, _, _, _⟩) ?_; refine wpl_held (op := ⟨some 91, _, _, _, _, _⟩) (.agg (pktC (X j)).toArray) (held_loadf aggP _ rfl g10 rfl _ (pktC (X j)) (H.out.get 2 rfl) HLX1.out) rfl ?_)
                | (go_at_call 10; with_reducible refine (HX1.out _ H.out.tb).mono ?_; rintro e V2 ⟨rfl, hbc⟩; replace H := hide (H.out.call hbc); clear hbc)
                | (with_reducible refine at_op (op := ⟨some 14, _, _, _, _, _⟩) ?_; (with_reducible refine wpl_alloca (op := ⟨some 14, _, _, _, _, _⟩) rfl _ rfl _ zeroS ?_); intro g14 V3 hB1 hg1 hF1; replace H := hide (H.out.box hg1 hF1 hB1); clear hB1 hg1 hF1)
                | (with_reducible refine at_op (op := ⟨some 15, _, _, _, _, _⟩) ?_; (with_reducible refine wpl_alloca (op := ⟨some 15, _, _, _, _, _⟩) rfl _ rfl _ zeroP ?_); intro g15 V4 hB1 hg1 hF1; replace H := hide (H.out.box hg1 hF1 hB1); clear hB1 hg1 hF1)
                | (with_reducible refine at_op (op := ⟨none, .store _ (.tmp 14) (.tmp 93), _, _, _, _⟩) ?_; (with_reducible refine wpl_storea aggS rfl (.tmp 14) (.tmp 93) rfl g14 (slotC (S j)) rfl rfl _ _ (H.out.get 4 rfl) HSL1.out (slot0_len) (slotC_one _) ?_); intro V5 hB1 hF1; replace H := hide (H.out.store 4 rfl hF1 hB1); clear hB1 hF1)
                | (with_reducible refine at_op (op := ⟨none, .store _ (.tmp 15) (.tmp 94), _, _, _, _⟩) ?_; (with_reducible refine wpl_storea aggP rfl (.tmp 15) (.tmp 94) rfl g15 (pktC (X (j + 1))) rfl rfl _ _ (H.out.get 5 rfl) HLX2.out (pkt0_len) (pktC_one _) ?_); intro V6 hB1 hF1; replace H := hide (H.out.store 5 rfl hF1 hB1); clear hB1 hF1)
                | (with_reducible refine at_op (op := ⟨some 100, _, _, _, _, _⟩) ?_; refine wpl_held (op := ⟨some 100, _, _, _, _, _⟩) (.int .u16 ((P j).who : Int)) (held_load1 Tryd.underlying27 rfl one16w _ rfl g10 0 rfl _ _ (.int .u16 ((P j).who : Int)) (H.out.get 2 rfl) (HXw.out j hjt)) rfl ?_)
                | (with_reducible refine at_op (op := ⟨some 102, _, _, _, _, _⟩) ?_; refine wpl_held (op := ⟨some 102, _, _, _, _, _⟩) (.int .u16 ((P j).who : Int)) (held_load1 Tryd.underlying27 rfl one16w _ rfl g13 1 rfl _ _ (.int .u16 ((P j).who : Int)) (H.out.get 3 rfl) rfl) rfl ?_)
                | (with_reducible refine at_op (op := ⟨some 107, _, _, _, _, _⟩) ?_; refine wpl_held (op := ⟨some 107, _, _, _, _, _⟩) (.int .u32 ((P j).epoch : Int)) (held_load1 Tryd.underlying30 rfl one32 _ rfl g10 1 rfl _ _ (.int .u32 ((P j).epoch : Int)) (H.out.get 2 rfl) (HXe.out j hjt)) rfl ?_)
                | (with_reducible refine at_op (op := ⟨some 109, _, _, _, _, _⟩) ?_; refine wpl_held (op := ⟨some 109, _, _, _, _, _⟩) (.int .u32 ((P j).epoch : Int)) (held_load1 Tryd.underlying30 rfl one32 _ rfl g13 34 rfl _ _ (.int .u32 ((P j).epoch : Int)) (H.out.get 3 rfl) HPE1.out) rfl ?_)
                | (with_reducible refine at_op (op := ⟨some 114, _, _, _, _, _⟩) ?_; refine wpl_held (op := ⟨some 114, _, _, _, _, _⟩) (.agg (cellsB (P j).nonce).toArray) (held_loada aggN _ rfl g10 2 rfl _ (pktC (X j)) (cellsB (P j).nonce) (H.out.get 2 rfl) (HXn.out j hjt) (by rw [HLX1.out]; decide)) rfl ?_)
                | (with_reducible refine at_op (op := ⟨some 116, _, _, _, _, _⟩) ?_; refine wpl_held (op := ⟨some 116, _, _, _, _, _⟩) (.agg (cellsB (P j).nonce).toArray) (held_loada aggN _ rfl g13 35 rfl _ (hopC (P j)) (cellsB (P j).nonce) (H.out.get 3 rfl) HPN1.out (by rw [HPL1.out]; decide)) rfl ?_)
                | (with_reducible refine at_op (op := ⟨some 117, _, _, _, _, _⟩) ?_; refine wpl_held (op := ⟨some 117, _, _, _, _, _⟩) (.bool (!true)) (held_neq _ _ _ _ rfl (cellsB (P j).nonce) (cellsB (P j).nonce) rfl rfl (true) (HEN.out j hjt _) Tryd.eqGuardType32) rfl ?_)
                | (with_reducible refine at_op (op := ⟨some 121, _, _, _, _, _⟩) ?_; refine wpl_held (op := ⟨some 121, _, _, _, _, _⟩) (.int .u64 ((P j).lo : Int)) (held_load1 Tryd.underlying33 rfl one64 _ rfl g14 37 rfl _ _ (.int .u64 ((P j).lo : Int)) (H.out.get 4 rfl) (HSl.out j hjt)) rfl ?_)
                | (with_reducible refine at_op (op := ⟨some 123, _, _, _, _, _⟩) ?_; refine wpl_held (op := ⟨some 123, _, _, _, _, _⟩) (.int .u64 ((P j).lo : Int)) (held_load1 Tryd.underlying33 rfl one64 _ rfl g13 51 rfl _ _ (.int .u64 ((P j).lo : Int)) (H.out.get 3 rfl) HPl1.out) rfl ?_)
                | (with_reducible refine at_op (op := ⟨some 128, _, _, _, _, _⟩) ?_; refine wpl_held (op := ⟨some 128, _, _, _, _, _⟩) (.int .u64 ((P j).hi : Int)) (held_load1 Tryd.underlying33 rfl one64 _ rfl g14 38 rfl _ _ (.int .u64 ((P j).hi : Int)) (H.out.get 4 rfl) (HSh.out j hjt)) rfl ?_)
                | (with_reducible refine at_op (op := ⟨some 130, _, _, _, _, _⟩) ?_; refine wpl_held (op := ⟨some 130, _, _, _, _, _⟩) (.int .u64 ((P j).hi : Int)) (held_load1 Tryd.underlying33 rfl one64 _ rfl g13 52 rfl _ _ (.int .u64 ((P j).hi : Int)) (H.out.get 3 rfl) HPh1.out) rfl ?_)
                | (with_reducible refine at_op (op := ⟨some 135, _, _, _, _, _⟩) ?_; refine wpl_held (op := ⟨some 135, _, _, _, _, _⟩) (.int .u32 ((P j).delay : Int)) (held_load1 Tryd.underlying30 rfl one32 _ rfl g14 39 rfl _ _ (.int .u32 ((P j).delay : Int)) (H.out.get 4 rfl) (HSd.out j hjt)) rfl ?_)
                | (with_reducible refine at_op (op := ⟨some 137, _, _, _, _, _⟩) ?_; refine wpl_held (op := ⟨some 137, _, _, _, _, _⟩) (.int .u32 ((P j).delay : Int)) (held_load1 Tryd.underlying30 rfl one32 _ rfl g13 53 rfl _ _ (.int .u32 ((P j).delay : Int)) (H.out.get 3 rfl) HPd1.out) rfl ?_)
                | (with_reducible refine at_op (op := ⟨some 142, _, _, _, _, _⟩) ?_; refine wpl_held (op := ⟨some 142, _, _, _, _, _⟩) (.bool true) (held_load1 Tryd.underlying4 rfl oneBool _ rfl g14 0 rfl _ _ (.bool true) (H.out.get 4 rfl) HQ0.out) rfl ?_))
              obtain ⟨N, hN⟩ : ∃ N, N = V6.heap.size := ⟨_, rfl⟩
              have hq : Below N V6 V6 := hN ▸ Below.refl _ _
              have HA := hide (fun W' (h : Below N V6 W') => H.out.call (hN ▸ h))
              have HC := hide (fun W' (h : Below N V6 W') W'' (k : Below W'.heap.size W' W'') => h.trans (k.mono (by rw [hN]; exact h.size)))
              clear hN
              refine wp_region_class (fun W' => Below N V6 W') (by kernel_rfl) (by kernel_rfl) (below_drewN hq 1) ?_
              with_reducible refine wpQuiet_step ?_
              intro K hK
              go_simp
              first | (refine hK _ ?_; clear hK K) | (refine ⟨_, fun w' hw' => rfl, hK _ ?_⟩; clear hK K)
              with_reducible refine wpQuiet_step ?_
              intro K hK
              refine quiet_val (.bool true) (fun w' hw' => held_load1 Tryd.underlying4 rfl oneBool _ rfl g14 0 rfl _ _ (.bool true) ((HA.out w' hw').get 4 rfl) HQ0.out) ?_ rfl
              go_simp
              refine hK _ ?_
              clear hK K
              with_reducible refine wpQuiet_step ?_
              intro K hK
              go_simp
              first | (refine hK _ ?_; clear hK K) | (refine ⟨_, fun w' hw' => rfl, hK _ ?_⟩; clear hK K)
              with_reducible refine wpQuiet_step ?_
              intro K hK
              go_simp
              first | (refine hK _ ?_; clear hK K) | (refine ⟨_, fun w' hw' => rfl, hK _ ?_⟩; clear hK K)
              with_reducible refine wpQuiet_step ?_
              intro K hK
              refine quiet_val (.int .u16 (box : Int)) (fun w' hw' => held_load1 Tryd.underlying43 rfl one16b _ rfl g14 2 rfl _ _ (.int .u16 (box : Int)) ((HA.out w' hw').get 4 rfl) HQ2.out) ?_ rfl
              go_simp
              refine hK _ ?_
              clear hK K
              with_reducible refine wpQuiet_step ?_
              intro K hK
              go_simp
              first | (refine hK _ ?_; clear hK K) | (refine ⟨_, fun w' hw' => rfl, hK _ ?_⟩; clear hK K)
              with_reducible refine wpQuiet_step ?_
              intro K hK
              go_simp
              first | (refine hK _ ?_; clear hK K) | (refine ⟨_, fun w' hw' => rfl, hK _ ?_⟩; clear hK K)
              with_reducible refine wpQuiet_step ?_
              intro K hK
              go_simp
              first | (refine hK _ ?_; clear hK K) | (refine ⟨_, fun w' hw' => rfl, hK _ ?_⟩; clear hK K)
              with_reducible refine wpQuiet_step ?_
              intro K hK
              go_simp
              first | (refine hK _ ?_; clear hK K) | (refine ⟨_, fun w' hw' => rfl, hK _ ?_⟩; clear hK K)
              with_reducible refine wpQuiet_step ?_
              intro K hK
              go_simp
              first | (refine hK _ ?_; clear hK K) | (refine ⟨_, fun w' hw' => rfl, hK _ ?_⟩; clear hK K)
              with_reducible refine wpQuiet_step ?_
              intro K hK
              refine quiet_val (.bool true) (fun w' hw' => held_load1 Tryd.underlying4 rfl oneBool _ rfl g14 0 rfl _ _ (.bool true) ((HA.out w' hw').get 4 rfl) HQ0.out) ?_ rfl
              go_simp
              refine hK _ ?_
              clear hK K
              with_reducible refine wpQuiet_step ?_
              intro K hK
              go_simp
              first | (refine hK _ ?_; clear hK K) | (refine ⟨_, fun w' hw' => rfl, hK _ ?_⟩; clear hK K)
              with_reducible refine wpQuiet_step ?_
              intro K hK
              go_simp
              first | (refine hK _ ?_; clear hK K) | (refine ⟨_, fun w' hw' => rfl, hK _ ?_⟩; clear hK K)
              with_reducible refine wpQuiet_step ?_
              intro K hK
              go_simp
              refine hK _ ?_
              clear hK K
              with_reducible refine wpQuiet_step ?_
              intro K hK
              go_simp
              refine hK _ ?_
              clear hK K
              with_reducible refine wpQuiet_step ?_
              intro K hK
              go_simp
              refine hK _ ?_
              clear hK K
              with_reducible refine wpQuiet_step ?_
              intro K hK
              go_simp
              refine hK _ ?_
              clear hK K
              with_reducible refine wpQuiet_step ?_
              intro K hK
              go_simp
              refine hK _ ?_
              clear hK K
              with_reducible refine wpQuiet_step ?_
              intro K hK
              go_simp
              refine hK _ ?_
              clear hK K
              with_reducible refine wpQuiet_step ?_
              intro K hK
              go_simp
              refine hK _ ?_
              clear hK K
              with_reducible refine wpQuiet_step ?_
              intro K hK
              go_simp
              refine hK _ ?_
              clear hK K
              with_reducible refine wpQuiet_step ?_
              intro K hK
              go_simp
              refine hK _ ?_
              clear hK K
              with_reducible refine wpQuiet_step ?_
              intro K hK
              go_simp
              refine hK _ ?_
              clear hK K
              with_reducible refine wpQuiet_step ?_
              intro K hK
              go_simp
              refine hK _ ?_
              clear hK K
              with_reducible refine wpQuiet_step ?_
              intro K hK
              go_simp
              refine hK _ ?_
              clear hK K
              with_reducible refine wpQuiet_step ?_
              intro K hK
              go_simp
              refine hK _ ?_
              clear hK K
              with_reducible refine wpQuiet_step ?_
              intro K hK
              go_simp
              refine hK _ ?_
              clear hK K
              with_reducible refine wpQuiet_step ?_
              intro K hK
              go_simp
              refine hK _ ?_
              clear hK K
              with_reducible refine wpQuiet_step ?_
              intro K hK
              go_simp
              refine hK _ ?_
              clear hK K
              with_reducible refine wpQuiet_step ?_
              intro K hK
              go_simp
              first | (refine hK _ ?_; clear hK K) | (refine ⟨_, fun w' hw' => rfl, hK _ ?_⟩; clear hK K)
              with_reducible refine wpQuiet_step ?_
              intro K hK
              go_simp
              first | (refine hK _ ?_; clear hK K) | (refine ⟨_, fun w' hw' => rfl, hK _ ?_⟩; clear hK K)
              refine wpQuiet_nil ?_
              clear hq
              intro wq hwq
              replace H := hide (HA.out wq hwq)
              clear HA HC hwq
              go_wp2_with (first
                | (with_reducible refine at_op (op := ⟨some 181, _, _, _, _, _⟩) ?_; refine wpl_held (op := ⟨some 181, _, _, _, _, _⟩) (.agg (pktC (X (j + 1))).toArray) (held_loadf aggP _ rfl g15 rfl _ (pktC (X (j + 1))) (H.out.get 5 rfl) HLX2.out) rfl ?_)
                | (with_reducible refine at_op (op := ⟨none, .store _ (.tmp 10) (.tmp 181), _, _, _, _⟩) ?_; (with_reducible refine wpl_storea aggP rfl (.tmp 10) (.tmp 181) rfl g10 (pktC (X (j + 1))) rfl rfl _ _ (H.out.get 2 rfl) HLX2.out (by rw [List.size_toArray]; exact HLX1.out) (pktC_one _) ?_); intro V8 hB1 hF1; replace H := hide (H.out.store 2 rfl hF1 hB1); clear hB1 hF1))
              replace H := hide (H.out.pre 3)
              go_roundw
              case rel => exact ⟨j + 1, by omega, by go_num, H.out⟩
              case measure => simp [intOf]; omega
            · have hl2 : j + 1 < k := by omega
              obtain ⟨q0, q1⟩ := HSI.out j hjt hl2
              have HQ0 := hide q0
              have HQ1 := hide q1
              have HQA := hide (HPA.out (j + 1) hl2)
              have hli : ¬ (j : Int) = (k : Int) - 1 := by omega
              have hld : decide ((j : Int) = (k : Int) - 1) = false := decide_eq_false hli
              have hlb : ((j : Int) == (k : Int) - 1) = false := beq_eq_false_iff_ne.2 hli
              have hwk : IntKind.i64.wrap ((k : Int) - 1) = (k : Int) - 1 := by rw [IntKind.wrap_i64] <;> (have := HM5.out; omega)
              have hwj : IntKind.i64.wrap ((j : Int) + 1) = ((j + 1 : Nat) : Int) := by rw [IntKind.wrap_i64] <;> (have := HM5.out; omega)
              have hj0 : 0 ≤ (j : Int) + 1 := by omega
              have hj1 : (j : Int) + 1 < (k : Int) := by omega
              have hjc : (0 ≤ (j : Int) + 1 ∧ (j : Int) + 1 < (k : Int)) := ⟨hj0, hj1⟩
              clear q0 q1 hl
              go_wp2_with (first
                | (with_reducible refine at_op (op := ⟨some 87, _, _, _, _, _⟩) ?_; refine wpl_held (op := ⟨some 87, _, _, _, _, _⟩) (.agg (hopC (P j)).toArray) (held_loadC aggH _ rfl ⟨ga, j * 54, none⟩ rfl (hopC (P j)) HPL1.out (HPC.out _ (H.out.row 1 rfl HLO.out HLL.out) j hjt)) rfl ?_)
                | (with_reducible refine at_op (op := ⟨some 13, _, _, _, _, _⟩) ?_; (with_reducible refine wpl_alloca (op := ⟨some 13, _, _, _, _, _⟩) rfl _ rfl _ zeroH ?_); intro g13 V13 hB1 hg1 hF1; go_simp; (with_reducible refine wpl_storea aggH rfl (.tmp 13) (.tmp 87) rfl g13 (hopC (P j)) rfl rfl _ _ hB1 HPL1.out hop0_len (hopC_one _) ?_); intro V1 hB2 hF2; replace H := hide (H.out.var hg1 hF1 hF2 hB2); clear hB1 hg1 hF1 hB2 hF2)
                | (with_reducible refine at_op (op := ⟨some 90, _, _, _, _, _⟩) ?_; refine wpl_held (op := ⟨some 90, _, _, _, _, _⟩) (.agg (cellsB (P j).key).toArray) (held_loada aggK _ rfl g13 2 rfl _ (hopC (P j)) (cellsB (P j).key) (H.out.get 3 rfl) HPK1.out (by rw [HPL1.out]; decide)) rfl ?_)
                | (with_reducible refine at_op (op := ⟨some 91, _, _, _, _, _⟩) ?_; refine wpl_held (op := ⟨some 91, _, _, _, _, _⟩) (.agg (pktC (X j)).toArray) (held_loadf aggP _ rfl g10 rfl _ (pktC (X j)) (H.out.get 2 rfl) HLX1.out) rfl ?_)
                | (go_at_call 10; with_reducible refine (HX1.out _ H.out.tb).mono ?_; rintro e V2 ⟨rfl, hbc⟩; replace H := hide (H.out.call hbc); clear hbc)
                | (with_reducible refine at_op (op := ⟨some 14, _, _, _, _, _⟩) ?_; (with_reducible refine wpl_alloca (op := ⟨some 14, _, _, _, _, _⟩) rfl _ rfl _ zeroS ?_); intro g14 V3 hB1 hg1 hF1; replace H := hide (H.out.box hg1 hF1 hB1); clear hB1 hg1 hF1)
                | (with_reducible refine at_op (op := ⟨some 15, _, _, _, _, _⟩) ?_; (with_reducible refine wpl_alloca (op := ⟨some 15, _, _, _, _, _⟩) rfl _ rfl _ zeroP ?_); intro g15 V4 hB1 hg1 hF1; replace H := hide (H.out.box hg1 hF1 hB1); clear hB1 hg1 hF1)
                | (with_reducible refine at_op (op := ⟨none, .store _ (.tmp 14) (.tmp 93), _, _, _, _⟩) ?_; (with_reducible refine wpl_storea aggS rfl (.tmp 14) (.tmp 93) rfl g14 (slotC (S j)) rfl rfl _ _ (H.out.get 4 rfl) HSL1.out (slot0_len) (slotC_one _) ?_); intro V5 hB1 hF1; replace H := hide (H.out.store 4 rfl hF1 hB1); clear hB1 hF1)
                | (with_reducible refine at_op (op := ⟨none, .store _ (.tmp 15) (.tmp 94), _, _, _, _⟩) ?_; (with_reducible refine wpl_storea aggP rfl (.tmp 15) (.tmp 94) rfl g15 (pktC (X (j + 1))) rfl rfl _ _ (H.out.get 5 rfl) HLX2.out (pkt0_len) (pktC_one _) ?_); intro V6 hB1 hF1; replace H := hide (H.out.store 5 rfl hF1 hB1); clear hB1 hF1)
                | (with_reducible refine at_op (op := ⟨some 100, _, _, _, _, _⟩) ?_; refine wpl_held (op := ⟨some 100, _, _, _, _, _⟩) (.int .u16 ((P j).who : Int)) (held_load1 Tryd.underlying27 rfl one16w _ rfl g10 0 rfl _ _ (.int .u16 ((P j).who : Int)) (H.out.get 2 rfl) (HXw.out j hjt)) rfl ?_)
                | (with_reducible refine at_op (op := ⟨some 102, _, _, _, _, _⟩) ?_; refine wpl_held (op := ⟨some 102, _, _, _, _, _⟩) (.int .u16 ((P j).who : Int)) (held_load1 Tryd.underlying27 rfl one16w _ rfl g13 1 rfl _ _ (.int .u16 ((P j).who : Int)) (H.out.get 3 rfl) rfl) rfl ?_)
                | (with_reducible refine at_op (op := ⟨some 107, _, _, _, _, _⟩) ?_; refine wpl_held (op := ⟨some 107, _, _, _, _, _⟩) (.int .u32 ((P j).epoch : Int)) (held_load1 Tryd.underlying30 rfl one32 _ rfl g10 1 rfl _ _ (.int .u32 ((P j).epoch : Int)) (H.out.get 2 rfl) (HXe.out j hjt)) rfl ?_)
                | (with_reducible refine at_op (op := ⟨some 109, _, _, _, _, _⟩) ?_; refine wpl_held (op := ⟨some 109, _, _, _, _, _⟩) (.int .u32 ((P j).epoch : Int)) (held_load1 Tryd.underlying30 rfl one32 _ rfl g13 34 rfl _ _ (.int .u32 ((P j).epoch : Int)) (H.out.get 3 rfl) HPE1.out) rfl ?_)
                | (with_reducible refine at_op (op := ⟨some 114, _, _, _, _, _⟩) ?_; refine wpl_held (op := ⟨some 114, _, _, _, _, _⟩) (.agg (cellsB (P j).nonce).toArray) (held_loada aggN _ rfl g10 2 rfl _ (pktC (X j)) (cellsB (P j).nonce) (H.out.get 2 rfl) (HXn.out j hjt) (by rw [HLX1.out]; decide)) rfl ?_)
                | (with_reducible refine at_op (op := ⟨some 116, _, _, _, _, _⟩) ?_; refine wpl_held (op := ⟨some 116, _, _, _, _, _⟩) (.agg (cellsB (P j).nonce).toArray) (held_loada aggN _ rfl g13 35 rfl _ (hopC (P j)) (cellsB (P j).nonce) (H.out.get 3 rfl) HPN1.out (by rw [HPL1.out]; decide)) rfl ?_)
                | (with_reducible refine at_op (op := ⟨some 117, _, _, _, _, _⟩) ?_; refine wpl_held (op := ⟨some 117, _, _, _, _, _⟩) (.bool (!true)) (held_neq _ _ _ _ rfl (cellsB (P j).nonce) (cellsB (P j).nonce) rfl rfl (true) (HEN.out j hjt _) Tryd.eqGuardType32) rfl ?_)
                | (with_reducible refine at_op (op := ⟨some 121, _, _, _, _, _⟩) ?_; refine wpl_held (op := ⟨some 121, _, _, _, _, _⟩) (.int .u64 ((P j).lo : Int)) (held_load1 Tryd.underlying33 rfl one64 _ rfl g14 37 rfl _ _ (.int .u64 ((P j).lo : Int)) (H.out.get 4 rfl) (HSl.out j hjt)) rfl ?_)
                | (with_reducible refine at_op (op := ⟨some 123, _, _, _, _, _⟩) ?_; refine wpl_held (op := ⟨some 123, _, _, _, _, _⟩) (.int .u64 ((P j).lo : Int)) (held_load1 Tryd.underlying33 rfl one64 _ rfl g13 51 rfl _ _ (.int .u64 ((P j).lo : Int)) (H.out.get 3 rfl) HPl1.out) rfl ?_)
                | (with_reducible refine at_op (op := ⟨some 128, _, _, _, _, _⟩) ?_; refine wpl_held (op := ⟨some 128, _, _, _, _, _⟩) (.int .u64 ((P j).hi : Int)) (held_load1 Tryd.underlying33 rfl one64 _ rfl g14 38 rfl _ _ (.int .u64 ((P j).hi : Int)) (H.out.get 4 rfl) (HSh.out j hjt)) rfl ?_)
                | (with_reducible refine at_op (op := ⟨some 130, _, _, _, _, _⟩) ?_; refine wpl_held (op := ⟨some 130, _, _, _, _, _⟩) (.int .u64 ((P j).hi : Int)) (held_load1 Tryd.underlying33 rfl one64 _ rfl g13 52 rfl _ _ (.int .u64 ((P j).hi : Int)) (H.out.get 3 rfl) HPh1.out) rfl ?_)
                | (with_reducible refine at_op (op := ⟨some 135, _, _, _, _, _⟩) ?_; refine wpl_held (op := ⟨some 135, _, _, _, _, _⟩) (.int .u32 ((P j).delay : Int)) (held_load1 Tryd.underlying30 rfl one32 _ rfl g14 39 rfl _ _ (.int .u32 ((P j).delay : Int)) (H.out.get 4 rfl) (HSd.out j hjt)) rfl ?_)
                | (with_reducible refine at_op (op := ⟨some 137, _, _, _, _, _⟩) ?_; refine wpl_held (op := ⟨some 137, _, _, _, _, _⟩) (.int .u32 ((P j).delay : Int)) (held_load1 Tryd.underlying30 rfl one32 _ rfl g13 53 rfl _ _ (.int .u32 ((P j).delay : Int)) (H.out.get 3 rfl) HPd1.out) rfl ?_)
                | (with_reducible refine at_op (op := ⟨some 142, _, _, _, _, _⟩) ?_; refine wpl_held (op := ⟨some 142, _, _, _, _, _⟩) (.bool false) (held_load1 Tryd.underlying4 rfl oneBool _ rfl g14 0 rfl _ _ (.bool false) (H.out.get 4 rfl) HQ0.out) rfl ?_))
              obtain ⟨N, hN⟩ : ∃ N, N = V6.heap.size := ⟨_, rfl⟩
              have hq : Below N V6 V6 := hN ▸ Below.refl _ _
              have HA := hide (fun W' (h : Below N V6 W') => H.out.call (hN ▸ h))
              have HC := hide (fun W' (h : Below N V6 W') W'' (k : Below W'.heap.size W' W'') => h.trans (k.mono (by rw [hN]; exact h.size)))
              clear hN
              refine wp_region_class (fun W' => Below N V6 W') (by kernel_rfl) (by kernel_rfl) (below_drewN hq 1) ?_
              with_reducible refine wpQuiet_step ?_
              intro K hK
              go_simp
              first | (refine hK _ ?_; clear hK K) | (refine ⟨_, fun w' hw' => rfl, hK _ ?_⟩; clear hK K)
              with_reducible refine wpQuiet_step ?_
              intro K hK
              refine quiet_val (.bool false) (fun w' hw' => held_load1 Tryd.underlying4 rfl oneBool _ rfl g14 0 rfl _ _ (.bool false) ((HA.out w' hw').get 4 rfl) HQ0.out) ?_ rfl
              go_simp
              refine hK _ ?_
              clear hK K
              with_reducible refine wpQuiet_step ?_
              intro K hK
              go_simp
              first | (refine hK _ ?_; clear hK K) | (refine ⟨_, fun w' hw' => rfl, hK _ ?_⟩; clear hK K)
              with_reducible refine wpQuiet_step ?_
              intro K hK
              go_simp
              refine hK _ ?_
              clear hK K
              with_reducible refine wpQuiet_step ?_
              intro K hK
              go_simp
              refine hK _ ?_
              clear hK K
              with_reducible refine wpQuiet_step ?_
              intro K hK
              go_simp
              refine hK _ ?_
              clear hK K
              with_reducible refine wpQuiet_step ?_
              intro K hK
              go_simp
              refine hK _ ?_
              clear hK K
              with_reducible refine wpQuiet_step ?_
              intro K hK
              go_simp
              first | (refine hK _ ?_; clear hK K) | (refine ⟨_, fun w' hw' => rfl, hK _ ?_⟩; clear hK K)
              with_reducible refine wpQuiet_step ?_
              intro K hK
              go_simp
              first | (refine hK _ ?_; clear hK K) | (refine ⟨_, fun w' hw' => rfl, hK _ ?_⟩; clear hK K)
              with_reducible refine wpQuiet_step ?_
              intro K hK
              go_simp
              first | (refine hK _ ?_; clear hK K) | (refine ⟨_, fun w' hw' => rfl, hK _ ?_⟩; clear hK K)
              with_reducible refine wpQuiet_step ?_
              intro K hK
              refine quiet_val (.bool false) (fun w' hw' => held_load1 Tryd.underlying4 rfl oneBool _ rfl g14 0 rfl _ _ (.bool false) ((HA.out w' hw').get 4 rfl) HQ0.out) ?_ rfl
              go_simp
              refine hK _ ?_
              clear hK K
              with_reducible refine wpQuiet_step ?_
              intro K hK
              go_simp
              first | (refine hK _ ?_; clear hK K) | (refine ⟨_, fun w' hw' => rfl, hK _ ?_⟩; clear hK K)
              with_reducible refine wpQuiet_step ?_
              intro K hK
              go_simp
              first | (refine hK _ ?_; clear hK K) | (refine ⟨_, fun w' hw' => rfl, hK _ ?_⟩; clear hK K)
              with_reducible refine wpQuiet_step ?_
              intro K hK
              go_simp
              first | (refine hK _ ?_; clear hK K) | (refine ⟨_, fun w' hw' => rfl, hK _ ?_⟩; clear hK K)
              with_reducible refine wpQuiet_step ?_
              intro K hK
              refine quiet_val (.int .u16 ((P (j + 1)).addr : Int)) (fun w' hw' => held_load1 Tryd.underlying26 rfl one16a _ rfl g14 1 rfl _ _ (.int .u16 ((P (j + 1)).addr : Int)) ((HA.out w' hw').get 4 rfl) HQ1.out) ?_ rfl
              go_simp
              refine hK _ ?_
              clear hK K
              with_reducible refine wpQuiet_step ?_
              intro K hK
              go_simp
              first | (refine hK _ ?_; clear hK K) | (refine ⟨_, fun w' hw' => rfl, hK _ ?_⟩; clear hK K)
              with_reducible refine wpQuiet_step ?_
              intro K hK
              go_simp
              first | (refine hK _ ?_; clear hK K) | (refine ⟨_, fun w' hw' => rfl, hK _ ?_⟩; clear hK K)
              with_reducible refine wpQuiet_step ?_
              intro K hK
              go_simp
              first | (refine hK _ ?_; clear hK K) | (refine ⟨_, fun w' hw' => rfl, hK _ ?_⟩; clear hK K)
              with_reducible refine wpQuiet_step ?_
              intro K hK
              go_simp
              first | (refine hK _ ?_; clear hK K) | (refine ⟨_, fun w' hw' => rfl, hK _ ?_⟩; clear hK K)
              with_reducible refine wpQuiet_step ?_
              intro K hK
              go_simp
              first | (refine hK _ ?_; clear hK K) | (refine ⟨_, fun w' hw' => rfl, hK _ ?_⟩; clear hK K)
              with_reducible refine wpQuiet_step ?_
              intro K hK
              refine quiet_val (.int .u16 ((P (j + 1)).addr : Int)) (fun w' hw' => held_load1 Tryd.underlying26 rfl one16a _ rfl ga ((j + 1) * 54 + 0) rfl _ _ (.int .u16 ((P (j + 1)).addr : Int)) ((HA.out w' hw').get 1 rfl) HQA.out) ?_ rfl
              go_simp
              refine hK _ ?_
              clear hK K
              with_reducible refine wpQuiet_step ?_
              intro K hK
              go_simp
              first | (refine hK _ ?_; clear hK K) | (refine ⟨_, fun w' hw' => rfl, hK _ ?_⟩; clear hK K)
              with_reducible refine wpQuiet_step ?_
              intro K hK
              go_simp
              first | (refine hK _ ?_; clear hK K) | (refine ⟨_, fun w' hw' => rfl, hK _ ?_⟩; clear hK K)
              with_reducible refine wpQuiet_step ?_
              intro K hK
              go_simp
              first | (refine hK _ ?_; clear hK K) | (refine ⟨_, fun w' hw' => rfl, hK _ ?_⟩; clear hK K)
              with_reducible refine wpQuiet_step ?_
              intro K hK
              refine quiet_val (.agg (cellsB (X (j + 1)).mac).toArray) (fun w' hw' => held_loada aggM _ rfl g14 21 rfl _ (slotC (S j)) (cellsB (X (j + 1)).mac) ((HA.out w' hw').get 4 rfl) (HSm.out j hjt) (by rw [HSL1.out]; decide)) ?_ rfl
              go_simp
              refine hK _ ?_
              clear hK K
              with_reducible refine wpQuiet_step ?_
              intro K hK
              go_simp
              first | (refine hK _ ?_; clear hK K) | (refine ⟨_, fun w' hw' => rfl, hK _ ?_⟩; clear hK K)
              with_reducible refine wpQuiet_step ?_
              intro K hK
              refine quiet_val (.agg (cellsB (X (j + 1)).mac).toArray) (fun w' hw' => held_loada aggM _ rfl g15 18 rfl _ (pktC (X (j + 1))) (cellsB (X (j + 1)).mac) ((HA.out w' hw').get 5 rfl) (HXm.out (j + 1)) (by rw [HLX2.out]; decide)) ?_ rfl
              go_simp
              refine hK _ ?_
              clear hK K
              with_reducible refine wpQuiet_step ?_
              intro K hK
              refine quiet_val (.bool (!true)) (fun w' hw' => held_neq _ _ _ _ rfl (cellsB (X (j + 1)).mac) (cellsB (X (j + 1)).mac) rfl rfl (true) (HEM.out (j + 1) w') Tryd.eqGuardType36) ?_ rfl
              go_simp
              refine hK _ ?_
              clear hK K
              with_reducible refine wpQuiet_step ?_
              intro K hK
              go_simp
              first | (refine hK _ ?_; clear hK K) | (refine ⟨_, fun w' hw' => rfl, hK _ ?_⟩; clear hK K)
              with_reducible refine wpQuiet_step ?_
              intro K hK
              go_simp
              first | (refine hK _ ?_; clear hK K) | (refine ⟨_, fun w' hw' => rfl, hK _ ?_⟩; clear hK K)
              with_reducible refine wpQuiet_step ?_
              intro K hK
              go_simp
              first | (refine hK _ ?_; clear hK K) | (refine ⟨_, fun w' hw' => rfl, hK _ ?_⟩; clear hK K)
              refine wpQuiet_nil ?_
              clear hq
              intro wq hwq
              replace H := hide (HA.out wq hwq)
              clear HA HC hwq
              go_wp2_with (first
                | (with_reducible refine at_op (op := ⟨some 181, _, _, _, _, _⟩) ?_; refine wpl_held (op := ⟨some 181, _, _, _, _, _⟩) (.agg (pktC (X (j + 1))).toArray) (held_loadf aggP _ rfl g15 rfl _ (pktC (X (j + 1))) (H.out.get 5 rfl) HLX2.out) rfl ?_)
                | (with_reducible refine at_op (op := ⟨none, .store _ (.tmp 10) (.tmp 181), _, _, _, _⟩) ?_; (with_reducible refine wpl_storea aggP rfl (.tmp 10) (.tmp 181) rfl g10 (pktC (X (j + 1))) rfl rfl _ _ (H.out.get 2 rfl) HLX2.out (by rw [List.size_toArray]; exact HLX1.out) (pktC_one _) ?_); intro V8 hB1 hF1; replace H := hide (H.out.store 2 rfl hF1 hB1); clear hB1 hF1))
              replace H := hide (H.out.pre 3)
              go_roundw
              case rel => exact ⟨j + 1, by omega, by go_num, H.out⟩
              case measure => simp [intOf]; omega
          · obtain rfl : j = k := by omega
            have HLX1 := hide (HLX.out j)
            go_wp2_with (first
              | (with_reducible refine at_op (op := ⟨some 185, _, _, _, _, _⟩) ?_; refine wpl_held (op := ⟨some 185, _, _, _, _, _⟩) (.agg (cellsB x).toArray) (held_loada agg256 _ rfl g10 354 rfl _ (pktC (X j)) (cellsB x) (H.out.get 2 rfl) HXb.out (by rw [HLX1.out]; decide)) rfl ?_)
              | (with_reducible refine at_op (op := ⟨some 186, _, _, _, _, _⟩) ?_; refine wpl_held (op := ⟨some 186, _, _, _, _, _⟩) (.agg (cellsB x).toArray) (held_loadf agg256 _ rfl g5 rfl _ (cellsB x) (H.out.get 0 rfl) HXc.out) rfl ?_)
              | (with_reducible refine at_op (op := ⟨some 187, _, _, _, _, _⟩) ?_; refine wpl_held (op := ⟨some 187, _, _, _, _, _⟩) (.bool true) (held_eql _ _ _ _ rfl (cellsB x) (cellsB x) rfl rfl (true) (HEX.out _) Tryd.eqGuardType24) rfl ?_))
            go_ret
            exact ⟨rfl, H.out.bel⟩
end Go.Proofs.YtoiiiflnnhkjbaaDoor
