/-
  OnionAgain, walked.
-/
import Derived.Test.YtoiiiflnnhkjbaaDoorOnP
namespace Go.Proofs.YtoiiiflnnhkjbaaDoor
set_option linter.unusedVariables false
set_option linter.unusedSimpArgs false
open Go.RowKit

theorem eq_hop {x : HopL} (hx : x.ok) (w : World) : (Op.equalIn 10000 35 (.agg (hopC x).toArray) (.agg (hopC x).toArray)).run Tryd.prog w = .ok true w := by
  have hu := Tryd.underlying35
  rw [run_equalIn_agg w 9999 35 _ _ (by simp only [Program.fieldsOf, hu]) Tryd.stoodInHeld35]
  simp only [Program.fieldsOf, hu]
  have e : true = (nateq x.addr x.addr && (nateq x.who x.who && ((x.key == x.key) && (nateq x.epoch x.epoch && ((x.nonce == x.nonce) && (nateq x.lo x.lo && (nateq x.hi x.hi && (nateq x.delay x.delay && true)))))))) := by simp [nateq]
  rw [e]
  refine eqF_one (by decide) w (part_one Tryd.underlying26 rfl _ _ (.int .u16 (x.addr : Int)) rfl w) (part_one Tryd.underlying26 rfl _ _ (.int .u16 (x.addr : Int)) rfl w) (eq_int _ Tryd.underlying26 _ _ w) ?_
  refine eqF_one (by decide) w (part_one Tryd.underlying27 rfl _ _ (.int .u16 (x.who : Int)) rfl w) (part_one Tryd.underlying27 rfl _ _ (.int .u16 (x.who : Int)) rfl w) (eq_int _ Tryd.underlying27 _ _ w) ?_
  refine eqF_one (by decide) w (part_agg aggK _ _ _ (hopC_key hx) w) (part_agg aggK _ _ _ (hopC_key hx) w) (eq_bytes _ underK32 _ _ hx.key hx.key w) ?_
  refine eqF_one (by decide) w (part_one Tryd.underlying30 rfl _ _ _ (hopC_epoch hx) w) (part_one Tryd.underlying30 rfl _ _ _ (hopC_epoch hx) w) (eq_int _ Tryd.underlying30 _ _ w) ?_
  refine eqF_one (by decide) w (part_agg aggN _ _ _ (hopC_nonce hx) w) (part_agg aggN _ _ _ (hopC_nonce hx) w) (eq_bytes _ underN _ _ hx.nonce hx.nonce w) ?_
  refine eqF_one (by decide) w (part_one Tryd.underlying33 rfl _ _ _ (hopC_lo hx) w) (part_one Tryd.underlying33 rfl _ _ _ (hopC_lo hx) w) (eq_int _ Tryd.underlying33 _ _ w) ?_
  refine eqF_one (by decide) w (part_one Tryd.underlying33 rfl _ _ _ (hopC_hi hx) w) (part_one Tryd.underlying33 rfl _ _ _ (hopC_hi hx) w) (eq_int _ Tryd.underlying33 _ _ w) ?_
  exact eqF_one (by decide) w (part_one Tryd.underlying30 rfl _ _ _ (hopC_delay hx) w) (part_one Tryd.underlying30 rfl _ _ _ (hopC_delay hx) w) (eq_int _ Tryd.underlying30 _ _ w) (eqF_nil w)
theorem OAt.row {w W : World} {l : List (Nat × TypeId × List Value)} {g : Nat} {t : TypeId} {hs : List HopL} {r : List Value} {m : Nat} (h : OAt w l W) (i : Nat) (hi : l[i]? = some (g, t, hopsC hs ++ r)) (ho : ∀ x ∈ hs, x.ok) (hn : hs.length = m) : HRow W (some ⟨g, 0, none⟩) m hs := by
  subst hn
  exact row_of_blk (h.get i hi) ho
theorem HRow.at0 {w : World} {g n : Nat} {hs : List HopL} (h : HRow w (some ⟨g, 0, none⟩) n hs) {k : Nat} (hk : k < n) : ∀ q u, (hopC (hs.getD k hop0))[q]? = some u → w.cell? ((⟨g, k * 54, none⟩ : Addr).add q) = some u := by
  intro q u hu
  have := h.cell hk q u hu
  rwa [addr_add, addr_add, Nat.zero_add, ← addr_add] at this

set_option maxHeartbeats 64000000 in
set_option maxRecDepth 100000 in
theorem oagain_walk (w : World) (hT : Tb w) (A : Option Addr) (n c : Nat) (hs0 : List HopL) (box : Nat) (x : List UInt8) (hR0 : HRow w A n hs0) (hnc : n ≤ c) (hc : c ≤ 9223372036854775807) (hbx : box < 65536) (hx : x.length = 256) :
    Calls Tryd.prog 6 #[.slice A n c, .int .u16 (box : Int), .agg (cellsB x).toArray] w fun e w' => e = .returned (.bool true) ∧ Below w.heap.size w w' := by
  have H := hide (OAt.start hT)
  have HSH := hide shown_o
  obtain ⟨m, HM, hmn, hm5, hme⟩ := nat_min n 5
  clear hme
  have hcut := cut_hops A n c m (by omega)
  obtain ⟨hs, hhs⟩ : ∃ hs, hs = hs0.take m := ⟨_, rfl⟩
  have hR : HRow w A m hs := by rw [hhs]; exact hR0.take hmn
  have HR := hide hR
  have HLEN := hide hR.len
  have HOK := hide hR.ok
  clear hhs hR0
  have HXc := hide (cl hx)
  have hpo := buildP_ok hR.ok (box := box) hx hbx
  have HB : Hid (∀ W g c, Tb W → HRow W (some ⟨g, 0, none⟩) m hs → Calls Tryd.prog 9 #[.slice (some ⟨g, 0, none⟩) m c, .int .u16 (box : Int), .agg (cellsB x).toArray] W fun e w' => e = .returned (.tuple #[.agg (pktC (buildP hs box x)).toArray, .int .i64 (buildE hs)]) ∧ Below W.heap.size W w') := fun W g c h1 h2 => build_any (some ⟨g, 0, none⟩) m c box hs x W h2 (by omega) hbx hx h1
  generalize buildP hs box x = P at *
  generalize buildE hs = E at *
  have HLP := hide (pktC_length hpo)
  have HEP : Hid (∀ w, (Op.equalIn 10000 39 (.agg (pktC P).toArray) (.agg (pktC P).toArray)).run Tryd.prog w = .ok true w) := fun w => by
    have h := eq_pkt hpo hpo w
    rw [show pktEq P P = true from pktEq_iff.2 rfl] at h
    exact h
  clear hR hT hx hpo
  go_enter Tryd.func6, Tryd.ntmps6
  go_wp2_with (first
    | (with_reducible refine at_op (op := ⟨some 5, _, _, _, _, _⟩) ?_; (refine wpl_boxa (op := ⟨some 5, _, _, _, _, _⟩) rfl _ _ rfl (cellsB x) rfl ?_); intro g5 W5 hB1 hg1 hF1; replace H := hide (H.out.box hg1 hF1 hB1); clear hB1 hg1 hF1)
    | (go_at_call 8; with_reducible refine (HSH.out _ H.out.tb).mono ?_; rintro e W7 ⟨rfl, hbc⟩; replace H := hide (H.out.call hbc); clear hbc)
    | (with_reducible refine at_op (op := ⟨some 15, _, _, _, _, _⟩) ?_; refine wpl_made0 (op := ⟨some 15, _, _, _, _, _⟩) rfl rfl ?_; intro gm W8 hB1 hg1 hF1; have HM1 := hide (And.intro hB1 (And.intro hg1 hF1)); clear hB1 hg1 hF1)
    | (with_reducible refine wpl_min (op := ⟨some 19, _, _, _, _, _⟩) rfl _ _ _ _ rfl _ _ _ (m : Int) rfl rfl HM.out ?_)
    | (with_reducible refine at_op (op := ⟨some 21, _, _, _, _, _⟩) ?_; refine wpl_appH (op := ⟨some 21, _, _, _, _, _⟩) rfl (.tmp 15) (.tmp 20) rfl _ W7.heap.size gm rfl HM1.out.1 HM1.out.2.1 (A) m (c) hs rfl ((HR.out.below H.out.bel).frm0 HM1.out.2.2) (by omega) ?_; intro ga ca ra W9 hB1 hg1 hca hcm hbl; have hbw : Below W7.heap.size W7 W9 := (HM1.out.2.2.below (Nat.le_refl _) (fun _ h => h.elim)).trans hbl; replace H := hide (H.out.box hg1 (Frm.of_below hbw) hB1); clear hB1 hg1 hbl hbw HM1)
    | (with_reducible refine at_op (op := ⟨some 22, _, _, _, _, _⟩) ?_; refine wpl_made0 (op := ⟨some 22, _, _, _, _, _⟩) rfl rfl ?_; intro gn W10 hB1 hg1 hF1; have HM2 := hide (And.intro hB1 (And.intro hg1 hF1)); clear hB1 hg1 hF1)
    | (with_reducible refine at_op (op := ⟨some 24, _, _, _, _, _⟩) ?_; refine wpl_appH (op := ⟨some 24, _, _, _, _, _⟩) rfl (.tmp 22) (.tmp 23) rfl _ W9.heap.size gn rfl HM2.out.1 HM2.out.2.1 (some ⟨ga, 0, none⟩) m (ca) hs rfl ((H.out.row 1 rfl HOK.out HLEN.out).frm0 HM2.out.2.2) (by omega) ?_; intro gb cb rb W11 hB1 hg1 hca hcm hbl; have hbw : Below W9.heap.size W9 W11 := (HM2.out.2.2.below (Nat.le_refl _) (fun _ h => h.elim)).trans hbl; replace H := hide (H.out.box hg1 (Frm.of_below hbw) hB1); clear hB1 hg1 hbl hbw HM2)
    | (with_reducible refine at_op (op := ⟨some 28, _, _, _, _, _⟩) ?_; refine wpl_held (op := ⟨some 28, _, _, _, _, _⟩) (.agg (cellsB x).toArray) (held_loadf agg256 _ rfl g5 rfl _ (cellsB x) (H.out.get 0 rfl) HXc.out) rfl ?_)
    | (go_at_call 9; with_reducible refine (HB.out _ ga ca H.out.tb (H.out.row 1 rfl HOK.out HLEN.out)).mono ?_; rintro e W12 ⟨rfl, hbc⟩; replace H := hide (H.out.call hbc); clear hbc)
    | (with_reducible refine at_op (op := ⟨some 9, _, _, _, _, _⟩) ?_; (with_reducible refine wpl_alloca (op := ⟨some 9, _, _, _, _, _⟩) rfl _ rfl _ zeroP ?_); intro g9 V9 hB1 hg1 hF1; go_simp; (with_reducible refine wpl_storea aggP rfl (.tmp 9) (.tmp 30) rfl g9 (pktC P) rfl rfl _ _ hB1 HLP.out pkt0_len (pktC_one _) ?_); intro W13 hB2 hF2; replace H := hide (H.out.var hg1 hF1 hF2 hB2); clear hB1 hg1 hF1 hB2 hF2)
    | (with_reducible refine at_op (op := ⟨some 35, _, _, _, _, _⟩) ?_; refine wpl_held (op := ⟨some 35, _, _, _, _, _⟩) (.agg (cellsB x).toArray) (held_loadf agg256 _ rfl g5 rfl _ (cellsB x) (H.out.get 0 rfl) HXc.out) rfl ?_)
    | (with_reducible refine at_op (op := ⟨some 11, _, _, _, _, _⟩) ?_; (with_reducible refine wpl_alloca (op := ⟨some 11, _, _, _, _, _⟩) rfl _ rfl _ zeroP ?_); intro g11 V11 hB1 hg1 hF1; go_simp; (with_reducible refine wpl_storea aggP rfl (.tmp 11) (.tmp 37) rfl g11 (pktC P) rfl rfl _ _ hB1 HLP.out pkt0_len (pktC_one _) ?_); intro W15 hB2 hF2; replace H := hide (H.out.var hg1 hF1 hF2 hB2); clear hB1 hg1 hF1 hB2 hF2))
  have H0 := H
  clear H
  go_loopw [13] (fun i wr => ∃ k : Nat, k ≤ m ∧ i = .int .i64 k ∧ OAt w [(g5, 24, cellsB x), (ga, 35, hopsC hs ++ ra), (gb, 35, hopsC hs ++ rb), (g9, 39, pktC P), (g11, 39, pktC P)] wr) (fun i _ => m - (intOf i).toNat)
  case atStart => exact ⟨0, by omega, rfl, H0.out⟩
  case round =>
    clear H0
    obtain ⟨k, hk, rfl, hat⟩ := hrel
    have H := hide hat
    clear hat
    by_cases hlt : k < m
    · have HH1 := hide (HOK.out _ (hop_mem (show k < hs.length by rw [HLEN.out]; exact hlt)))
      have HHL := hide (hopC_length HH1.out)
      have HEH := hide (eq_hop HH1.out)
      have hki : (k : Int) < (m : Int) := by omega
      have hkd : decide ((k : Int) < (m : Int)) = true := decide_eq_true hki
      go_wp2_with fail
      obtain ⟨N, hN⟩ : ∃ N, N = wr.heap.size := ⟨_, rfl⟩
      have hq : Below N wr wr := hN ▸ Below.refl _ _
      have HA := hide (fun W' (h : Below N wr W') => H.out.call (hN ▸ h))
      have HC := hide (fun W' (h : Below N wr W') W'' (k : Below W'.heap.size W' W'') => h.trans (k.mono (by rw [hN]; exact h.size)))
      clear hN
      refine wp_region_class (fun W' => Below N wr W') (by kernel_rfl) (by kernel_rfl) (below_drewN hq 1) ?_
      with_reducible refine wpQuiet_step ?_
      intro K hK
      go_simp
      first | (refine hK _ ?_; clear hK K) | (refine ⟨_, fun w' hw' => rfl, hK _ ?_⟩; clear hK K)
      with_reducible refine wpQuiet_step ?_
      intro K hK
      go_simp
      first | (refine hK _ ?_; clear hK K) | (refine ⟨_, fun w' hw' => rfl, hK _ ?_⟩; clear hK K)
      with_reducible refine wpQuiet_step ?_
      intro K hK
      go_simp
      first | (refine hK _ ?_; clear hK K) | (refine ⟨_, fun w' hw' => rfl, hK _ ?_⟩; clear hK K)
      with_reducible refine wpQuiet_step ?_
      intro K hK
      refine quiet_val (.agg (hopC (hs.getD k hop0)).toArray) (fun w' hw' => held_loadC aggH _ rfl ⟨ga, k * 54, none⟩ rfl (hopC (hs.getD k hop0)) HHL.out (((HA.out w' hw').row 1 rfl HOK.out HLEN.out).at0 hlt)) ?_ rfl
      go_simp
      refine hK _ ?_
      clear hK K
      with_reducible refine wpQuiet_step ?_
      intro K hK
      go_simp
      first | (refine hK _ ?_; clear hK K) | (refine ⟨_, fun w' hw' => rfl, hK _ ?_⟩; clear hK K)
      with_reducible refine wpQuiet_step ?_
      intro K hK
      go_simp
      first | (refine hK _ ?_; clear hK K) | (refine ⟨_, fun w' hw' => rfl, hK _ ?_⟩; clear hK K)
      with_reducible refine wpQuiet_step ?_
      intro K hK
      go_simp
      first | (refine hK _ ?_; clear hK K) | (refine ⟨_, fun w' hw' => rfl, hK _ ?_⟩; clear hK K)
      with_reducible refine wpQuiet_step ?_
      intro K hK
      refine quiet_val (.agg (hopC (hs.getD k hop0)).toArray) (fun w' hw' => held_loadC aggH _ rfl ⟨gb, k * 54, none⟩ rfl (hopC (hs.getD k hop0)) HHL.out (((HA.out w' hw').row 2 rfl HOK.out HLEN.out).at0 hlt)) ?_ rfl
      go_simp
      refine hK _ ?_
      clear hK K
      with_reducible refine wpQuiet_step ?_
      intro K hK
      refine quiet_val (.bool (!true)) (fun w' hw' => held_neq _ _ _ _ rfl (hopC (hs.getD k hop0)) (hopC (hs.getD k hop0)) rfl rfl (true) (HEH.out w') Tryd.eqGuardType35) ?_ rfl
      go_simp
      refine hK _ ?_
      clear hK K
      refine wpQuiet_nil ?_
      clear hq
      intro wq hwq
      replace H := hide (HA.out wq hwq)
      clear HA HC hwq
      go_wp2_with fail
      go_roundw
      case rel => exact ⟨k + 1, by omega, by go_num, H.out⟩
      case measure => simp [intOf]; omega
    · obtain rfl : k = m := by omega
      go_wp2_with (first
        | (with_reducible refine at_op (op := ⟨some 56, _, _, _, _, _⟩) ?_; refine wpl_held (op := ⟨some 56, _, _, _, _, _⟩) (.agg (pktC P).toArray) (held_loadf aggP _ rfl g9 rfl _ (pktC P) (H.out.get 3 rfl) HLP.out) rfl ?_)
        | (with_reducible refine at_op (op := ⟨some 57, _, _, _, _, _⟩) ?_; refine wpl_held (op := ⟨some 57, _, _, _, _, _⟩) (.agg (pktC P).toArray) (held_loadf aggP _ rfl g11 rfl _ (pktC P) (H.out.get 4 rfl) HLP.out) rfl ?_)
        | (with_reducible refine at_op (op := ⟨some 58, _, _, _, _, _⟩) ?_; refine wpl_held (op := ⟨some 58, _, _, _, _, _⟩) (.bool true) (held_eql _ _ _ _ rfl (pktC P) (pktC P) rfl rfl (true) (HEP.out _) Tryd.eqGuardType39) rfl ?_))
      go_ret
      exact ⟨rfl, H.out.bel⟩
end Go.Proofs.YtoiiiflnnhkjbaaDoor
