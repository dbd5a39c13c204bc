/-
  OnionEnd, walked.
-/
import Derived.Test.YtoiiiflnnhkjbaaDoorOnSh
import Derived.Test.YtoiiiflnnhkjbaaDoorOSlD
namespace Go.Proofs.YtoiiiflnnhkjbaaDoor
set_option linter.unusedVariables false
set_option linter.unusedSimpArgs false
open Go.RowKit

set_option maxHeartbeats 16000000 in
set_option maxRecDepth 100000 in
theorem oend_walk (w : World) (hT : Tb w) (key : List UInt8) (p : Pkt) (mac : List UInt8) (hk : key.length = 32) (hp : p.ok) (hm : mac.length = 16) : Calls Tryd.prog 5 #[.agg (cellsB key).toArray, .agg (pktC p).toArray, .agg (cellsB mac).toArray] w fun e w' => e = .returned (.bool true) ∧ Below w.heap.size w w' := by
  have H := hide (OAt.start hT)
  have HSH := hide shown_o
  have HKc := hide (cl hk)
  have HMc0 := hide (cl hm)
  have HPL := hide (pktC_length hp)
  have HPN := hide (pktC_nonce hp)
  have HF0 := hide (pktC_fits hp)
  obtain ⟨mc, hmc⟩ : ∃ mc, mc = macO key p := ⟨_, rfl⟩
  obtain ⟨p1, hp1⟩ : ∃ q : Pkt, q = { p with mac := mac } := ⟨_, rfl⟩
  have ok1 : p1.ok := by rw [hp1]; exact ⟨hp.who, hp.epoch, hp.nonce, hm, hp.head, hp.body⟩
  have hml : mc.length = 16 := by rw [hmc]; exact macO_length _ _
  obtain ⟨p2, hp2⟩ : ∃ q : Pkt, q = { p1 with mac := mc } := ⟨_, rfl⟩
  have ok2 : p2.ok := by rw [hp2]; exact ⟨ok1.who, ok1.epoch, ok1.nonce, hml, ok1.head, ok1.body⟩
  have hm1 : macO key p1 = mc := by rw [hp1, hmc]; rfl
  have hm2 : macO key p2 = p2.mac := by rw [hp2, ← hm1]; rfl
  have hE : ¬ peelE key p2 = 4 := by rw [peelE_four]; exact fun h => h hm2
  have HM0 : Hid (∀ W, Tb W → Calls Tryd.prog 13 #[.agg (cellsB key).toArray, .agg (pktC p).toArray] W fun e w' => e = .returned (.agg (cellsB mc).toArray) ∧ Below W.heap.size W w') := fun W h => by
    have := mac_o key p hk hp W h
    rwa [← hmc] at this
  have HM1 : Hid (∀ W, Tb W → Calls Tryd.prog 13 #[.agg (cellsB key).toArray, .agg (pktC p1).toArray] W fun e w' => e = .returned (.agg (cellsB mc).toArray) ∧ Below W.heap.size W w') := fun W h => by
    have := mac_o key p1 hk ok1 W h
    rwa [hm1] at this
  have HPE := hide (fun (W : World) (h : Tb W) => peel_any key p2 hk ok2 W h)
  have HTG := hide (fun (W : World) (h : Tb W) => tag_any key p.epoch p.nonce hk hp.nonce hp.epoch W h)
  have htl := tagO_length key p.epoch p.nonce
  have HX1 : Hid (splice (pktC p) 18 (cellsB mac) = pktC p1) := by show _ = _; rw [hp1]; exact pktC_smac hp mac hm
  have HX2 : Hid (splice (pktC p1) 18 (cellsB mc) = pktC p2) := by show _ = _; rw [hp2]; exact pktC_smac ok1 mc hml
  have HN1 : Hid (((pktC p1).drop 2).take 16 = cellsB p.nonce) := by show _ = _; rw [pktC_nonce ok1, hp1]
  have HN2 : Hid (((pktC p2).drop 2).take 16 = cellsB p.nonce) := by show _ = _; rw [pktC_nonce ok2, hp2, hp1]
  have HE2 : Hid ((pktC p2)[1]? = some (.int .u32 (p.epoch : Int))) := by show _ = _; rw [hp2, hp1]; rfl
  have HF1 := hide (pktC_fits ok1)
  have HL1 := hide (pktC_length ok1)
  have HL2 := hide (pktC_length ok2)
  have HS := hide (slotC_length (peelS key p2) (peelS_ok key ok2).nonce (peelS_ok key ok2).mac)
  have HQ := hide (pktC_length (peelP_ok key ok2))
  have HMc := hide (cl hml)
  have HTc := hide (cl htl)
  have hEM := hide (fun w => eq_bytes 9998 underM mc mc hml hml w)
  have hET := hide (fun w => eq_bytes 9998 underT (tagO key p.epoch p.nonce) (tagO key p.epoch p.nonce) htl htl w)
  have hb1 : (mc == mc) = true := by simp
  have hb2 : (tagO key p.epoch p.nonce == tagO key p.epoch p.nonce) = true := by simp
  rw [hb1] at hEM
  rw [hb2] at hET
  clear hb1 hb2 htl
  generalize peelE key p2 = E at *
  generalize peelS key p2 = S0 at *
  generalize peelP key p2 = Q0 at *
  generalize tagO key p.epoch p.nonce = tg at *
  have hE2 : (E == 4) = false := by simpa using hE
  have hE3 : (E != 4) = true := by simpa using hE
  clear hmc hp1 hp2 hm1 hm2 ok1 ok2 hml hT hk hp hm
  go_enter Tryd.func5, Tryd.ntmps5
  go_wp2_with (first
    | (with_reducible refine at_op (op := ⟨some 3, _, _, _, _, _⟩) ?_; (refine wpl_boxa (op := ⟨some 3, _, _, _, _, _⟩) rfl _ _ rfl (cellsB key) rfl ?_); intro g3 W3 hB1 hg1 hF1; replace H := hide (H.out.box hg1 hF1 hB1); clear hB1 hg1 hF1)
    | (with_reducible refine at_op (op := ⟨some 4, _, _, _, _, _⟩) ?_; (refine wpl_boxa (op := ⟨some 4, _, _, _, _, _⟩) rfl _ _ rfl (pktC p) rfl ?_); intro g4 W4 hB1 hg1 hF1; replace H := hide (H.out.box hg1 hF1 hB1); clear hB1 hg1 hF1)
    | (with_reducible refine at_op (op := ⟨some 5, _, _, _, _, _⟩) ?_; (refine wpl_boxa (op := ⟨some 5, _, _, _, _, _⟩) rfl _ _ rfl (cellsB mac) rfl ?_); intro g5 W5 hB1 hg1 hF1; replace H := hide (H.out.box hg1 hF1 hB1); clear hB1 hg1 hF1)
    | (go_at_call 8; with_reducible refine (HSH.out _ H.out.tb).mono ?_; rintro e W6 ⟨rfl, hbc⟩; replace H := hide (H.out.call hbc); clear hbc)
    | (with_reducible refine at_op (op := ⟨some 15, _, _, _, _, _⟩) ?_; refine wpl_held (op := ⟨some 15, _, _, _, _, _⟩) (.agg (cellsB key).toArray) (held_loadf aggK _ rfl g3 rfl _ (cellsB key) (H.out.get 0 rfl) HKc.out) rfl ?_)
    | (with_reducible refine at_op (op := ⟨some 16, _, _, _, _, _⟩) ?_; refine wpl_held (op := ⟨some 16, _, _, _, _, _⟩) (.agg (pktC p).toArray) (held_loadf aggP _ rfl g4 rfl _ (pktC p) (H.out.get 1 rfl) HPL.out) rfl ?_)
    | (go_at_call 13; with_reducible refine (HM0.out _ H.out.tb).mono ?_; rintro e W7 ⟨rfl, hbc⟩; replace H := hide (H.out.call hbc); clear hbc)
    | (with_reducible refine at_op (op := ⟨some 8, _, _, _, _, _⟩) ?_; (with_reducible refine wpl_alloca (op := ⟨some 8, _, _, _, _, _⟩) rfl _ rfl _ zeroM ?_); intro g8 V8 hB1 hg1 hF1; go_simp; (with_reducible refine wpl_storea aggM rfl (.tmp 8) (.tmp 17) rfl g8 (cellsB mc) rfl rfl _ _ hB1 HMc.out Z16_len (cellsB_one _) ?_); intro W8 hB2 hF2; replace H := hide (H.out.var hg1 hF1 hF2 hB2); clear hB1 hg1 hF1 hB2 hF2)
    | (with_reducible refine at_op (op := ⟨some 18, _, _, _, _, _⟩) ?_; refine wpl_held (op := ⟨some 18, _, _, _, _, _⟩) (.agg (cellsB key).toArray) (held_loadf aggK _ rfl g3 rfl _ (cellsB key) (H.out.get 0 rfl) HKc.out) rfl ?_)
    | (with_reducible refine at_op (op := ⟨some 20, _, _, _, _, _⟩) ?_; refine wpl_held (op := ⟨some 20, _, _, _, _, _⟩) (.int .u32 (p.epoch : Int)) (held_load1 Tryd.underlying30 rfl one32 _ rfl g4 1 rfl _ _ (.int .u32 (p.epoch : Int)) (H.out.get 1 rfl) rfl) rfl ?_)
    | (with_reducible refine at_op (op := ⟨some 22, _, _, _, _, _⟩) ?_; refine wpl_held (op := ⟨some 22, _, _, _, _, _⟩) (.agg (cellsB p.nonce).toArray) (held_loada aggN _ rfl g4 2 rfl _ (pktC p) (cellsB p.nonce) (H.out.get 1 rfl) HPN.out (by rw [HPL.out]; decide)) rfl ?_)
    | (go_at_call 14; with_reducible refine (HTG.out _ H.out.tb).mono ?_; rintro e W9 ⟨rfl, hbc⟩; replace H := hide (H.out.call hbc); clear hbc)
    | (with_reducible refine at_op (op := ⟨some 9, _, _, _, _, _⟩) ?_; (with_reducible refine wpl_alloca (op := ⟨some 9, _, _, _, _, _⟩) rfl _ rfl _ zeroT ?_); intro g9 V9 hB1 hg1 hF1; go_simp; (with_reducible refine wpl_storea aggT rfl (.tmp 9) (.tmp 23) rfl g9 (cellsB tg) rfl rfl _ _ hB1 HTc.out Z16_len (cellsB_one _) ?_); intro W10 hB2 hF2; replace H := hide (H.out.var hg1 hF1 hF2 hB2); clear hB1 hg1 hF1 hB2 hF2)
    | (with_reducible refine at_op (op := ⟨some 24, _, _, _, _, _⟩) ?_; refine wpl_held (op := ⟨some 24, _, _, _, _, _⟩) (.agg (cellsB mac).toArray) (held_loadf aggM _ rfl g5 rfl _ (cellsB mac) (H.out.get 2 rfl) HMc0.out) rfl ?_)
    | (with_reducible refine at_op (op := ⟨none, .store _ (.tmp 25) (.tmp 24), _, _, _, _⟩) ?_; (with_reducible refine wpl_storem aggM rfl (.tmp 25) (.tmp 24) rfl g4 18 (cellsB mac) (pktC p) (pktC p1) rfl rfl _ (H.out.get 1 rfl) HMc0.out HF0.out.2.1 HX1.out (cellsB_one _) ?_); intro W11 hB1 hF1; replace H := hide (H.out.store 1 rfl hF1 hB1); clear hB1 hF1)
    | (with_reducible refine at_op (op := ⟨some 26, _, _, _, _, _⟩) ?_; refine wpl_held (op := ⟨some 26, _, _, _, _, _⟩) (.agg (cellsB key).toArray) (held_loadf aggK _ rfl g3 rfl _ (cellsB key) (H.out.get 0 rfl) HKc.out) rfl ?_)
    | (with_reducible refine at_op (op := ⟨some 27, _, _, _, _, _⟩) ?_; refine wpl_held (op := ⟨some 27, _, _, _, _, _⟩) (.agg (pktC p1).toArray) (held_loadf aggP _ rfl g4 rfl _ (pktC p1) (H.out.get 1 rfl) HL1.out) rfl ?_)
    | (go_at_call 13; with_reducible refine (HM1.out _ H.out.tb).mono ?_; rintro e W12 ⟨rfl, hbc⟩; replace H := hide (H.out.call hbc); clear hbc)
    | (with_reducible refine at_op (op := ⟨some 10, _, _, _, _, _⟩) ?_; (with_reducible refine wpl_alloca (op := ⟨some 10, _, _, _, _, _⟩) rfl _ rfl _ zeroM ?_); intro g10 V10 hB1 hg1 hF1; go_simp; (with_reducible refine wpl_storea aggM rfl (.tmp 10) (.tmp 28) rfl g10 (cellsB mc) rfl rfl _ _ hB1 HMc.out Z16_len (cellsB_one _) ?_); intro W13 hB2 hF2; replace H := hide (H.out.var hg1 hF1 hF2 hB2); clear hB1 hg1 hF1 hB2 hF2)
    | (with_reducible refine at_op (op := ⟨some 29, _, _, _, _, _⟩) ?_; refine wpl_held (op := ⟨some 29, _, _, _, _, _⟩) (.agg (cellsB mc).toArray) (held_loadf aggM _ rfl g10 rfl _ (cellsB mc) (H.out.get 5 rfl) HMc.out) rfl ?_)
    | (with_reducible refine at_op (op := ⟨none, .store _ (.tmp 30) (.tmp 29), _, _, _, _⟩) ?_; (with_reducible refine wpl_storem aggM rfl (.tmp 30) (.tmp 29) rfl g4 18 (cellsB mc) (pktC p1) (pktC p2) rfl rfl _ (H.out.get 1 rfl) HMc.out HF1.out.2.1 HX2.out (cellsB_one _) ?_); intro W14 hB1 hF1; replace H := hide (H.out.store 1 rfl hF1 hB1); clear hB1 hF1)
    | (with_reducible refine at_op (op := ⟨some 32, _, _, _, _, _⟩) ?_; refine wpl_held (op := ⟨some 32, _, _, _, _, _⟩) (.agg (cellsB key).toArray) (held_loadf aggK _ rfl g3 rfl _ (cellsB key) (H.out.get 0 rfl) HKc.out) rfl ?_)
    | (with_reducible refine at_op (op := ⟨some 33, _, _, _, _, _⟩) ?_; refine wpl_held (op := ⟨some 33, _, _, _, _, _⟩) (.agg (pktC p2).toArray) (held_loadf aggP _ rfl g4 rfl _ (pktC p2) (H.out.get 1 rfl) HL2.out) rfl ?_)
    | (go_at_call 10; with_reducible refine (HPE.out _ H.out.tb).mono ?_; rintro e W15 ⟨rfl, hbc⟩; replace H := hide (H.out.call hbc); clear hbc)
    | (with_reducible refine at_op (op := ⟨some 11, _, _, _, _, _⟩) ?_; (with_reducible refine wpl_alloca (op := ⟨some 11, _, _, _, _, _⟩) rfl _ rfl _ zeroS ?_); intro g11 W16 hB1 hg1 hF1; replace H := hide (H.out.box hg1 hF1 hB1); clear hB1 hg1 hF1)
    | (with_reducible refine at_op (op := ⟨some 12, _, _, _, _, _⟩) ?_; (with_reducible refine wpl_alloca (op := ⟨some 12, _, _, _, _, _⟩) rfl _ rfl _ zeroP ?_); intro g12 W17 hB1 hg1 hF1; replace H := hide (H.out.box hg1 hF1 hB1); clear hB1 hg1 hF1)
    | (with_reducible refine at_op (op := ⟨none, .store _ (.tmp 11) (.tmp 35), _, _, _, _⟩) ?_; (with_reducible refine wpl_storea aggS rfl (.tmp 11) (.tmp 35) rfl g11 (slotC S0) rfl rfl _ _ (H.out.get 6 rfl) HS.out (slot0_len) (slotC_one _) ?_); intro W18 hB1 hF1; replace H := hide (H.out.store 6 rfl hF1 hB1); clear hB1 hF1)
    | (with_reducible refine at_op (op := ⟨none, .store _ (.tmp 12) (.tmp 36), _, _, _, _⟩) ?_; (with_reducible refine wpl_storea aggP rfl (.tmp 12) (.tmp 36) rfl g12 (pktC Q0) rfl rfl _ _ (H.out.get 7 rfl) HQ.out (pkt0_len) (pktC_one _) ?_); intro W19 hB1 hF1; replace H := hide (H.out.store 7 rfl hF1 hB1); clear hB1 hF1))
  obtain ⟨N, hN⟩ : ∃ N, N = W19.heap.size := ⟨_, rfl⟩
  have hq : Below N W19 W19 := hN ▸ Below.refl _ _
  have HA := hide (fun W' (h : Below N W19 W') => H.out.call (hN ▸ h))
  have HC := hide (fun W' (h : Below N W19 W') W'' (k : Below W'.heap.size W' W'') => h.trans (k.mono (by rw [hN]; exact h.size)))
  have hqt : ∀ W', Below N W19 W' → Calls Tryd.prog 14 #[.agg (cellsB key).toArray, .int .u32 (p.epoch : Int), .agg (cellsB p.nonce).toArray] W' (fun e w'' => e = .returned (.agg (cellsB tg).toArray) ∧ Below N W19 w'') := fun W' h => (HTG.out W' (HA.out W' h).tb).mono (fun e w'' ⟨he, hb⟩ => ⟨he, HC.out W' h w'' hb⟩)
  clear hN
  refine wp_region_class (fun W' => Below N W19 W') (by kernel_rfl) (by kernel_rfl) (below_drewN hq 1) ?_
  with_reducible refine wpQuiet_step ?_
  intro K hK
  go_simp
  first | (refine hK _ ?_; clear hK K) | (refine ⟨_, fun w' hw' => rfl, hK _ ?_⟩; clear hK K)
  with_reducible refine wpQuiet_step ?_
  intro K hK
  go_simp
  first | (refine hK _ ?_; clear hK K) | (refine ⟨_, fun w' hw' => rfl, hK _ ?_⟩; clear hK K)
  with_reducible refine wpQuiet_step ?_
  intro K hK
  refine quiet_val (.agg (cellsB mc).toArray) (fun w' hw' => held_loadf aggM _ rfl g8 rfl _ (cellsB mc) ((HA.out w' hw').get 3 rfl) HMc.out) ?_ rfl
  go_simp
  refine hK _ ?_
  clear hK K
  with_reducible refine wpQuiet_step ?_
  intro K hK
  refine quiet_val (.agg (cellsB mc).toArray) (fun w' hw' => held_loadf aggM _ rfl g10 rfl _ (cellsB mc) ((HA.out w' hw').get 5 rfl) HMc.out) ?_ rfl
  go_simp
  refine hK _ ?_
  clear hK K
  with_reducible refine wpQuiet_step ?_
  intro K hK
  refine quiet_val (.bool true) (fun w' hw' => held_eql _ _ _ _ rfl (cellsB mc) (cellsB mc) rfl rfl (true) (hEM.out w') Tryd.eqGuardType36) ?_ rfl
  go_simp
  refine hK _ ?_
  clear hK K
  with_reducible refine wpQuiet_step ?_
  intro K hK
  go_simp
  first | (refine hK _ ?_; clear hK K) | (refine ⟨_, fun w' hw' => rfl, hK _ ?_⟩; clear hK K)
  with_reducible refine wpQuiet_step ?_
  intro K hK
  go_simp
  first | (refine hK _ ?_; clear hK K) | (refine ⟨_, fun w' hw' => rfl, hK _ ?_⟩; clear hK K)
  with_reducible refine wpQuiet_step ?_
  intro K hK
  go_simp
  first | (refine hK _ ?_; clear hK K) | (refine ⟨_, fun w' hw' => rfl, hK _ ?_⟩; clear hK K)
  with_reducible refine wpQuiet_step ?_
  intro K hK
  go_simp
  first | (refine hK _ ?_; clear hK K) | (refine ⟨_, fun w' hw' => rfl, hK _ ?_⟩; clear hK K)
  with_reducible refine wpQuiet_step ?_
  intro K hK
  go_simp
  first | (refine hK _ ?_; clear hK K) | (refine ⟨_, fun w' hw' => rfl, hK _ ?_⟩; clear hK K)
  with_reducible refine wpQuiet_step ?_
  intro K hK
  go_simp
  first | (refine hK _ ?_; clear hK K) | (refine ⟨_, fun w' hw' => rfl, hK _ ?_⟩; clear hK K)
  with_reducible refine wpQuiet_step ?_
  intro K hK
  refine quiet_val (.agg (cellsB tg).toArray) (fun w' hw' => held_loadf aggT _ rfl g9 rfl _ (cellsB tg) ((HA.out w' hw').get 4 rfl) HTc.out) ?_ rfl
  go_simp
  refine hK _ ?_
  clear hK K
  with_reducible refine wpQuiet_step ?_
  intro K hK
  refine quiet_val (.agg (cellsB key).toArray) (fun w' hw' => held_loadf aggK _ rfl g3 rfl _ (cellsB key) ((HA.out w' hw').get 0 rfl) HKc.out) ?_ rfl
  go_simp
  refine hK _ ?_
  clear hK K
  with_reducible refine wpQuiet_step ?_
  intro K hK
  go_simp
  first | (refine hK _ ?_; clear hK K) | (refine ⟨_, fun w' hw' => rfl, hK _ ?_⟩; clear hK K)
  with_reducible refine wpQuiet_step ?_
  intro K hK
  refine quiet_val (.int .u32 (p.epoch : Int)) (fun w' hw' => held_load1 Tryd.underlying30 rfl one32 _ rfl g4 1 rfl _ _ (.int .u32 (p.epoch : Int)) ((HA.out w' hw').get 1 rfl) HE2.out) ?_ rfl
  go_simp
  refine hK _ ?_
  clear hK K
  with_reducible refine wpQuiet_step ?_
  intro K hK
  go_simp
  first | (refine hK _ ?_; clear hK K) | (refine ⟨_, fun w' hw' => rfl, hK _ ?_⟩; clear hK K)
  with_reducible refine wpQuiet_step ?_
  intro K hK
  refine quiet_val (.agg (cellsB p.nonce).toArray) (fun w' hw' => held_loada aggN _ rfl g4 2 rfl _ (pktC p2) (cellsB p.nonce) ((HA.out w' hw').get 1 rfl) HN2.out (by rw [HL2.out]; decide)) ?_ rfl
  go_simp
  refine hK _ ?_
  clear hK K
  with_reducible refine wpQuiet_step ?_
  intro K hK
  go_simp
  refine ⟨_, hqt, hK _ ?_⟩
  clear hK K
  with_reducible refine wpQuiet_step ?_
  intro K hK
  refine quiet_val (.bool true) (fun w' hw' => held_eql _ _ _ _ rfl (cellsB tg) (cellsB tg) rfl rfl (true) (hET.out w') Tryd.eqGuardType56) ?_ rfl
  go_simp
  refine hK _ ?_
  clear hK K
  with_reducible refine wpQuiet_step ?_
  intro K hK
  go_simp
  first | (refine hK _ ?_; clear hK K) | (refine ⟨_, fun w' hw' => rfl, hK _ ?_⟩; clear hK K)
  with_reducible refine wpQuiet_step ?_
  intro K hK
  go_simp
  first | (refine hK _ ?_; clear hK K) | (refine ⟨_, fun w' hw' => rfl, hK _ ?_⟩; clear hK K)
  refine wpQuiet_nil ?_
  clear hq
  intro wq hwq
  replace H := hide (HA.out wq hwq)
  clear HA HC hwq
  go_wp2_with fail
  go_ret
  exact ⟨rfl, H.out.bel⟩
end Go.Proofs.YtoiiiflnnhkjbaaDoor
