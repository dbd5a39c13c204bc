/-
  The document's Peel.
-/
import Derived.Test.YtoiiiflnnhkjbaaGreatDoorHp
import Derived.Test.YtoiiiflnnhkjbaaGreatDoorOnU2
import Derived.Test.YtoiiiflnnhkjbaaGreatDoorOm2
import Derived.Test.YtoiiiflnnhkjbaaGreatDoorORE
import Derived.Test.YtoiiiflnnhkjbaaGreatDoorOnE
import Derived.Test.YtoiiiflnnhkjbaaGreatDoorOnG
namespace Go.Proofs.YtoiiiflnnhkjbaaGreatDoor
set_option linter.unusedVariables false
set_option linter.unusedSimpArgs false
open Go.RowKit

theorem rz_len : rz.toArray.size = 6 := rfl
theorem rz_c : rz.length = 6 := rfl
theorem rz_one : ∀ u ∈ rz, u.oneCell' = true := by
  intro u hu
  simp only [rz, List.replicate, List.mem_cons, List.not_mem_nil, or_false] at hu
  rcases hu with rfl | rfl | rfl | rfl | rfl | rfl <;> rfl
theorem build_rz (w : World) : Sem.run Tryz.prog (Instr.build 41 #[]) w = .ok (.agg rz.toArray) w := run_build w _ _ _ (by kernel_rfl)
theorem txt_eqU (l m : List UInt8) : ((⟨l.toArray⟩ : ByteArray).toList == (⟨m.toArray⟩ : ByteArray).toList) = (l == m) := by
  rw [ByteArray.toList_eq, ByteArray.toList_eq]
/-- What the document tells of the inner packet. -/
def rpeelC (key : List UInt8) (p : Pkt) : List Value := if peelE key p = 0 then rpktC (peelP key p) else rz

set_option maxHeartbeats 16000000 in
set_option maxRecDepth 100000 in
theorem rpeel_any (key : List UInt8) (p : Pkt) (w : World) (hT : Tb w) (hk : key.length ≤ 100000) (hp : p.ok) :
    Calls Tryz.prog 10 #[.string ⟨key.toArray⟩, .agg (rpktC p).toArray] w fun e w' => e = .returned (.tuple #[.agg (slotC (peelS key p)).toArray, .agg (rpeelC key p).toArray, .int .i64 (peelE key p)]) ∧ Below w.heap.size w w' := by
  have H := hide (OAt.start hT)
  have HG : Hid (goodP key p = (macO key p == p.mac)) := rfl
  have HPS : Hid (peelS key p = if goodP key p = true then ansM ((shownL key p).take 64) else slot0) := rfl
  have HPE : Hid (peelE key p = if goodP key p = true then errD ((shownL key p).take 64) else 4) := rfl
  have HPP : Hid (peelP key p = if goodP key p = true then (if okB ((shownL key p).take 64) = true then nextP key p (ansM ((shownL key p).take 64)) else pkt0) else pkt0) := rfl
  have HRC : Hid (rpeelC key p = if peelE key p = 0 then rpktC (peelP key p) else rz) := rfl
  have HNX : Hid (∀ s, nextP key p s = ⟨s.who, s.epoch, s.nonce, s.mac, (shownL key p).drop 64, xorB p.body (bodyS key p.epoch p.nonce)⟩) := fun _ => rfl
  have HSO := hide (peelS_ok key hp)
  have HSH := hide (shownL_length key hp.head)
  obtain ⟨sk, hsk⟩ : ∃ s : ByteArray, s = ⟨key.toArray⟩ := ⟨_, rfl⟩
  obtain ⟨sw, hsw⟩ : ∃ s : ByteArray, s = ⟨(be 2 p.who).toArray⟩ := ⟨_, rfl⟩
  obtain ⟨se, hse⟩ : ∃ s : ByteArray, s = ⟨(be 4 p.epoch).toArray⟩ := ⟨_, rfl⟩
  obtain ⟨sn, hsn⟩ : ∃ s : ByteArray, s = ⟨p.nonce.toArray⟩ := ⟨_, rfl⟩
  obtain ⟨sm, hsm⟩ : ∃ s : ByteArray, s = ⟨p.mac.toArray⟩ := ⟨_, rfl⟩
  obtain ⟨sh, hsh⟩ : ∃ s : ByteArray, s = ⟨p.head.toArray⟩ := ⟨_, rfl⟩
  obtain ⟨sb, hsb⟩ : ∃ s : ByteArray, s = ⟨p.body.toArray⟩ := ⟨_, rfl⟩
  obtain ⟨so, hso⟩ : ∃ s : ByteArray, s = ⟨(macO key p).toArray⟩ := ⟨_, rfl⟩
  obtain ⟨sz, hsz⟩ : ∃ s : ByteArray, s = ⟨(zeros 64).toArray⟩ := ⟨_, rfl⟩
  obtain ⟨s1, hs1⟩ : ∃ s : ByteArray, s = ⟨(p.head ++ zeros 64).toArray⟩ := ⟨_, rfl⟩
  obtain ⟨ss, hss⟩ : ∃ s : ByteArray, s = ⟨(headS key p.epoch p.nonce).toArray⟩ := ⟨_, rfl⟩
  obtain ⟨sa, hsa⟩ : ∃ s : ByteArray, s = ⟨(shownL key p).toArray⟩ := ⟨_, rfl⟩
  obtain ⟨s64, hs64⟩ : ∃ s : ByteArray, s = ⟨((shownL key p).take 64).toArray⟩ := ⟨_, rfl⟩
  obtain ⟨s320, hs320⟩ : ∃ s : ByteArray, s = ⟨((shownL key p).drop 64).toArray⟩ := ⟨_, rfl⟩
  obtain ⟨sbs, hsbs⟩ : ∃ s : ByteArray, s = ⟨(bodyS key p.epoch p.nonce).toArray⟩ := ⟨_, rfl⟩
  obtain ⟨snb, hsnb⟩ : ∃ s : ByteArray, s = ⟨(xorB p.body (bodyS key p.epoch p.nonce)).toArray⟩ := ⟨_, rfl⟩
  have hcmp : (sm.toList == so.toList) = goodP key p := by rw [hsm, hso, txt_eqU, HG.out, Bool.eq_iff_iff, beq_iff_eq, beq_iff_eq]; exact eq_comm
  have hcm2 : (sm = so) ↔ goodP key p = true := by
    rw [← hcmp, beq_iff_eq]
    exact ⟨fun h => by rw [h], fun h => ByteArray.ext (by rw [ByteArray.toList_eq, ByteArray.toList_eq] at h; exact Array.ext' h)⟩
  have a1 : sh ++ sz = s1 := by rw [hsh, hsz, hs1, txt_append]
  have zh : sh.size = 320 := by rw [hsh, txt_size, hp.head]
  have zz : sz.size = 64 := by rw [hsz, txt_size, zeros_length]
  have za : sa.size = 384 := by rw [hsa, txt_size, HSH.out]
  have ex1 : sa.extract 0 64 = s64 := by rw [hsa, hs64, extract_mk, List.drop_zero]
  have ex2 : sa.extract 64 384 = s320 := by rw [hsa, hs320, extract_mk, List.take_of_length_le (by rw [List.length_drop, HSH.out]; exact Nat.le_refl _)]
  have HMC : Hid (∀ W, Tb W → Calls Tryz.prog 14 #[.string sk, .agg (rpktC p).toArray] W fun e w' => e = .returned (.string so) ∧ Below W.heap.size W w') := fun W h => by
    rw [hsk, hso]
    exact rmac11_any key p W h hk hp
  have HN64 : Hid (∀ W : World, Tb W → Calls Tryz.prog 20 #[.int .i64 64] W fun e w' => e = .returned (.string sz) ∧ Below W.heap.size W w') := fun W _ => by
    rw [hsz]
    exact noughts_any 64 W (by decide) (by decide)
  have HHS : Hid (∀ W : World, Tb W → Calls Tryz.prog 21 #[.string sk, .string se, .string sn] W fun e w' => e = .returned (.string ss) ∧ Below W.heap.size W w') := fun W _ => by
    rw [hsk, hse, hsn, hss]
    exact rhead11_any key p.epoch p.nonce W hk hp.nonce
  have HX1 : Hid (∀ W : World, Tb W → Calls Tryz.prog 22 #[.string s1, .string ss] W fun e w' => e = .returned (.string sa) ∧ Below W.heap.size W w') := fun W _ => by
    rw [hs1, hss, hsa]
    exact rxor11_any (p.head ++ zeros 64) (headS key p.epoch p.nonce) W (by rw [List.length_append, hp.head, zeros_length]; decide) (by rw [List.length_append, hp.head, zeros_length, headS_length]; decide)
  have hl64 : ((shownL key p).take 64).length = 64 := by rw [List.length_take, HSH.out]; rfl
  have HRD : Hid (∀ W : World, Calls Tryz.prog 32 #[.string s64] W fun e w' => e = .returned (.tuple #[.agg (slotC (ansM ((shownL key p).take 64))).toArray, .int .i64 (errD ((shownL key p).take 64))]) ∧ Below W.heap.size W w') := fun W => by
    rw [hs64]
    exact readref_any _ hl64 W
  have HBS : Hid (∀ W : World, Tb W → Calls Tryz.prog 25 #[.string sk, .string se, .string sn] W fun e w' => e = .returned (.string sbs) ∧ Below W.heap.size W w') := fun W _ => by
    rw [hsk, hse, hsn, hsbs]
    exact rbody11_any key p.epoch p.nonce W hk hp.nonce
  have HX2 : Hid (∀ W : World, Tb W → Calls Tryz.prog 22 #[.string sb, .string sbs] W fun e w' => e = .returned (.string snb) ∧ Below W.heap.size W w') := fun W _ => by
    rw [hsb, hsbs, hsnb]
    exact rxor11_any p.body (bodyS key p.epoch p.nonce) W (by rw [hp.body]; decide) (by rw [hp.body, bodyS_length]; decide)
  have HNXT : Hid (∀ s : Slot, rpktC (nextP key p s) = [.string ⟨(be 2 s.who).toArray⟩, .string ⟨(be 4 s.epoch).toArray⟩, .string ⟨s.nonce.toArray⟩, .string ⟨s.mac.toArray⟩, .string s320, .string snb]) := fun s => by rw [hs320, hsnb]; rfl
  obtain ⟨rc, hrc⟩ : ∃ c, c = rpktC p := ⟨_, rfl⟩
  have hrc2 : rc = [.string sw, .string se, .string sn, .string sm, .string sh, .string sb] := by rw [hrc, hsw, hse, hsn, hsm, hsh, hsb]; rfl
  rw [← hrc] at HMC
  rw [← hsk, ← hrc]
  have c1 : Hid (rc[1]? = some (.string se)) := by show _ = _; rw [hrc2]; rfl
  have c2 : Hid (rc[2]? = some (.string sn)) := by show _ = _; rw [hrc2]; rfl
  have c3 : Hid (rc[3]? = some (.string sm)) := by show _ = _; rw [hrc2]; rfl
  have c4 : Hid (rc[4]? = some (.string sh)) := by show _ = _; rw [hrc2]; rfl
  have c5 : Hid (rc[5]? = some (.string sb)) := by show _ = _; rw [hrc2]; rfl
  have HRL : Hid (rc.length = 6) := by show _ = _; rw [hrc2]; rfl
  clear hrc hrc2 hsk hsw hse hsn hsm hsh hsb hso hsz hs1 hss hsa hs64 hs320 hsbs hsnb hk HG
  have hz64 : ((shownL key p).take 64).length = 64 := hl64
  have HAO := hide (ansM_ok hl64)
  generalize hPS : peelS key p = PS at *
  generalize hPE : peelE key p = PE at *
  generalize peelP key p = PP at *
  generalize nextP key p = NX at *
  generalize rpeelC key p = RC at *
  generalize goodP key p = G at *
  generalize (shownL key p).take 64 = b64 at *
  clear hT hp hl64 hz64 hPS hPE HNX HSH
  go_enter Tryz.func10, Tryz.ntmps10
  cases G
  · have h1 : PS = slot0 := by rw [HPS.out]; rfl
    have h3 : PE = 4 := by rw [HPE.out]; rfl
    have h2 : RC = rz := by rw [HRC.out, h3]; rfl
    subst h1 h2 h3
    have hb1 := build_slot0
    have hb2 := build_rz
    have hcn : ¬ sm = so := by rw [hcm2]; decide
    clear hcm2
    go_wp2_with (first
      | (with_reducible refine at_op (op := ⟨some 3, _, _, _, _, _⟩) ?_; (refine wpl_boxa (op := ⟨some 3, _, _, _, _, _⟩) rfl _ _ rfl (rc) rfl ?_); intro g3 W1 hB1 hg1 hF1; replace H := hide (H.out.box hg1 hF1 hB1); clear hB1 hg1 hF1)
      | (with_reducible refine at_op (op := ⟨some 4, _, _, _, _, _⟩) ?_; (with_reducible refine wpl_alloca (op := ⟨some 4, _, _, _, _, _⟩) rfl _ rfl _ zeroS ?_); intro g4 W2 hB1 hg1 hF1; replace H := hide (H.out.box hg1 hF1 hB1); clear hB1 hg1 hF1)
      | (with_reducible refine at_op (op := ⟨some 5, _, _, _, _, _⟩) ?_; (with_reducible refine wpl_alloca (op := ⟨some 5, _, _, _, _, _⟩) rfl _ rfl _ zeroR ?_); intro g5 W3 hB1 hg1 hF1; replace H := hide (H.out.box hg1 hF1 hB1); clear hB1 hg1 hF1))
    obtain ⟨N, hN⟩ : ∃ N, N = W3.heap.size := ⟨_, rfl⟩
    have hq : Below N W3 W3 := hN ▸ Below.refl _ _
    have HA := hide (fun W' (h : Below N W3 W') => H.out.call (hN ▸ h))
    have HC := hide (fun W' (h : Below N W3 W') W'' (k : Below W'.heap.size W' W'') => h.trans (k.mono (by rw [hN]; exact h.size)))
    have hqm : ∀ W', Below N W3 W' → Calls Tryz.prog 14 #[.string sk, .agg rc.toArray] W' (fun e w'' => e = .returned (.string so) ∧ Below N W3 w'') := fun W' h => (HMC.out W' (HA.out W' h).tb).mono (fun e w'' ⟨he, hb⟩ => ⟨he, HC.out W' h w'' hb⟩)
    clear hN
    refine wp_region_class (fun W' => Below N W3 W') (by kernel_rfl) (by kernel_rfl) (below_drewN hq 1) ?_
    with_reducible refine wpQuiet_step ?_; intro K hK; go_simp; first | (refine hK _ ?_; clear hK K) | (refine ⟨_, fun w' hw' => rfl, hK _ ?_⟩; clear hK K)
    with_reducible refine wpQuiet_step ?_
    intro K hK
    refine quiet_val (.string sm) (fun w' hw' => held_load1 Tryz.underlying9 rfl oneStr _ rfl g3 3 rfl _ _ (.string sm) ((HA.out w' hw').get 0 rfl) c3.out) ?_ rfl
    go_simp
    refine hK _ ?_
    clear hK K
    with_reducible refine wpQuiet_step ?_; intro K hK; go_simp; first | (refine hK _ ?_; clear hK K) | (refine ⟨_, fun w' hw' => rfl, hK _ ?_⟩; clear hK K)
    with_reducible refine wpQuiet_step ?_
    intro K hK
    refine quiet_val (.agg (rc).toArray) (fun w' hw' => held_loadf aggR _ rfl g3 rfl _ (rc) ((HA.out w' hw').get 0 rfl) HRL.out) ?_ rfl
    go_simp
    refine hK _ ?_
    clear hK K
    with_reducible refine wpQuiet_step ?_
    intro K hK
    go_simp
    refine ⟨_, hqm, hK _ ?_⟩
    clear hK K
    with_reducible refine wpQuiet_step ?_; intro K hK; go_simp; first | (refine hK _ ?_; clear hK K) | (refine ⟨_, fun w' hw' => rfl, hK _ ?_⟩; clear hK K)
    refine wpQuiet_nil ?_
    clear hq
    intro wq hwq
    replace H := hide (HA.out wq hwq)
    clear HA HC hwq
    go_wp2_with (first
      | (with_reducible refine at_op (op := ⟨some 17, _, _, _, _, _⟩) ?_; refine wpl_held (op := ⟨some 17, _, _, _, _, _⟩) (.agg (slotC slot0).toArray) (held_build _ _ rfl _ _ (hb1 _) rfl) rfl ?_)
      | (with_reducible refine at_op (op := ⟨some 18, _, _, _, _, _⟩) ?_; refine wpl_held (op := ⟨some 18, _, _, _, _, _⟩) (.agg (rz).toArray) (held_build _ _ rfl _ _ (hb2 _) rfl) rfl ?_)
      | (with_reducible refine at_op (op := ⟨none, .store _ (.tmp 4) (.tmp 17), _, _, _, _⟩) ?_; (with_reducible refine wpl_storea aggS rfl (.tmp 4) (.tmp 17) rfl g4 (slotC slot0) rfl rfl _ _ (H.out.get 1 rfl) slot0_c (slot0_len) (slotC_one _) ?_); intro W10 hB1 hF1; replace H := hide (H.out.store 1 rfl hF1 hB1); clear hB1 hF1)
      | (with_reducible refine at_op (op := ⟨none, .store _ (.tmp 5) (.tmp 18), _, _, _, _⟩) ?_; (with_reducible refine wpl_storea aggR rfl (.tmp 5) (.tmp 18) rfl g5 (rz) rfl rfl _ _ (H.out.get 2 rfl) rz_c (rz_len) rz_one ?_); intro W11 hB1 hF1; replace H := hide (H.out.store 2 rfl hF1 hB1); clear hB1 hF1))
    refine bodyPost_ret (results_cct aggS aggR rfl _ _ g4 g5 _ _ _ _ rfl (H.out.get 1 rfl) slot0_c rfl (H.out.get 2 rfl) rz_c) rfl ⟨rfl, H.out.bel⟩
  · have HEN : Hid (PE = errD b64) := HPE.out
    have HSN : Hid (PS = ansM b64) := HPS.out
    have HPN2 : Hid (PP = if okB b64 = true then NX (ansM b64) else pkt0) := HPP.out
    have hce : sm = so := hcm2.2 rfl
    clear HPE HPS HPP hcm2
    subst hce
    cases hO : okB b64
    · have hpp : PP = pkt0 := by rw [HPN2.out, hO]; rfl
      have her : errD b64 = 3 := by unfold errD; rw [hO]; rfl
      have han : ansM b64 = slot0 := by unfold ansM; rw [hO]; rfl
      have hpe : PE = 3 := by rw [HEN.out, her]
      have hps : PS = slot0 := by rw [HSN.out, han]
      have hrc : RC = rz := by rw [HRC.out, hpe]; rfl
      subst hpp hpe hps hrc
      clear HEN HSN HPN2 hO HAO
      rw [her, han] at HRD
      clear her han
      obtain ⟨AN, hAN⟩ : ∃ s, s = slot0 := ⟨_, rfl⟩
      have HAO : Hid (AN.ok) := by rw [hAN]; exact slot0_ok
      rw [← hAN] at HRD
      clear hAN
      have HAc := hide (slotC_length AN HAO.out.nonce HAO.out.mac)
      have hb1 := build_slot0
      have hb2 := build_rz
      go_wp2_with (first
        | (with_reducible refine at_op (op := ⟨some 3, _, _, _, _, _⟩) ?_; (refine wpl_boxa (op := ⟨some 3, _, _, _, _, _⟩) rfl _ _ rfl (rc) rfl ?_); intro g3 W1 hB1 hg1 hF1; replace H := hide (H.out.box hg1 hF1 hB1); clear hB1 hg1 hF1)
        | (with_reducible refine at_op (op := ⟨some 4, _, _, _, _, _⟩) ?_; (with_reducible refine wpl_alloca (op := ⟨some 4, _, _, _, _, _⟩) rfl _ rfl _ zeroS ?_); intro g4 W2 hB1 hg1 hF1; replace H := hide (H.out.box hg1 hF1 hB1); clear hB1 hg1 hF1)
        | (with_reducible refine at_op (op := ⟨some 5, _, _, _, _, _⟩) ?_; (with_reducible refine wpl_alloca (op := ⟨some 5, _, _, _, _, _⟩) rfl _ rfl _ zeroR ?_); intro g5 W3 hB1 hg1 hF1; replace H := hide (H.out.box hg1 hF1 hB1); clear hB1 hg1 hF1))
      obtain ⟨N, hN⟩ : ∃ N, N = W3.heap.size := ⟨_, rfl⟩
      have hq : Below N W3 W3 := hN ▸ Below.refl _ _
      have HA := hide (fun W' (h : Below N W3 W') => H.out.call (hN ▸ h))
      have HC := hide (fun W' (h : Below N W3 W') W'' (k : Below W'.heap.size W' W'') => h.trans (k.mono (by rw [hN]; exact h.size)))
      have hqm : ∀ W', Below N W3 W' → Calls Tryz.prog 14 #[.string sk, .agg rc.toArray] W' (fun e w'' => e = .returned (.string sm) ∧ Below N W3 w'') := fun W' h => (HMC.out W' (HA.out W' h).tb).mono (fun e w'' ⟨he, hb⟩ => ⟨he, HC.out W' h w'' hb⟩)
      clear hN
      refine wp_region_class (fun W' => Below N W3 W') (by kernel_rfl) (by kernel_rfl) (below_drewN hq 1) ?_
      with_reducible refine wpQuiet_step ?_; intro K hK; go_simp; first | (refine hK _ ?_; clear hK K) | (refine ⟨_, fun w' hw' => rfl, hK _ ?_⟩; clear hK K)
      with_reducible refine wpQuiet_step ?_
      intro K hK
      refine quiet_val (.string sm) (fun w' hw' => held_load1 Tryz.underlying9 rfl oneStr _ rfl g3 3 rfl _ _ (.string sm) ((HA.out w' hw').get 0 rfl) c3.out) ?_ rfl
      go_simp
      refine hK _ ?_
      clear hK K
      with_reducible refine wpQuiet_step ?_; intro K hK; go_simp; first | (refine hK _ ?_; clear hK K) | (refine ⟨_, fun w' hw' => rfl, hK _ ?_⟩; clear hK K)
      with_reducible refine wpQuiet_step ?_
      intro K hK
      refine quiet_val (.agg (rc).toArray) (fun w' hw' => held_loadf aggR _ rfl g3 rfl _ (rc) ((HA.out w' hw').get 0 rfl) HRL.out) ?_ rfl
      go_simp
      refine hK _ ?_
      clear hK K
      with_reducible refine wpQuiet_step ?_
      intro K hK
      go_simp
      refine ⟨_, hqm, hK _ ?_⟩
      clear hK K
      with_reducible refine wpQuiet_step ?_; intro K hK; go_simp; first | (refine hK _ ?_; clear hK K) | (refine ⟨_, fun w' hw' => rfl, hK _ ?_⟩; clear hK K)
      refine wpQuiet_nil ?_
      clear hq
      intro wq hwq
      replace H := hide (HA.out wq hwq)
      clear HA HC hwq
      go_wp2_with fail
      obtain ⟨WQ, hWQ⟩ : ∃ W, W = wq := ⟨_, rfl⟩
      rw [← hWQ] at H ⊢
      clear hWQ
      obtain ⟨N, hN⟩ : ∃ N, N = WQ.heap.size := ⟨_, rfl⟩
      have hq : Below N WQ WQ := hN ▸ Below.refl _ _
      have HA := hide (fun W' (h : Below N WQ W') => H.out.call (hN ▸ h))
      have HC := hide (fun W' (h : Below N WQ W') W'' (k : Below W'.heap.size W' W'') => h.trans (k.mono (by rw [hN]; exact h.size)))
      have hqn : ∀ W', Below N WQ W' → Calls Tryz.prog 20 #[.int .i64 64] W' (fun e w'' => e = .returned (.string sz) ∧ Below N WQ w'') := fun W' h => (HN64.out W' (HA.out W' h).tb).mono (fun e w'' ⟨he, hb⟩ => ⟨he, HC.out W' h w'' hb⟩)
      have hqh : ∀ W', Below N WQ W' → Calls Tryz.prog 21 #[.string sk, .string se, .string sn] W' (fun e w'' => e = .returned (.string ss) ∧ Below N WQ w'') := fun W' h => (HHS.out W' (HA.out W' h).tb).mono (fun e w'' ⟨he, hb⟩ => ⟨he, HC.out W' h w'' hb⟩)
      have hqx : ∀ W', Below N WQ W' → Calls Tryz.prog 22 #[.string s1, .string ss] W' (fun e w'' => e = .returned (.string sa) ∧ Below N WQ w'') := fun W' h => (HX1.out W' (HA.out W' h).tb).mono (fun e w'' ⟨he, hb⟩ => ⟨he, HC.out W' h w'' hb⟩)
      clear hN
      refine wp_region_class (fun W' => Below N WQ W') (by kernel_rfl) (by kernel_rfl) (below_drewN hq 1) ?_
      with_reducible refine wpQuiet_step ?_; intro K hK; go_simp; first | (refine hK _ ?_; clear hK K) | (refine ⟨_, fun w' hw' => rfl, hK _ ?_⟩; clear hK K)
      with_reducible refine wpQuiet_step ?_
      intro K hK
      refine quiet_val (.string sh) (fun w' hw' => held_load1 Tryz.underlying9 rfl oneStr _ rfl g3 4 rfl _ _ (.string sh) ((HA.out w' hw').get 0 rfl) c4.out) ?_ rfl
      go_simp
      refine hK _ ?_
      clear hK K
      with_reducible refine wpQuiet_step ?_
      intro K hK
      go_simp
      refine ⟨_, hqn, hK _ ?_⟩
      clear hK K
      iterate 3 (with_reducible refine wpQuiet_step ?_; intro K hK; go_simp; first | (refine hK _ ?_; clear hK K) | (refine ⟨_, fun w' hw' => rfl, hK _ ?_⟩; clear hK K))
      with_reducible refine wpQuiet_step ?_
      intro K hK
      refine quiet_val (.string se) (fun w' hw' => held_load1 Tryz.underlying9 rfl oneStr _ rfl g3 1 rfl _ _ (.string se) ((HA.out w' hw').get 0 rfl) c1.out) ?_ rfl
      go_simp
      refine hK _ ?_
      clear hK K
      with_reducible refine wpQuiet_step ?_; intro K hK; go_simp; first | (refine hK _ ?_; clear hK K) | (refine ⟨_, fun w' hw' => rfl, hK _ ?_⟩; clear hK K)
      with_reducible refine wpQuiet_step ?_
      intro K hK
      refine quiet_val (.string sn) (fun w' hw' => held_load1 Tryz.underlying9 rfl oneStr _ rfl g3 2 rfl _ _ (.string sn) ((HA.out w' hw').get 0 rfl) c2.out) ?_ rfl
      go_simp
      refine hK _ ?_
      clear hK K
      with_reducible refine wpQuiet_step ?_
      intro K hK
      go_simp
      refine ⟨_, hqh, hK _ ?_⟩
      clear hK K
      with_reducible refine wpQuiet_step ?_
      intro K hK
      go_simp
      refine ⟨_, hqx, hK _ ?_⟩
      clear hK K
      with_reducible refine wpQuiet_step ?_; intro K hK; go_simp; first | (refine hK _ ?_; clear hK K) | (refine ⟨_, fun w' hw' => rfl, hK _ ?_⟩; clear hK K)
      refine wpQuiet_nil ?_
      clear hq
      intro wq hwq
      replace H := hide (HA.out wq hwq)
      clear HA HC hwq
      go_wp2_with (first
        | (go_at_call 32; with_reducible refine (HRD.out _).mono ?_; rintro e W15 ⟨rfl, hbc⟩; replace H := hide (H.out.call hbc); clear hbc)
        | (with_reducible refine at_op (op := ⟨some 8, _, _, _, _, _⟩) ?_; (with_reducible refine wpl_alloca (op := ⟨some 8, _, _, _, _, _⟩) rfl _ rfl _ zeroS ?_); intro g8 V8 hB1 hg1 hF1; go_simp; (with_reducible refine wpl_storea aggS rfl (.tmp 8) (.tmp 34) rfl g8 (slotC AN) rfl rfl _ _ hB1 HAc.out slot0_len (slotC_one _) ?_); intro W16 hB2 hF2; replace H := hide (H.out.var hg1 hF1 hF2 hB2); clear hB1 hg1 hF1 hB2 hF2)
        | (with_reducible refine at_op (op := ⟨some 38, _, _, _, _, _⟩) ?_; refine wpl_held (op := ⟨some 38, _, _, _, _, _⟩) (.agg (slotC slot0).toArray) (held_build _ _ rfl _ _ (hb1 _) rfl) rfl ?_)
        | (with_reducible refine at_op (op := ⟨some 39, _, _, _, _, _⟩) ?_; refine wpl_held (op := ⟨some 39, _, _, _, _, _⟩) (.agg (rz).toArray) (held_build _ _ rfl _ _ (hb2 _) rfl) rfl ?_)
        | (with_reducible refine at_op (op := ⟨none, .store _ (.tmp 4) (.tmp 38), _, _, _, _⟩) ?_; (with_reducible refine wpl_storea aggS rfl (.tmp 4) (.tmp 38) rfl g4 (slotC slot0) rfl rfl _ _ (H.out.get 1 rfl) slot0_c (slot0_len) (slotC_one _) ?_); intro W17 hB1 hF1; replace H := hide (H.out.store 1 rfl hF1 hB1); clear hB1 hF1)
        | (with_reducible refine at_op (op := ⟨none, .store _ (.tmp 5) (.tmp 39), _, _, _, _⟩) ?_; (with_reducible refine wpl_storea aggR rfl (.tmp 5) (.tmp 39) rfl g5 (rz) rfl rfl _ _ (H.out.get 2 rfl) rz_c (rz_len) rz_one ?_); intro W18 hB1 hF1; replace H := hide (H.out.store 2 rfl hF1 hB1); clear hB1 hF1))
      refine bodyPost_ret (results_cct aggS aggR rfl _ _ g4 g5 _ _ _ _ rfl (H.out.get 1 rfl) slot0_c rfl (H.out.get 2 rfl) rz_c) rfl ⟨rfl, H.out.bel⟩
    · have her : errD b64 = 0 := by unfold errD; rw [hO]; rfl
      have hpe : PE = 0 := by rw [HEN.out, her]
      have hpp : PP = NX PS := by rw [HPN2.out, hO, HSN.out]; rfl
      have hrc : RC = rpktC (NX PS) := by rw [HRC.out, hpe, hpp]; rfl
      rw [HNXT.out] at hrc
      subst hpe
      rw [her, ← HSN.out] at HRD
      clear her HEN HPN2 HSN hpp hO HAO HRC HNXT
      have HBD : Hid (∀ w, Sem.run Tryz.prog (Instr.build 41 #[(0, .string ⟨(be 2 PS.who).toArray⟩), (1, .string ⟨(be 4 PS.epoch).toArray⟩), (2, .string ⟨PS.nonce.toArray⟩), (3, .string ⟨PS.mac.toArray⟩), (4, .string s320), (5, .string snb)]) w = .ok (.agg RC.toArray) w) := fun w => by
        rw [hrc]
        exact run_build w _ _ _ (by kernel_rfl)
      have HCL : Hid (RC.length = 6) := by show _ = _; rw [hrc]; rfl
      have HCO : Hid (∀ u ∈ RC, u.oneCell' = true) := by
        intro u hu
        rw [hrc] at hu
        simp only [List.mem_cons, List.not_mem_nil, or_false] at hu
        rcases hu with rfl | rfl | rfl | rfl | rfl | rfl <;> rfl
      clear hrc
      have HAc := hide (slotC_length PS HSO.out.nonce HSO.out.mac)
      have hN := slN
      have hM := slM
      have HXN := hide (slotC_nonce (s := PS) HSO.out.nonce)
      have HXM := hide (slotC_mac (s := PS) HSO.out.nonce HSO.out.mac)
      have HLN := hide HSO.out.nonce
      have HLM := hide HSO.out.mac
      have HTW := hide (fun (W : World) => text11_any PS.who 2 W (by decide) (by have := HSO.out.who; omega))
      have HTE := hide (fun (W : World) => text11_any PS.epoch 4 W (by decide) (by have := HSO.out.epoch; omega))
      have hwi : (0 : Int) ≤ (PS.who : Int) ∧ (PS.who : Int) < 65536 := by have := HSO.out.who; omega
      have hei : (0 : Int) ≤ (PS.epoch : Int) ∧ (PS.epoch : Int) < 4294967296 := by have := HSO.out.epoch; omega
      have hww : IntKind.u64.wrap (PS.who : Int) = (PS.who : Int) := by rw [IntKind.wrap_u64] <;> omega
      have hwe : IntKind.u64.wrap (PS.epoch : Int) = (PS.epoch : Int) := by rw [IntKind.wrap_u64] <;> omega
      go_wp2_with (first
        | (with_reducible refine at_op (op := ⟨some 3, _, _, _, _, _⟩) ?_; (refine wpl_boxa (op := ⟨some 3, _, _, _, _, _⟩) rfl _ _ rfl (rc) rfl ?_); intro g3 W1 hB1 hg1 hF1; replace H := hide (H.out.box hg1 hF1 hB1); clear hB1 hg1 hF1)
        | (with_reducible refine at_op (op := ⟨some 4, _, _, _, _, _⟩) ?_; (with_reducible refine wpl_alloca (op := ⟨some 4, _, _, _, _, _⟩) rfl _ rfl _ zeroS ?_); intro g4 W2 hB1 hg1 hF1; replace H := hide (H.out.box hg1 hF1 hB1); clear hB1 hg1 hF1)
        | (with_reducible refine at_op (op := ⟨some 5, _, _, _, _, _⟩) ?_; (with_reducible refine wpl_alloca (op := ⟨some 5, _, _, _, _, _⟩) rfl _ rfl _ zeroR ?_); intro g5 W3 hB1 hg1 hF1; replace H := hide (H.out.box hg1 hF1 hB1); clear hB1 hg1 hF1))
      obtain ⟨N, hN⟩ : ∃ N, N = W3.heap.size := ⟨_, rfl⟩
      have hq : Below N W3 W3 := hN ▸ Below.refl _ _
      have HA := hide (fun W' (h : Below N W3 W') => H.out.call (hN ▸ h))
      have HC := hide (fun W' (h : Below N W3 W') W'' (k : Below W'.heap.size W' W'') => h.trans (k.mono (by rw [hN]; exact h.size)))
      have hqm : ∀ W', Below N W3 W' → Calls Tryz.prog 14 #[.string sk, .agg rc.toArray] W' (fun e w'' => e = .returned (.string sm) ∧ Below N W3 w'') := fun W' h => (HMC.out W' (HA.out W' h).tb).mono (fun e w'' ⟨he, hb⟩ => ⟨he, HC.out W' h w'' hb⟩)
      clear hN
      refine wp_region_class (fun W' => Below N W3 W') (by kernel_rfl) (by kernel_rfl) (below_drewN hq 1) ?_
      with_reducible refine wpQuiet_step ?_; intro K hK; go_simp; first | (refine hK _ ?_; clear hK K) | (refine ⟨_, fun w' hw' => rfl, hK _ ?_⟩; clear hK K)
      with_reducible refine wpQuiet_step ?_
      intro K hK
      refine quiet_val (.string sm) (fun w' hw' => held_load1 Tryz.underlying9 rfl oneStr _ rfl g3 3 rfl _ _ (.string sm) ((HA.out w' hw').get 0 rfl) c3.out) ?_ rfl
      go_simp
      refine hK _ ?_
      clear hK K
      with_reducible refine wpQuiet_step ?_; intro K hK; go_simp; first | (refine hK _ ?_; clear hK K) | (refine ⟨_, fun w' hw' => rfl, hK _ ?_⟩; clear hK K)
      with_reducible refine wpQuiet_step ?_
      intro K hK
      refine quiet_val (.agg (rc).toArray) (fun w' hw' => held_loadf aggR _ rfl g3 rfl _ (rc) ((HA.out w' hw').get 0 rfl) HRL.out) ?_ rfl
      go_simp
      refine hK _ ?_
      clear hK K
      with_reducible refine wpQuiet_step ?_
      intro K hK
      go_simp
      refine ⟨_, hqm, hK _ ?_⟩
      clear hK K
      with_reducible refine wpQuiet_step ?_; intro K hK; go_simp; first | (refine hK _ ?_; clear hK K) | (refine ⟨_, fun w' hw' => rfl, hK _ ?_⟩; clear hK K)
      refine wpQuiet_nil ?_
      clear hq
      intro wq hwq
      replace H := hide (HA.out wq hwq)
      clear HA HC hwq
      go_wp2_with fail
      obtain ⟨WQ, hWQ⟩ : ∃ W, W = wq := ⟨_, rfl⟩
      rw [← hWQ] at H ⊢
      clear hWQ
      obtain ⟨N, hN⟩ : ∃ N, N = WQ.heap.size := ⟨_, rfl⟩
      have hq : Below N WQ WQ := hN ▸ Below.refl _ _
      have HA := hide (fun W' (h : Below N WQ W') => H.out.call (hN ▸ h))
      have HC := hide (fun W' (h : Below N WQ W') W'' (k : Below W'.heap.size W' W'') => h.trans (k.mono (by rw [hN]; exact h.size)))
      have hqn : ∀ W', Below N WQ W' → Calls Tryz.prog 20 #[.int .i64 64] W' (fun e w'' => e = .returned (.string sz) ∧ Below N WQ w'') := fun W' h => (HN64.out W' (HA.out W' h).tb).mono (fun e w'' ⟨he, hb⟩ => ⟨he, HC.out W' h w'' hb⟩)
      have hqh : ∀ W', Below N WQ W' → Calls Tryz.prog 21 #[.string sk, .string se, .string sn] W' (fun e w'' => e = .returned (.string ss) ∧ Below N WQ w'') := fun W' h => (HHS.out W' (HA.out W' h).tb).mono (fun e w'' ⟨he, hb⟩ => ⟨he, HC.out W' h w'' hb⟩)
      have hqx : ∀ W', Below N WQ W' → Calls Tryz.prog 22 #[.string s1, .string ss] W' (fun e w'' => e = .returned (.string sa) ∧ Below N WQ w'') := fun W' h => (HX1.out W' (HA.out W' h).tb).mono (fun e w'' ⟨he, hb⟩ => ⟨he, HC.out W' h w'' hb⟩)
      clear hN
      refine wp_region_class (fun W' => Below N WQ W') (by kernel_rfl) (by kernel_rfl) (below_drewN hq 1) ?_
      with_reducible refine wpQuiet_step ?_; intro K hK; go_simp; first | (refine hK _ ?_; clear hK K) | (refine ⟨_, fun w' hw' => rfl, hK _ ?_⟩; clear hK K)
      with_reducible refine wpQuiet_step ?_
      intro K hK
      refine quiet_val (.string sh) (fun w' hw' => held_load1 Tryz.underlying9 rfl oneStr _ rfl g3 4 rfl _ _ (.string sh) ((HA.out w' hw').get 0 rfl) c4.out) ?_ rfl
      go_simp
      refine hK _ ?_
      clear hK K
      with_reducible refine wpQuiet_step ?_
      intro K hK
      go_simp
      refine ⟨_, hqn, hK _ ?_⟩
      clear hK K
      iterate 3 (with_reducible refine wpQuiet_step ?_; intro K hK; go_simp; first | (refine hK _ ?_; clear hK K) | (refine ⟨_, fun w' hw' => rfl, hK _ ?_⟩; clear hK K))
      with_reducible refine wpQuiet_step ?_
      intro K hK
      refine quiet_val (.string se) (fun w' hw' => held_load1 Tryz.underlying9 rfl oneStr _ rfl g3 1 rfl _ _ (.string se) ((HA.out w' hw').get 0 rfl) c1.out) ?_ rfl
      go_simp
      refine hK _ ?_
      clear hK K
      with_reducible refine wpQuiet_step ?_; intro K hK; go_simp; first | (refine hK _ ?_; clear hK K) | (refine ⟨_, fun w' hw' => rfl, hK _ ?_⟩; clear hK K)
      with_reducible refine wpQuiet_step ?_
      intro K hK
      refine quiet_val (.string sn) (fun w' hw' => held_load1 Tryz.underlying9 rfl oneStr _ rfl g3 2 rfl _ _ (.string sn) ((HA.out w' hw').get 0 rfl) c2.out) ?_ rfl
      go_simp
      refine hK _ ?_
      clear hK K
      with_reducible refine wpQuiet_step ?_
      intro K hK
      go_simp
      refine ⟨_, hqh, hK _ ?_⟩
      clear hK K
      with_reducible refine wpQuiet_step ?_
      intro K hK
      go_simp
      refine ⟨_, hqx, hK _ ?_⟩
      clear hK K
      with_reducible refine wpQuiet_step ?_; intro K hK; go_simp; first | (refine hK _ ?_; clear hK K) | (refine ⟨_, fun w' hw' => rfl, hK _ ?_⟩; clear hK K)
      refine wpQuiet_nil ?_
      clear hq
      intro wq hwq
      replace H := hide (HA.out wq hwq)
      clear HA HC hwq
      go_wp2_with (first
        | (go_at_call 32; with_reducible refine (HRD.out _).mono ?_; rintro e W15 ⟨rfl, hbc⟩; replace H := hide (H.out.call hbc); clear hbc)
        | (with_reducible refine at_op (op := ⟨some 8, _, _, _, _, _⟩) ?_; (with_reducible refine wpl_alloca (op := ⟨some 8, _, _, _, _, _⟩) rfl _ rfl _ zeroS ?_); intro g8 V8 hB1 hg1 hF1; go_simp; (with_reducible refine wpl_storea aggS rfl (.tmp 8) (.tmp 34) rfl g8 (slotC PS) rfl rfl _ _ hB1 HAc.out slot0_len (slotC_one _) ?_); intro W16 hB2 hF2; replace H := hide (H.out.var hg1 hF1 hF2 hB2); clear hB1 hg1 hF1 hB2 hF2))
      apply merge1 (R := fun a0 W => OAt w [(g3, 41, rc), (g4, 51, slotC slot0), (g5, 41, rz), (g8, 51, slotC PS), (a0, 41, RC)] W)
      · intro hend
        obtain ⟨U7, hU7⟩ : ∃ U7, U7 = W16.drew := ⟨_, rfl⟩
        refine wp_region_held_drew (S := fun W' => Blk W' g8 51 (slotC PS).toArray ∧ Blk W' g3 41 (rc).toArray) (by kernel_rfl) (by rw [← hU7]; replace H := hide (by rw [hU7]; exact H.out.drew : OAt w _ U7); exact ⟨H.out.get 3 rfl, H.out.get 0 rfl⟩) ?_
        intro hHeld
        replace H := hide (by rw [hU7]; exact H.out.drew : OAt w _ U7)
        rw [← hU7] at hHeld ⊢
        clear hU7
        refine tkH 0 (v := ?v1) rfl ?hy1 ?rest1
        case hy1 => (intro w hSw; (try go_simp); try with_reducible rfl)
        try simp only [Act.put, PTs]
        refine tkH 1 (v := ?v2) rfl ?hy2 ?rest2
        case hy2 => (intro w hSw; refine held_load1 Tryz.underlying27 rfl one16w (.tmp 41) ?_ g8 3 ?_ _ _ (.int .u16 (PS.who : Int)) hSw.1 rfl <;> rfl)
        try simp only [Act.put, PTs]
        refine tkH 2 (v := ?v3) rfl ?hy3 ?rest3
        case hy3 => (intro w hSw; (try go_simp); try with_reducible rfl)
        try simp only [Act.put, PTs]
        refine tkH 4 (v := ?v4) rfl ?hy4 ?rest4
        case hy4 => (intro w hSw; (try go_simp); try with_reducible rfl)
        try simp only [Act.put, PTs]
        refine tkH 5 (v := ?v5) rfl ?hy5 ?rest5
        case hy5 => (intro w hSw; refine held_load1 Tryz.underlying28 rfl one32 (.tmp 45) ?_ g8 4 ?_ _ _ (.int .u32 (PS.epoch : Int)) hSw.1 rfl <;> rfl)
        try simp only [Act.put, PTs]
        refine tkH 6 (v := ?v6) rfl ?hy6 ?rest6
        case hy6 => (intro w hSw; (try go_simp); try with_reducible rfl)
        try simp only [Act.put, PTs]
        refine tkH 8 (v := ?v7) rfl ?hy7 ?rest7
        case hy7 => (intro w hSw; (try go_simp); try with_reducible rfl)
        try simp only [Act.put, PTs]
        refine tkH 9 (v := ?v8) rfl ?hy8 ?rest8
        case hy8 => (intro w hSw; (try go_simp); try with_reducible rfl)
        try simp only [Act.put, PTs]
        refine tkH 10 (v := ?v9) rfl ?hy9 ?rest9
        case hy9 => (intro w hSw; refine held_convR (.tmp 50) ?_ (some ⟨g8, 5, none⟩) 16 16 ?_ (PS.nonce) ((hSw.1).mid 5 16 (PS.nonce) HXN.out HLN.out) <;> rfl)
        try simp only [Act.put, PTs]
        refine tkH 11 (v := ?v10) rfl ?hy10 ?rest10
        case hy10 => (intro w hSw; (try go_simp); try with_reducible rfl)
        try simp only [Act.put, PTs]
        refine tkH 12 (v := ?v11) rfl ?hy11 ?rest11
        case hy11 => (intro w hSw; (try go_simp); try with_reducible rfl)
        try simp only [Act.put, PTs]
        refine tkH 13 (v := ?v12) rfl ?hy12 ?rest12
        case hy12 => (intro w hSw; refine held_convR (.tmp 53) ?_ (some ⟨g8, 21, none⟩) 16 16 ?_ (PS.mac) ((hSw.1).mid 21 16 (PS.mac) HXM.out HLM.out) <;> rfl)
        try simp only [Act.put, PTs]
        refine tkH 14 (v := ?v13) rfl ?hy13 ?rest13
        case hy13 => (intro w hSw; (try go_simp); try with_reducible rfl)
        try simp only [Act.put, PTs]
        refine tkH 15 (v := ?v14) rfl ?hy14 ?rest14
        case hy14 => (intro w hSw; (try go_simp); try with_reducible rfl)
        try simp only [Act.put, PTs]
        refine tkH 16 (v := ?v15) rfl ?hy15 ?rest15
        case hy15 => (intro w hSw; (try go_simp); try with_reducible rfl)
        try simp only [Act.put, PTs]
        refine tkH 17 (v := ?v16) rfl ?hy16 ?rest16
        case hy16 => (intro w hSw; refine held_load1 Tryz.underlying9 rfl oneStr (.tmp 57) ?_ g3 5 ?_ _ _ (.string sb) hSw.2 c5.out <;> rfl)
        try simp only [Act.put, PTs]
        refine tkH 18 (v := ?v17) rfl ?hy17 ?rest17
        case hy17 => (intro w hSw; (try go_simp); try with_reducible rfl)
        try simp only [Act.put, PTs]
        refine tkH 19 (v := ?v18) rfl ?hy18 ?rest18
        case hy18 => (intro w hSw; (try go_simp); try with_reducible rfl)
        try simp only [Act.put, PTs]
        refine tkH 20 (v := ?v19) rfl ?hy19 ?rest19
        case hy19 => (intro w hSw; refine held_load1 Tryz.underlying9 rfl oneStr (.tmp 60) ?_ g3 1 ?_ _ _ (.string se) hSw.2 c1.out <;> rfl)
        try simp only [Act.put, PTs]
        refine tkH 21 (v := ?v20) rfl ?hy20 ?rest20
        case hy20 => (intro w hSw; (try go_simp); try with_reducible rfl)
        try simp only [Act.put, PTs]
        refine tkH 22 (v := ?v21) rfl ?hy21 ?rest21
        case hy21 => (intro w hSw; refine held_load1 Tryz.underlying9 rfl oneStr (.tmp 62) ?_ g3 2 ?_ _ _ (.string sn) hSw.2 c2.out <;> rfl)
        try simp only [Act.put, PTs]
        refine wpAnyH_ready (rs := [3, 26]) (by kernel_rfl) (by simp) ?_
        refine AllReadyH.cons rfl (fun K hK => ?_) ?_
        · go_simp
          refine (HTW.out _).mono ?_
          rintro e V1 ⟨rfl, hbc⟩
          replace H := hide (H.out.call hbc)
          clear hbc
          refine hK.out _ _ (⟨H.out.get 3 rfl, H.out.get 0 rfl⟩) (fun hHeld => ?_)
          clear hK K
          refine wpAnyH_ready (rs := [7, 26]) (by kernel_rfl) (by simp) ?_
          refine AllReadyH.cons rfl (fun K hK => ?_) ?_
          · go_simp
            refine (HTE.out _).mono ?_
            rintro e V2 ⟨rfl, hbc⟩
            replace H := hide (H.out.call hbc)
            clear hbc
            refine hK.out _ _ (⟨H.out.get 3 rfl, H.out.get 0 rfl⟩) (fun hHeld => ?_)
            clear hK K
            refine wpAnyH_ready (rs := [23, 26]) (by kernel_rfl) (by simp) ?_
            refine AllReadyH.cons rfl (fun K hK => ?_) ?_
            · go_simp
              refine (HBS.out _ H.out.tb).mono ?_
              rintro e V3 ⟨rfl, hbc⟩
              replace H := hide (H.out.call hbc)
              clear hbc
              refine hK.out _ _ (⟨H.out.get 3 rfl, H.out.get 0 rfl⟩) (fun hHeld => ?_)
              clear hK K
              refine wpAnyH_ready (rs := [24, 26]) (by kernel_rfl) (by simp) ?_
              refine AllReadyH.cons rfl (fun K hK => ?_) ?_
              · go_simp
                refine (HX2.out _ H.out.tb).mono ?_
                rintro e V4 ⟨rfl, hbc⟩
                replace H := hide (H.out.call hbc)
                clear hbc
                refine hK.out _ _ (⟨H.out.get 3 rfl, H.out.get 0 rfl⟩) (fun hHeld => ?_)
                clear hK K
                refine tkH 25 (v := ?v22) rfl ?hy22 ?rest22
                case hy22 => (intro w hSw; refine held_build 41 #[(0, .tmp 44), (1, .tmp 48), (2, .tmp 51), (3, .tmp 54), (4, .tmp 56), (5, .tmp 65)] ?_ _ (RC) (HBD.out _) ?_ <;> rfl)
                try simp only [Act.put, PTs]
                refine rdH 26 rfl (by kernel_rfl) (fun K hK => ?_)
                refine step_alloca rfl _ rfl _ zeroR ?_
                intro g10 V5 hB8 hs8 hF8
                replace H := hide (H.out.box hs8 hF8 hB8)
                clear hB8 hs8 hF8
                refine hK.out _ _ (⟨H.out.get 3 rfl, H.out.get 0 rfl⟩) (fun hHeld => ?_)
                clear hK K
                refine rdH 27 rfl (by kernel_rfl) (fun K hK => ?_)
                refine step_storem aggR rfl (.tmp 10) (.tmp 66) rfl g10 0 (RC) _ (RC) rfl rfl _ (H.out.get 4 rfl) HCL.out (Nat.le_of_eq (by rw [Nat.zero_add]; exact rz_c.symm)) (splice_all _ _ (by rw [HCL.out]; exact rz_c)) HCO.out ?_
                intro W9 hB10 hF10
                replace H := hide (H.out.store 4 rfl hF10 hB10)
                clear hB10 hF10
                refine hK.out _ _ (⟨H.out.get 3 rfl, H.out.get 0 rfl⟩) (fun hHeld => ?_)
                clear hK K
                refine wpAnyH_done (by kernel_rfl) ?_ _
                clear hHeld
                exact hend.out g10 _ H.out
              refine AllReadyH.cons rfl (fun K hK => ?_) AllReadyH.nil
              refine step_alloca rfl _ rfl _ zeroR ?_
              intro g10 V6 hB8 hs8 hF8
              replace H := hide (H.out.box hs8 hF8 hB8)
              clear hB8 hs8 hF8
              refine hK.out _ _ (⟨H.out.get 3 rfl, H.out.get 0 rfl⟩) (fun hHeld => ?_)
              clear hK K
              refine rdH 24 rfl (by kernel_rfl) (fun K hK => ?_)
              go_simp
              refine (HX2.out _ H.out.tb).mono ?_
              rintro e V7 ⟨rfl, hbc⟩
              replace H := hide (H.out.call hbc)
              clear hbc
              refine hK.out _ _ (⟨H.out.get 3 rfl, H.out.get 0 rfl⟩) (fun hHeld => ?_)
              clear hK K
              refine tkH 25 (v := ?v23) rfl ?hy23 ?rest23
              case hy23 => (intro w hSw; refine held_build 41 #[(0, .tmp 44), (1, .tmp 48), (2, .tmp 51), (3, .tmp 54), (4, .tmp 56), (5, .tmp 65)] ?_ _ (RC) (HBD.out _) ?_ <;> rfl)
              try simp only [Act.put, PTs]
              refine rdH 27 rfl (by kernel_rfl) (fun K hK => ?_)
              refine step_storem aggR rfl (.tmp 10) (.tmp 66) rfl g10 0 (RC) _ (RC) rfl rfl _ (H.out.get 4 rfl) HCL.out (Nat.le_of_eq (by rw [Nat.zero_add]; exact rz_c.symm)) (splice_all _ _ (by rw [HCL.out]; exact rz_c)) HCO.out ?_
              intro W9 hB10 hF10
              replace H := hide (H.out.store 4 rfl hF10 hB10)
              clear hB10 hF10
              refine hK.out _ _ (⟨H.out.get 3 rfl, H.out.get 0 rfl⟩) (fun hHeld => ?_)
              clear hK K
              refine wpAnyH_done (by kernel_rfl) ?_ _
              clear hHeld
              exact hend.out g10 _ H.out
            refine AllReadyH.cons rfl (fun K hK => ?_) AllReadyH.nil
            refine step_alloca rfl _ rfl _ zeroR ?_
            intro g10 V8 hB8 hs8 hF8
            replace H := hide (H.out.box hs8 hF8 hB8)
            clear hB8 hs8 hF8
            refine hK.out _ _ (⟨H.out.get 3 rfl, H.out.get 0 rfl⟩) (fun hHeld => ?_)
            clear hK K
            refine rdH 23 rfl (by kernel_rfl) (fun K hK => ?_)
            go_simp
            refine (HBS.out _ H.out.tb).mono ?_
            rintro e V9 ⟨rfl, hbc⟩
            replace H := hide (H.out.call hbc)
            clear hbc
            refine hK.out _ _ (⟨H.out.get 3 rfl, H.out.get 0 rfl⟩) (fun hHeld => ?_)
            clear hK K
            refine rdH 24 rfl (by kernel_rfl) (fun K hK => ?_)
            go_simp
            refine (HX2.out _ H.out.tb).mono ?_
            rintro e V10 ⟨rfl, hbc⟩
            replace H := hide (H.out.call hbc)
            clear hbc
            refine hK.out _ _ (⟨H.out.get 3 rfl, H.out.get 0 rfl⟩) (fun hHeld => ?_)
            clear hK K
            refine tkH 25 (v := ?v24) rfl ?hy24 ?rest24
            case hy24 => (intro w hSw; refine held_build 41 #[(0, .tmp 44), (1, .tmp 48), (2, .tmp 51), (3, .tmp 54), (4, .tmp 56), (5, .tmp 65)] ?_ _ (RC) (HBD.out _) ?_ <;> rfl)
            try simp only [Act.put, PTs]
            refine rdH 27 rfl (by kernel_rfl) (fun K hK => ?_)
            refine step_storem aggR rfl (.tmp 10) (.tmp 66) rfl g10 0 (RC) _ (RC) rfl rfl _ (H.out.get 4 rfl) HCL.out (Nat.le_of_eq (by rw [Nat.zero_add]; exact rz_c.symm)) (splice_all _ _ (by rw [HCL.out]; exact rz_c)) HCO.out ?_
            intro W9 hB10 hF10
            replace H := hide (H.out.store 4 rfl hF10 hB10)
            clear hB10 hF10
            refine hK.out _ _ (⟨H.out.get 3 rfl, H.out.get 0 rfl⟩) (fun hHeld => ?_)
            clear hK K
            refine wpAnyH_done (by kernel_rfl) ?_ _
            clear hHeld
            exact hend.out g10 _ H.out
          refine AllReadyH.cons rfl (fun K hK => ?_) AllReadyH.nil
          refine step_alloca rfl _ rfl _ zeroR ?_
          intro g10 V11 hB8 hs8 hF8
          replace H := hide (H.out.box hs8 hF8 hB8)
          clear hB8 hs8 hF8
          refine hK.out _ _ (⟨H.out.get 3 rfl, H.out.get 0 rfl⟩) (fun hHeld => ?_)
          clear hK K
          refine rdH 7 rfl (by kernel_rfl) (fun K hK => ?_)
          go_simp
          refine (HTE.out _).mono ?_
          rintro e V12 ⟨rfl, hbc⟩
          replace H := hide (H.out.call hbc)
          clear hbc
          refine hK.out _ _ (⟨H.out.get 3 rfl, H.out.get 0 rfl⟩) (fun hHeld => ?_)
          clear hK K
          refine rdH 23 rfl (by kernel_rfl) (fun K hK => ?_)
          go_simp
          refine (HBS.out _ H.out.tb).mono ?_
          rintro e V13 ⟨rfl, hbc⟩
          replace H := hide (H.out.call hbc)
          clear hbc
          refine hK.out _ _ (⟨H.out.get 3 rfl, H.out.get 0 rfl⟩) (fun hHeld => ?_)
          clear hK K
          refine rdH 24 rfl (by kernel_rfl) (fun K hK => ?_)
          go_simp
          refine (HX2.out _ H.out.tb).mono ?_
          rintro e V14 ⟨rfl, hbc⟩
          replace H := hide (H.out.call hbc)
          clear hbc
          refine hK.out _ _ (⟨H.out.get 3 rfl, H.out.get 0 rfl⟩) (fun hHeld => ?_)
          clear hK K
          refine tkH 25 (v := ?v25) rfl ?hy25 ?rest25
          case hy25 => (intro w hSw; refine held_build 41 #[(0, .tmp 44), (1, .tmp 48), (2, .tmp 51), (3, .tmp 54), (4, .tmp 56), (5, .tmp 65)] ?_ _ (RC) (HBD.out _) ?_ <;> rfl)
          try simp only [Act.put, PTs]
          refine rdH 27 rfl (by kernel_rfl) (fun K hK => ?_)
          refine step_storem aggR rfl (.tmp 10) (.tmp 66) rfl g10 0 (RC) _ (RC) rfl rfl _ (H.out.get 4 rfl) HCL.out (Nat.le_of_eq (by rw [Nat.zero_add]; exact rz_c.symm)) (splice_all _ _ (by rw [HCL.out]; exact rz_c)) HCO.out ?_
          intro W9 hB10 hF10
          replace H := hide (H.out.store 4 rfl hF10 hB10)
          clear hB10 hF10
          refine hK.out _ _ (⟨H.out.get 3 rfl, H.out.get 0 rfl⟩) (fun hHeld => ?_)
          clear hK K
          refine wpAnyH_done (by kernel_rfl) ?_ _
          clear hHeld
          exact hend.out g10 _ H.out
        refine AllReadyH.cons rfl (fun K hK => ?_) AllReadyH.nil
        refine step_alloca rfl _ rfl _ zeroR ?_
        intro g10 V15 hB8 hs8 hF8
        replace H := hide (H.out.box hs8 hF8 hB8)
        clear hB8 hs8 hF8
        refine hK.out _ _ (⟨H.out.get 3 rfl, H.out.get 0 rfl⟩) (fun hHeld => ?_)
        clear hK K
        refine rdH 3 rfl (by kernel_rfl) (fun K hK => ?_)
        go_simp
        refine (HTW.out _).mono ?_
        rintro e V16 ⟨rfl, hbc⟩
        replace H := hide (H.out.call hbc)
        clear hbc
        refine hK.out _ _ (⟨H.out.get 3 rfl, H.out.get 0 rfl⟩) (fun hHeld => ?_)
        clear hK K
        refine rdH 7 rfl (by kernel_rfl) (fun K hK => ?_)
        go_simp
        refine (HTE.out _).mono ?_
        rintro e V17 ⟨rfl, hbc⟩
        replace H := hide (H.out.call hbc)
        clear hbc
        refine hK.out _ _ (⟨H.out.get 3 rfl, H.out.get 0 rfl⟩) (fun hHeld => ?_)
        clear hK K
        refine rdH 23 rfl (by kernel_rfl) (fun K hK => ?_)
        go_simp
        refine (HBS.out _ H.out.tb).mono ?_
        rintro e V18 ⟨rfl, hbc⟩
        replace H := hide (H.out.call hbc)
        clear hbc
        refine hK.out _ _ (⟨H.out.get 3 rfl, H.out.get 0 rfl⟩) (fun hHeld => ?_)
        clear hK K
        refine rdH 24 rfl (by kernel_rfl) (fun K hK => ?_)
        go_simp
        refine (HX2.out _ H.out.tb).mono ?_
        rintro e V19 ⟨rfl, hbc⟩
        replace H := hide (H.out.call hbc)
        clear hbc
        refine hK.out _ _ (⟨H.out.get 3 rfl, H.out.get 0 rfl⟩) (fun hHeld => ?_)
        clear hK K
        refine tkH 25 (v := ?v26) rfl ?hy26 ?rest26
        case hy26 => (intro w hSw; refine held_build 41 #[(0, .tmp 44), (1, .tmp 48), (2, .tmp 51), (3, .tmp 54), (4, .tmp 56), (5, .tmp 65)] ?_ _ (RC) (HBD.out _) ?_ <;> rfl)
        try simp only [Act.put, PTs]
        refine rdH 27 rfl (by kernel_rfl) (fun K hK => ?_)
        refine step_storem aggR rfl (.tmp 10) (.tmp 66) rfl g10 0 (RC) _ (RC) rfl rfl _ (H.out.get 4 rfl) HCL.out (Nat.le_of_eq (by rw [Nat.zero_add]; exact rz_c.symm)) (splice_all _ _ (by rw [HCL.out]; exact rz_c)) HCO.out ?_
        intro W9 hB10 hF10
        replace H := hide (H.out.store 4 rfl hF10 hB10)
        clear hB10 hF10
        refine hK.out _ _ (⟨H.out.get 3 rfl, H.out.get 0 rfl⟩) (fun hHeld => ?_)
        clear hK K
        refine wpAnyH_done (by kernel_rfl) ?_ _
        clear hHeld
        exact hend.out g10 _ H.out
      intro g10 W20 hR2
      replace H := hide hR2
      clear hR2
      go_wp2_with fail
      refine wp_region_held_drew (S := fun W' => Blk W' g8 51 (slotC PS).toArray ∧ Blk W' g10 41 (RC).toArray) (by kernel_rfl) (⟨H.out.drew.get 3 rfl, H.out.drew.get 4 rfl⟩) ?_
      intro hHeld
      obtain ⟨W23, hW23⟩ : ∃ W23, W23 = W20.drew := ⟨_, rfl⟩
      replace H := hide (by rw [hW23]; exact H.out.drew : OAt w _ W23)
      rw [← hW23] at hHeld ⊢
      clear hW23
      refine tkH 0 (v := ?v27) rfl ?hy27 ?rest27
      case hy27 => (intro w hSw; refine held_loadf aggS (.tmp 8) ?_ g8 ?_ _ (slotC PS) hSw.1 HAc.out <;> rfl)
      try simp only [Act.put, PTs]
      refine tkH 1 (v := ?v28) rfl ?hy28 ?rest28
      case hy28 => (intro w hSw; refine held_loadf aggR (.tmp 10) ?_ g10 ?_ _ (RC) hSw.2 HCL.out <;> rfl)
      try simp only [Act.put, PTs]
      refine rdH 2 rfl (by kernel_rfl) (fun K hK => ?_)
      refine step_storem aggS rfl (.tmp 4) (.tmp 67) rfl g4 0 (slotC PS) _ (slotC PS) rfl rfl _ (H.out.get 1 rfl) HAc.out (Nat.le_of_eq (by rw [Nat.zero_add]; exact slot0_len.symm)) (splice_all _ _ (by rw [HAc.out]; exact slot0_c)) (slotC_one _) ?_
      intro W24 hB24 hF24
      replace H := hide (H.out.store 1 rfl hF24 hB24)
      clear hB24 hF24
      refine hK.out _ _ (⟨H.out.get 3 rfl, H.out.get 4 rfl⟩) (fun hHeld => ?_)
      clear hK K
      refine rdH 3 rfl (by kernel_rfl) (fun K hK => ?_)
      refine step_storem aggR rfl (.tmp 5) (.tmp 68) rfl g5 0 (RC) _ (RC) rfl rfl _ (H.out.get 2 rfl) HCL.out (Nat.le_of_eq (by rw [Nat.zero_add]; exact rz_c.symm)) (splice_all _ _ (by rw [HCL.out]; exact rz_c)) HCO.out ?_
      intro W25 hB25 hF25
      replace H := hide (H.out.store 2 rfl hF25 hB25)
      clear hB25 hF25
      refine hK.out _ _ (⟨H.out.get 3 rfl, H.out.get 4 rfl⟩) (fun hHeld => ?_)
      clear hK K
      refine tkH 4 (v := ?v29) rfl ?hy29 ?rest29
      case hy29 => (intro w hSw; (try go_simp); try with_reducible rfl)
      try simp only [Act.put, PTs]
      refine wpAnyH_done (by kernel_rfl) ?_ _
      clear hHeld
      go_wp2_with fail
      refine bodyPost_ret (results_cct aggS aggR rfl _ _ g4 g5 _ _ _ _ rfl (H.out.get 1 rfl) HAc.out rfl (H.out.get 2 rfl) HCL.out) rfl ⟨rfl, H.out.bel⟩
end Go.Proofs.YtoiiiflnnhkjbaaGreatDoor
