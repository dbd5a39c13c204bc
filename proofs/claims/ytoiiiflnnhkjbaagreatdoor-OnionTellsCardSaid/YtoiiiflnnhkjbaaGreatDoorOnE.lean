/-
  Peel.
-/
import Derived.Test.YtoiiiflnnhkjbaaGreatDoorHp
import Derived.Test.YtoiiiflnnhkjbaaGreatDoorOnD
namespace Go.Proofs.YtoiiiflnnhkjbaaGreatDoor
set_option linter.unusedVariables false
set_option linter.unusedSimpArgs false
open Go.RowKit

/-- Three results, the first two in variables. -/
theorem results_cct {ty ty' : TypeId} {n n' : Nat} (hA : Agg Tryz.prog ty n) (hA' : Agg Tryz.prog ty' n') {fn : Func} {p q u : Tmp} (h : fn.results = #[.cell p ty, .cell q ty', .tmp u]) (tmps : Array Value) (w : World) (g g' : Nat) (t t' : TypeId) (cs ds : List Value)
    (hp : tmps.getD p undef = .pointer (some ⟨g, 0, none⟩)) (hb : Blk w g t cs.toArray) (hn : cs.length = n) (hq : tmps.getD q undef = .pointer (some ⟨g', 0, none⟩)) (hc : Blk w g' t' ds.toArray) (hm : ds.length = n') :
    (results fn tmps).run Tryz.prog w = .ok (.tuple #[.agg cs.toArray, .agg ds.toArray, tmps.getD u undef]) w := by
  have h1 := run_load_agg hA w g 0 _ cs cs hb (by rw [List.drop_zero, List.take_of_length_le (by omega)]) (by omega)
  have h2 := run_load_agg hA' w g' 0 _ ds ds hc (by rw [List.drop_zero, List.take_of_length_le (by omega)]) (by omega)
  have hp' : tmps[p]?.getD undef = .pointer (some ⟨g, 0, none⟩) := by simpa using hp
  have hq' : tmps[q]?.getD undef = .pointer (some ⟨g', 0, none⟩) := by simpa using hq
  simp [results, h, hp', hq', asAddr, h1, h2]
theorem build_pkt4 (who epoch : Nat) (nonce mac : List UInt8) (hn : nonce.length = 16) (hm : mac.length = 16) (w : World) : Sem.run Tryz.prog (Instr.build 34 #[(0, .int .u16 (who : Int)), (1, .int .u32 (epoch : Int)), (2, .agg (cellsB nonce).toArray), (3, .agg (cellsB mac).toArray)]) w = .ok (.agg (pktC ⟨who, epoch, nonce, mac, zeros 320, zeros 256⟩).toArray) w :=
  match nonce, hn, mac, hm with
  | [_, _, _, _, _, _, _, _, _, _, _, _, _, _, _, _], _, [_, _, _, _, _, _, _, _, _, _, _, _, _, _, _, _], _ => run_build w _ _ _ (by kernel_rfl)
theorem pktC_shd {p : Pkt} (h : p.ok) (l : List UInt8) (hl : l.length = 320) : splice (pktC p) 34 (cellsB l) = pktC { p with head := l } := pktC_shead h l hl
theorem pktC_sbd {p : Pkt} (h : p.ok) (l : List UInt8) (hl : l.length = 256) : splice (pktC p) 354 (cellsB l) = pktC { p with body := l } := pktC_sbody h l hl
section
variable {s : Slot}
theorem slotC_at1 (s : Slot) : (slotC s)[1]? = some (.int .u16 (s.next : Int)) := rfl
theorem slotC_at2 (s : Slot) : (slotC s)[2]? = some (.int .u16 (s.box : Int)) := rfl
end

set_option maxHeartbeats 16000000 in
set_option maxRecDepth 100000 in
theorem peel_any (key : List UInt8) (p : Pkt) (hk : key.length = 32) (hp : p.ok) (w : World) (hT : Tb w) :
    Calls Tryz.prog 9 #[.agg (cellsB key).toArray, .agg (pktC p).toArray] w fun e w' => e = .returned (.tuple #[.agg (slotC (peelS key p)).toArray, .agg (pktC (peelP key p)).toArray, .int .i64 (peelE key p)]) ∧ Below w.heap.size w w' := by
  have H := hide (OAt.start hT)
  have HK := hide (cl hk)
  have HPL := hide (pktC_length hp)
  have HPN := hide (pktC_nonce hp)
  have HPM := hide (pktC_mac hp)
  have HPH := hide (pktC_head hp)
  have HPB := hide (pktC_body hp)
  have HPO := hide hp
  have HMC := hide (fun (W : World) (h : Tb W) => mac_o key p hk hp W h)
  have HWD := hide (fun (W : World) (h : Tb W) => wide_any p.head hp.head W h)
  have HHS := hide (fun (W : World) (h : Tb W) => head_any key p.epoch p.nonce hk hp.nonce hp.epoch W h)
  have HBS := hide (fun (W : World) (h : Tb W) => body_any key p.epoch p.nonce hk hp.nonce hp.epoch W h)
  have HML := hide (macO_length key p)
  have HG : Hid (goodP key p = (macO key p == p.mac)) := rfl
  have HPS : Hid (peelS key p = if goodP key p = true then ansM ((shownL key p).take 64) else slot0) := rfl
  have HPE : Hid (peelE key p = if goodP key p = true then errD ((shownL key p).take 64) else 4) := rfl
  have HPP : Hid (peelP key p = if goodP key p = true then (if okB ((shownL key p).take 64) = true then nextP key p (ansM ((shownL key p).take 64)) else pkt0) else pkt0) := rfl
  have HNX : Hid (∀ s, nextP key p s = ⟨s.who, s.epoch, s.nonce, s.mac, (shownL key p).drop 64, xorB p.body (bodyS key p.epoch p.nonce)⟩) := fun _ => rfl
  have HSO := hide (peelS_ok key hp)
  have HQO := hide (peelP_ok key hp)
  have HSE : Hid (xorB (p.head ++ zeros 64) (headS key p.epoch p.nonce) = shownL key p) := rfl
  have HSH := hide (shownL_length key hp.head)
  have HHL := hide (headS_length key p.epoch p.nonce)
  have HBL := hide (bodyS_length key p.epoch p.nonce)
  have HNB : Hid ((xorB p.body (bodyS key p.epoch p.nonce)).length = 256) := by show _ = _; rw [xorB_length, hp.body, bodyS_length]; rfl
  have hwl : (p.head ++ zeros 64).length = 384 := by rw [List.length_append, hp.head, zeros_length]
  have HWL := hide hwl
  have hsm := slM
  have h384 := sl384
  have h256 := sl256
  generalize peelS key p = PS at *
  generalize peelE key p = PE at *
  generalize peelP key p = PP at *
  generalize nextP key p = NX at *
  generalize goodP key p = G at *
  generalize macO key p = mc at *
  generalize shownL key p = sh at *
  generalize headS key p.epoch p.nonce = hs at *
  generalize bodyS key p.epoch p.nonce = bs at *
  generalize p.head ++ zeros 64 = wd at *
  clear hT hk hp hwl
  have HMl := hide (cl HML.out)
  go_enter Tryz.func9, Tryz.ntmps9
  go_wp2_with (first
    | (with_reducible refine at_op (op := ⟨some 2, _, _, _, _, _⟩) ?_; (refine wpl_boxa (op := ⟨some 2, _, _, _, _, _⟩) rfl _ _ rfl (cellsB key) rfl ?_); intro g2 W2 hB1 hg1 hF1; replace H := hide (H.out.box hg1 hF1 hB1); clear hB1 hg1 hF1)
    | (with_reducible refine at_op (op := ⟨some 3, _, _, _, _, _⟩) ?_; (refine wpl_boxa (op := ⟨some 3, _, _, _, _, _⟩) rfl _ _ rfl (pktC p) rfl ?_); intro g3 W3 hB1 hg1 hF1; replace H := hide (H.out.box hg1 hF1 hB1); clear hB1 hg1 hF1)
    | (with_reducible refine at_op (op := ⟨some 4, _, _, _, _, _⟩) ?_; (with_reducible refine wpl_alloca (op := ⟨some 4, _, _, _, _, _⟩) rfl _ rfl _ zeroS ?_); intro g4 W4 hB1 hg1 hF1; replace H := hide (H.out.box hg1 hF1 hB1); clear hB1 hg1 hF1)
    | (with_reducible refine at_op (op := ⟨some 5, _, _, _, _, _⟩) ?_; (with_reducible refine wpl_alloca (op := ⟨some 5, _, _, _, _, _⟩) rfl _ rfl _ zeroP ?_); intro g5 W5 hB1 hg1 hF1; replace H := hide (H.out.box hg1 hF1 hB1); clear hB1 hg1 hF1)
    | (with_reducible refine at_op (op := ⟨some 13, _, _, _, _, _⟩) ?_; refine wpl_held (op := ⟨some 13, _, _, _, _, _⟩) (.agg (cellsB key).toArray) (held_loadf aggK _ rfl g2 rfl _ (cellsB key) (H.out.get 0 rfl) HK.out) rfl ?_)
    | (with_reducible refine at_op (op := ⟨some 14, _, _, _, _, _⟩) ?_; refine wpl_held (op := ⟨some 14, _, _, _, _, _⟩) (.agg (pktC p).toArray) (held_loadf aggP _ rfl g3 rfl _ (pktC p) (H.out.get 1 rfl) HPL.out) rfl ?_)
    | (go_at_call 12; with_reducible refine (HMC.out _ H.out.tb).mono ?_; rintro e W6 ⟨rfl, hbc⟩; replace H := hide (H.out.call hbc); clear hbc)
    | ((with_reducible refine wpl_alloca (op := ⟨some 7, _, _, _, _, _⟩) rfl _ rfl _ zeroM ?_); intro g7 V7 hB1 hg1 hF1)
    | ((with_reducible refine wpl_storea aggM rfl (.tmp 7) (.tmp 15) rfl g7 (cellsB mc) rfl rfl _ _ hB1 HMl.out Z16_len (cellsB_one _) ?_); intro W7 hB2 hF2; replace H := hide (H.out.var hg1 hF1 hF2 hB2); clear hB1 hg1 hF1 hB2 hF2))
  refine wp_region_held_drew (S := fun W' => True) (by kernel_rfl) (trivial) ?_
  intro hHeld
  obtain ⟨W8, hW8⟩ : ∃ W8, W8 = W7.drew := ⟨_, rfl⟩
  replace H := hide (by rw [hW8]; exact H.out.drew : OAt w _ W8)
  rw [← hW8]
  clear hW8
  refine tkH 0 (v := ?v1) rfl ?hy1 ?rest1
  case hy1 => (intro w hSw; (try go_simp); try with_reducible rfl)
  try simp only [Act.put, PTs]
  refine tkH 1 (v := ?v2) rfl ?hy2 ?rest2
  case hy2 => (intro w hSw; (try go_simp); try with_reducible rfl)
  try simp only [Act.put, PTs]
  refine tkH 2 (v := ?v3) rfl ?hy3 ?rest3
  case hy3 => (intro w hSw; (try go_simp); try with_reducible rfl)
  try simp only [Act.put, PTs]
  refine rdH 3 rfl (by kernel_rfl) (fun K hK => ?_)
  go_simp
  refine (same_any (some ⟨g7, 0, none⟩) (some ⟨g3, 18, none⟩) 16 16 16 16 mc p.mac _ ((H.out.get 4 rfl).rdsn HML.out) ((H.out.get 1 rfl).mid 18 16 p.mac HPM.out HPO.out.mac) (by decide) (by decide)).mono ?_
  rintro e W9 ⟨rfl, q, hq⟩
  replace H := hide (by rw [hq]; exact H.out.drewN q : OAt w _ W9)
  clear hq
  have hdec : decide (mc = p.mac) = G := by rw [HG.out]; by_cases h : mc = p.mac <;> simp [h]
  rw [hdec]
  clear hdec
  refine hK.out _ _ (trivial) (fun hHeld => ?_)
  clear hK K
  refine tkH 4 (v := ?v4) rfl ?hy4 ?rest4
  case hy4 => (intro w hSw; (try go_simp); try with_reducible rfl)
  try simp only [Act.put, PTs]
  refine wpAnyH_done (by kernel_rfl) ?_ _
  clear hHeld
  cases G
  · have h1 : PS = slot0 := by rw [HPS.out]; rfl
    have h2 : PP = pkt0 := by rw [HPP.out]; rfl
    have h3 : PE = 4 := by rw [HPE.out]; rfl
    subst h1 h2 h3
    have hb1 := build_slot0
    have hb2 := build_pkt0
    go_wp2_with (first
      | (with_reducible refine at_op (op := ⟨some 21, _, _, _, _, _⟩) ?_; refine wpl_held (op := ⟨some 21, _, _, _, _, _⟩) (.agg (slotC slot0).toArray) (held_build _ _ rfl _ _ (hb1 _) rfl) rfl ?_)
      | (with_reducible refine at_op (op := ⟨some 22, _, _, _, _, _⟩) ?_; refine wpl_held (op := ⟨some 22, _, _, _, _, _⟩) (.agg (pktC pkt0).toArray) (held_build _ _ rfl _ _ (hb2 _) rfl) rfl ?_)
      | ((with_reducible refine wpl_storea aggS rfl (.tmp 4) (.tmp 21) rfl g4 (slotC slot0) rfl rfl _ _ (H.out.get 2 rfl) slot0_c (slot0_len) (slotC_one _) ?_); intro W10 hB1 hF1; replace H := hide (H.out.store 2 rfl hF1 hB1); clear hB1 hF1)
      | ((with_reducible refine wpl_storea aggP rfl (.tmp 5) (.tmp 22) rfl g5 (pktC pkt0) rfl rfl _ _ (H.out.get 3 rfl) pkt0_c (pkt0_len) (pktC_one _) ?_); intro W11 hB1 hF1; replace H := hide (H.out.store 3 rfl hF1 hB1); clear hB1 hF1))
    refine bodyPost_ret (results_cct aggS aggP rfl _ _ g4 g5 _ _ _ _ rfl (H.out.get 2 rfl) slot0_c rfl (H.out.get 3 rfl) pkt0_c) rfl ⟨rfl, H.out.bel⟩
  · have HEN : Hid (PE = errD (sh.take 64)) := HPE.out
    have HSN : Hid (PS = ansM (sh.take 64)) := HPS.out
    have HPN2 : Hid (PP = if okB (sh.take 64) = true then NX (ansM (sh.take 64)) else pkt0) := HPP.out
    clear HPE HPS HPP HG HMC
    have HWc := hide (cl HWL.out)
    have HBd := hide (cl HPO.out.head)
    go_wp2_with (first
      | (with_reducible refine at_op (op := ⟨some 24, _, _, _, _, _⟩) ?_; refine wpl_held (op := ⟨some 24, _, _, _, _, _⟩) (.agg (cellsB p.head).toArray) (held_loada agg320 _ rfl g3 34 rfl _ (pktC p) (cellsB p.head) (H.out.get 1 rfl) HPH.out (by rw [HPL.out]; decide)) rfl ?_)
      | (go_at_call 27; with_reducible refine (HWD.out _ H.out.tb).mono ?_; rintro e W10 ⟨rfl, hbc⟩; replace H := hide (H.out.call hbc); clear hbc)
      | ((with_reducible refine wpl_alloca (op := ⟨some 8, _, _, _, _, _⟩) rfl _ rfl _ zero384 ?_); intro g8 V8 hB1 hg1 hF1)
      | ((with_reducible refine wpl_storea agg384 rfl (.tmp 8) (.tmp 25) rfl g8 (cellsB wd) rfl rfl _ _ hB1 HWc.out zl_384 (cellsB_one _) ?_); intro W11 hB2 hF2; replace H := hide (H.out.var hg1 hF1 hF2 hB2); clear hB1 hg1 hF1 hB2 hF2))
    refine wp_region_held_drew (S := fun W' => Blk W' g2 26 (cellsB key).toArray ∧ Blk W' g3 34 (pktC p).toArray) (by kernel_rfl) (⟨H.out.drew.get 0 rfl, H.out.drew.get 1 rfl⟩) ?_
    intro hHeld
    obtain ⟨W12, hW12⟩ : ∃ W12, W12 = W11.drew := ⟨_, rfl⟩
    replace H := hide (by rw [hW12]; exact H.out.drew : OAt w _ W12)
    rw [← hW12] at hHeld ⊢
    clear hW12
    refine tkH 0 (v := ?v5) rfl ?hy5 ?rest5
    case hy5 => (intro w hSw; (try go_simp); try with_reducible rfl)
    try simp only [Act.put, PTs]
    refine tkH 1 (v := ?v6) rfl ?hy6 ?rest6
    case hy6 => (intro w hSw; refine held_loadf aggK (.tmp 2) ?_ g2 ?_ _ (cellsB key) hSw.1 HK.out <;> rfl)
    try simp only [Act.put, PTs]
    refine tkH 2 (v := ?v7) rfl ?hy7 ?rest7
    case hy7 => (intro w hSw; (try go_simp); try with_reducible rfl)
    try simp only [Act.put, PTs]
    refine tkH 3 (v := ?v8) rfl ?hy8 ?rest8
    case hy8 => (intro w hSw; refine held_load1 Tryz.underlying28 rfl one32 (.tmp 28) ?_ g3 1 ?_ _ _ (.int .u32 (p.epoch : Int)) hSw.2 rfl <;> rfl)
    try simp only [Act.put, PTs]
    refine tkH 4 (v := ?v9) rfl ?hy9 ?rest9
    case hy9 => (intro w hSw; (try go_simp); try with_reducible rfl)
    try simp only [Act.put, PTs]
    refine tkH 5 (v := ?v10) rfl ?hy10 ?rest10
    case hy10 => (intro w hSw; refine held_loada aggN (.tmp 30) ?_ g3 2 ?_ _ (pktC p) (cellsB p.nonce) hSw.2 HPN.out (by rw [HPL.out]; decide) <;> rfl)
    try simp only [Act.put, PTs]
    refine rdH 6 rfl (by kernel_rfl) (fun K hK => ?_)
    go_simp
    refine (HHS.out _ H.out.tb).mono ?_
    rintro e W13 ⟨gs, rfl, hb, hg, hbc⟩
    replace H := hide (H.out.box hg (Frm.of_below hbc) hb)
    clear hb hg hbc
    refine hK.out _ _ (⟨H.out.get 0 rfl, H.out.get 1 rfl⟩) (fun hHeld => ?_)
    clear hK K
    refine rdH 7 rfl (by kernel_rfl) (fun K hK => ?_)
    go_simp
    refine (xor_n (some ⟨g8, 0, none⟩) (some ⟨gs, 0, none⟩) 384 384 384 384 wd hs 384 _ ((H.out.get 5 rfl).rdsn HWL.out) ((H.out.get 6 rfl).rdsn HHL.out) (by decide) (by decide) (by rw [HSE.out]; exact HSH.out)).mono ?_
    rw [HSE.out]
    rintro e W14 ⟨g9, rfl, hb, hg, hbc⟩
    replace H := hide (H.out.box hg (Frm.of_below hbc) hb)
    clear hb hg hbc
    refine hK.out _ _ (⟨H.out.get 0 rfl, H.out.get 1 rfl⟩) (fun hHeld => ?_)
    clear hK K
    refine tkH 8 (v := ?v11) rfl ?hy11 ?rest11
    case hy11 => (intro w hSw; (try go_simp); try with_reducible rfl)
    try simp only [Act.put, PTs]
    refine wpAnyH_done (by kernel_rfl) ?_ _
    clear hHeld
    clear HWD HHS
    cases hO : okB (sh.take 64)
    · have hpp : PP = pkt0 := by rw [HPN2.out, hO]; rfl
      have her : errD (sh.take 64) = 3 := by unfold errD; rw [hO]; rfl
      have han : ansM (sh.take 64) = slot0 := by unfold ansM; rw [hO]; rfl
      have hpe : PE = 3 := by rw [HEN.out, her]
      have hps : PS = slot0 := by rw [HSN.out, han]
      subst hpp hpe hps
      clear HEN HSN HPN2
      have HT64 : Hid (((cellsB sh).drop 0).take 64 = cellsB (sh.take 64)) := by show _ = _; rw [List.drop_zero, cellsB_take]
      have HT320 : Hid (((cellsB sh).drop 64).take 320 = cellsB (sh.drop 64)) := by
        show _ = _
        rw [cellsB_drop, List.take_of_length_le]
        rw [cellsB_length, List.length_drop, HSH.out]; exact Nat.le_refl _
      have HSc := hide (cl HSH.out)
      have hl64 : (sh.take 64).length = 64 := by rw [List.length_take, HSH.out]; rfl
      have HD := hide (fun (W : World) => decode_any (sh.take 64) hl64 W)
      have HAO := hide (ansM_ok hl64)
      clear hO
      have hD0 := HD
      rw [her, han] at HD
      clear hD0 her han
      have HDl : Hid ((sh.drop 64).length = 320) := by show _ = _; rw [List.length_drop, HSH.out]
      have har64 := fun (g c : Nat) (w : World) => run_arr under64b (some ⟨g, 0, none⟩) 384 c (by decide) w
      have har320 := fun (g c : Nat) (w : World) => run_arr under320 (some ⟨g, 64, none⟩) 320 c (Nat.le_refl _) w
      have har256 := fun (g c : Nat) (w : World) => run_arr under256 (some ⟨g, 0, none⟩) 256 c (Nat.le_refl _) w
      generalize sh.take 64 = s64 at *
      generalize sh.drop 64 = h320b at *
      clear hl64
      obtain ⟨AN, hAN⟩ : ∃ s, s = slot0 := ⟨_, rfl⟩
      clear HAO
      have HAO : Hid (AN.ok) := by rw [hAN]; exact slot0_ok
      rw [← hAN] at HD
      clear hAN
      have HAc := hide (slotC_length AN HAO.out.nonce HAO.out.mac)
      have hb1 := build_slot0
      have hb2 := build_pkt0
      go_wp2_with (first
        | (with_reducible refine at_op (op := ⟨some 37, _, _, _, _, _⟩) ?_; refine wpl_held (op := ⟨some 37, _, _, _, _, _⟩) (.agg (cellsB s64).toArray) (held_loada agg64b _ rfl g9 0 rfl _ (cellsB sh) (cellsB s64) (H.out.get 7 rfl) HT64.out (by rw [HSc.out]; decide)) rfl ?_)
        | (go_at_call 30; with_reducible refine (HD.out _).mono ?_; rintro e W15 ⟨rfl, hbc⟩; replace H := hide (H.out.call hbc); clear hbc)
        | ((with_reducible refine wpl_alloca (op := ⟨some 10, _, _, _, _, _⟩) rfl _ rfl _ zeroS ?_); intro g10 V10 hB1 hg1 hF1)
        | ((with_reducible refine wpl_storea aggS rfl (.tmp 10) (.tmp 39) rfl g10 (slotC AN) rfl rfl _ _ hB1 HAc.out slot0_len (slotC_one _) ?_); intro W16 hB2 hF2; replace H := hide (H.out.var hg1 hF1 hF2 hB2); clear hB1 hg1 hF1 hB2 hF2)
        | (with_reducible refine at_op (op := ⟨some 43, _, _, _, _, _⟩) ?_; refine wpl_held (op := ⟨some 43, _, _, _, _, _⟩) (.agg (slotC slot0).toArray) (held_build _ _ rfl _ _ (hb1 _) rfl) rfl ?_)
        | (with_reducible refine at_op (op := ⟨some 44, _, _, _, _, _⟩) ?_; refine wpl_held (op := ⟨some 44, _, _, _, _, _⟩) (.agg (pktC pkt0).toArray) (held_build _ _ rfl _ _ (hb2 _) rfl) rfl ?_)
        | ((with_reducible refine wpl_storea aggS rfl (.tmp 4) (.tmp 43) rfl g4 (slotC slot0) rfl rfl _ _ (H.out.get 2 rfl) slot0_c (slot0_len) (slotC_one _) ?_); intro W17 hB1 hF1; replace H := hide (H.out.store 2 rfl hF1 hB1); clear hB1 hF1)
        | ((with_reducible refine wpl_storea aggP rfl (.tmp 5) (.tmp 44) rfl g5 (pktC pkt0) rfl rfl _ _ (H.out.get 3 rfl) pkt0_c (pkt0_len) (pktC_one _) ?_); intro W18 hB1 hF1; replace H := hide (H.out.store 3 rfl hF1 hB1); clear hB1 hF1))
      refine bodyPost_ret (results_cct aggS aggP rfl _ _ g4 g5 _ _ _ _ rfl (H.out.get 2 rfl) slot0_c rfl (H.out.get 3 rfl) pkt0_c) rfl ⟨rfl, H.out.bel⟩
    · have her : errD (sh.take 64) = 0 := by unfold errD; rw [hO]; rfl
      have hpe : PE = 0 := by rw [HEN.out, her]
      have hpp : PP = NX PS := by rw [HPN2.out, hO, HSN.out]; rfl
      subst hpe
      have HT64 : Hid (((cellsB sh).drop 0).take 64 = cellsB (sh.take 64)) := by show _ = _; rw [List.drop_zero, cellsB_take]
      have HT320 : Hid (((cellsB sh).drop 64).take 320 = cellsB (sh.drop 64)) := by
        show _ = _
        rw [cellsB_drop, List.take_of_length_le]
        rw [cellsB_length, List.length_drop, HSH.out]; exact Nat.le_refl _
      have HSc := hide (cl HSH.out)
      have hl64 : (sh.take 64).length = 64 := by rw [List.length_take, HSH.out]; rfl
      have HD := hide (fun (W : World) => decode_any (sh.take 64) hl64 W)
      clear hO
      rw [her, ← HSN.out] at HD
      clear her HEN HPN2
      have HDl : Hid ((sh.drop 64).length = 320) := by show _ = _; rw [List.length_drop, HSH.out]
      have har64 := fun (g c : Nat) (w : World) => run_arr under64b (some ⟨g, 0, none⟩) 384 c (by decide) w
      have har320 := fun (g c : Nat) (w : World) => run_arr under320 (some ⟨g, 64, none⟩) 320 c (Nat.le_refl _) w
      have har256 := fun (g c : Nat) (w : World) => run_arr under256 (some ⟨g, 0, none⟩) 256 c (Nat.le_refl _) w
      generalize sh.take 64 = s64 at *
      generalize sh.drop 64 = h320b at *
      clear hl64
      have HAc := hide (slotC_length PS HSO.out.nonce HSO.out.mac)
      rw [HNX.out] at hpp
      have hb4 := build_pkt4 PS.who PS.epoch PS.nonce PS.mac HSO.out.nonce HSO.out.mac
      obtain ⟨q1, hq1⟩ : ∃ q : Pkt, q = ⟨PS.who, PS.epoch, PS.nonce, PS.mac, zeros 320, zeros 256⟩ := ⟨_, rfl⟩
      have HQ1 : Hid (q1.ok) := by rw [hq1]; exact ⟨HSO.out.who, HSO.out.epoch, HSO.out.nonce, HSO.out.mac, zeros_length _, zeros_length _⟩
      rw [← hq1] at hb4
      obtain ⟨q2, hq2⟩ : ∃ q : Pkt, q = { q1 with head := h320b } := ⟨_, rfl⟩
      have HQ2 : Hid (q2.ok) := by rw [hq2]; exact ⟨HQ1.out.who, HQ1.out.epoch, HQ1.out.nonce, HQ1.out.mac, HDl.out, HQ1.out.body⟩
      have HQ3 : Hid ({ q2 with body := xorB p.body bs } = PP) := by show _ = _; rw [hpp, hq2, hq1]
      have HX1 : Hid (splice (pktC q1) 34 (cellsB h320b) = pktC q2) := by show _ = _; rw [hq2]; exact pktC_shd HQ1.out _ HDl.out
      have HX2 : Hid (splice (pktC q2) 354 (cellsB (xorB p.body bs)) = pktC PP) := by show _ = _; rw [← HQ3.out]; exact pktC_sbd HQ2.out _ HNB.out
      have HL1 := hide (pktC_length HQ1.out)
      have HL2 := hide (pktC_length HQ2.out)
      have HLP := hide (pktC_length HQO.out)
      have HDc := hide (cl HDl.out)
      have HNc := hide (cl HNB.out)
      have HF1 := hide (pktC_fits HQ1.out)
      have HF2 := hide (pktC_fits HQ2.out)
      clear hq1 hq2 hpp
      generalize hnb : xorB p.body bs = nb at *
      have Hnb := hide hnb
      clear hnb
      go_wp2_with (first
        | (with_reducible refine at_op (op := ⟨some 37, _, _, _, _, _⟩) ?_; refine wpl_held (op := ⟨some 37, _, _, _, _, _⟩) (.agg (cellsB s64).toArray) (held_loada agg64b _ rfl g9 0 rfl _ (cellsB sh) (cellsB s64) (H.out.get 7 rfl) HT64.out (by rw [HSc.out]; decide)) rfl ?_)
        | (go_at_call 30; with_reducible refine (HD.out _).mono ?_; rintro e W15 ⟨rfl, hbc⟩; replace H := hide (H.out.call hbc); clear hbc)
        | ((with_reducible refine wpl_alloca (op := ⟨some 10, _, _, _, _, _⟩) rfl _ rfl _ zeroS ?_); intro g10 V10 hB1 hg1 hF1)
        | ((with_reducible refine wpl_storea aggS rfl (.tmp 10) (.tmp 39) rfl g10 (slotC PS) rfl rfl _ _ hB1 HAc.out slot0_len (slotC_one _) ?_); intro W16 hB2 hF2; replace H := hide (H.out.var hg1 hF1 hF2 hB2); clear hB1 hg1 hF1 hB2 hF2)
        | (with_reducible refine at_op (op := ⟨some 47, _, _, _, _, _⟩) ?_; refine wpl_held (op := ⟨some 47, _, _, _, _, _⟩) (.int .u16 (PS.who : Int)) (held_load1 Tryz.underlying27 rfl one16w _ rfl g10 3 rfl _ _ (.int .u16 (PS.who : Int)) (H.out.get 8 rfl) rfl) rfl ?_)
        | (with_reducible refine at_op (op := ⟨some 49, _, _, _, _, _⟩) ?_; refine wpl_held (op := ⟨some 49, _, _, _, _, _⟩) (.int .u32 (PS.epoch : Int)) (held_load1 Tryz.underlying28 rfl one32 _ rfl g10 4 rfl _ _ (.int .u32 (PS.epoch : Int)) (H.out.get 8 rfl) rfl) rfl ?_)
        | (with_reducible refine at_op (op := ⟨some 51, _, _, _, _, _⟩) ?_; refine wpl_held (op := ⟨some 51, _, _, _, _, _⟩) (.agg (cellsB PS.nonce).toArray) (held_loada aggN _ rfl g10 5 rfl _ (slotC PS) (cellsB PS.nonce) (H.out.get 8 rfl) (slotC_nonce HSO.out.nonce) (by rw [HAc.out]; decide)) rfl ?_)
        | (with_reducible refine at_op (op := ⟨some 53, _, _, _, _, _⟩) ?_; refine wpl_held (op := ⟨some 53, _, _, _, _, _⟩) (.agg (cellsB PS.mac).toArray) (held_loada aggM _ rfl g10 21 rfl _ (slotC PS) (cellsB PS.mac) (H.out.get 8 rfl) (slotC_mac HSO.out.nonce HSO.out.mac) (by rw [HAc.out]; decide)) rfl ?_)
        | (with_reducible refine at_op (op := ⟨some 54, _, _, _, _, _⟩) ?_; refine wpl_held (op := ⟨some 54, _, _, _, _, _⟩) (.agg (pktC q1).toArray) (held_build _ _ rfl _ _ (hb4 _) rfl) rfl ?_)
        | ((with_reducible refine wpl_alloca (op := ⟨some 12, _, _, _, _, _⟩) rfl _ rfl _ zeroP ?_); intro g12 V12 hB1 hg1 hF1)
        | ((with_reducible refine wpl_storea aggP rfl (.tmp 12) (.tmp 54) rfl g12 (pktC q1) rfl rfl _ _ hB1 HL1.out pkt0_len (pktC_one _) ?_); intro W17 hB2 hF2; replace H := hide (H.out.var hg1 hF1 hF2 hB2); clear hB1 hg1 hF1 hB2 hF2)
        | (with_reducible refine at_op (op := ⟨some 58, _, _, _, _, _⟩) ?_; refine wpl_held (op := ⟨some 58, _, _, _, _, _⟩) (.agg (cellsB h320b).toArray) (held_loada agg320 _ rfl g9 64 rfl _ (cellsB sh) (cellsB h320b) (H.out.get 7 rfl) HT320.out (by rw [HSc.out]; decide)) rfl ?_)
        | ((with_reducible refine wpl_storem agg320 rfl (.tmp 59) (.tmp 58) rfl g12 34 (cellsB h320b) (pktC q1) (pktC q2) rfl rfl _ (H.out.get 9 rfl) HDc.out HF1.out.2.2.1 HX1.out (cellsB_one _) ?_); intro W18 hB1 hF1; replace H := hide (H.out.store 9 rfl hF1 hB1); clear hB1 hF1))
      refine wp_region_held_drew (S := fun W' => Blk W' g2 26 (cellsB key).toArray ∧ Blk W' g3 34 (pktC p).toArray) (by kernel_rfl) (⟨H.out.drew.get 0 rfl, H.out.drew.get 1 rfl⟩) ?_
      intro hHeld
      obtain ⟨W19, hW19⟩ : ∃ W19, W19 = W18.drew := ⟨_, rfl⟩
      replace H := hide (by rw [hW19]; exact H.out.drew : OAt w _ W19)
      rw [← hW19] at hHeld ⊢
      clear hW19
      refine tkH 0 (v := ?v12) rfl ?hy12 ?rest12
      case hy12 => (intro w hSw; (try go_simp); try with_reducible rfl)
      try simp only [Act.put, PTs]
      refine tkH 1 (v := ?v13) rfl ?hy13 ?rest13
      case hy13 => (intro w hSw; (try go_simp); try with_reducible rfl)
      try simp only [Act.put, PTs]
      refine tkH 2 (v := ?v14) rfl ?hy14 ?rest14
      case hy14 => (intro w hSw; refine held_loadf aggK (.tmp 2) ?_ g2 ?_ _ (cellsB key) hSw.1 HK.out <;> rfl)
      try simp only [Act.put, PTs]
      refine tkH 3 (v := ?v15) rfl ?hy15 ?rest15
      case hy15 => (intro w hSw; (try go_simp); try with_reducible rfl)
      try simp only [Act.put, PTs]
      refine tkH 4 (v := ?v16) rfl ?hy16 ?rest16
      case hy16 => (intro w hSw; refine held_load1 Tryz.underlying28 rfl one32 (.tmp 63) ?_ g3 1 ?_ _ _ (.int .u32 (p.epoch : Int)) hSw.2 rfl <;> rfl)
      try simp only [Act.put, PTs]
      refine tkH 5 (v := ?v17) rfl ?hy17 ?rest17
      case hy17 => (intro w hSw; (try go_simp); try with_reducible rfl)
      try simp only [Act.put, PTs]
      refine tkH 6 (v := ?v18) rfl ?hy18 ?rest18
      case hy18 => (intro w hSw; refine held_loada aggN (.tmp 65) ?_ g3 2 ?_ _ (pktC p) (cellsB p.nonce) hSw.2 HPN.out (by rw [HPL.out]; decide) <;> rfl)
      try simp only [Act.put, PTs]
      refine rdH 7 rfl (by kernel_rfl) (fun K hK => ?_)
      go_simp
      refine (HBS.out _ H.out.tb).mono ?_
      rintro e W20 ⟨gb, rfl, hb, hg, hbc⟩
      replace H := hide (H.out.box hg (Frm.of_below hbc) hb)
      clear hb hg hbc
      refine hK.out _ _ (⟨H.out.get 0 rfl, H.out.get 1 rfl⟩) (fun hHeld => ?_)
      clear hK K
      refine rdH 8 rfl (by kernel_rfl) (fun K hK => ?_)
      go_simp
      refine (xor_n (some ⟨g3, 354, none⟩) (some ⟨gb, 0, none⟩) 256 256 256 256 p.body bs 256 _ ((H.out.get 1 rfl).mid 354 256 p.body HPB.out HPO.out.body) ((H.out.get 10 rfl).rdsn HBL.out) (by decide) (by decide) (by rw [Hnb.out]; exact HNB.out)).mono ?_
      rw [Hnb.out]
      rintro e W21 ⟨gx, rfl, hb, hg, hbc⟩
      replace H := hide (H.out.box hg (Frm.of_below hbc) hb)
      clear hb hg hbc
      refine hK.out _ _ (⟨H.out.get 0 rfl, H.out.get 1 rfl⟩) (fun hHeld => ?_)
      clear hK K
      refine tkH 9 (v := ?v19) rfl ?hy19 ?rest19
      case hy19 => (intro w hSw; (try go_simp); try with_reducible rfl)
      try simp only [Act.put, PTs]
      refine rdH 10 rfl (by kernel_rfl) (fun K hK => ?_)
      refine step_held (.agg (cellsB nb).toArray) (by refine held_loadf agg256 (.tmp 69) ?_ gx ?_ _ (cellsB nb) (H.out.get 11 rfl) HNc.out <;> rfl) rfl ?_
      refine hK.out _ _ (⟨H.out.get 0 rfl, H.out.get 1 rfl⟩) (fun hHeld => ?_)
      clear hK K
      try simp only [Act.put, PTs]
      refine tkH 11 (v := ?v20) rfl ?hy20 ?rest20
      case hy20 => (intro w hSw; (try go_simp); try with_reducible rfl)
      try simp only [Act.put, PTs]
      refine rdH 12 rfl (by kernel_rfl) (fun K hK => ?_)
      refine step_storem agg256 rfl (.tmp 71) (.tmp 70) rfl g12 354 (cellsB nb) _ _ rfl rfl _ (H.out.get 9 rfl) HNc.out HF2.out.2.2.2 HX2.out (cellsB_one _) ?_
      intro W22 hB22 hF22
      replace H := hide (H.out.store 9 rfl hF22 hB22)
      clear hB22 hF22
      refine hK.out _ _ (⟨H.out.get 0 rfl, H.out.get 1 rfl⟩) (fun hHeld => ?_)
      clear hK K
      refine wpAnyH_done (by kernel_rfl) ?_ _
      clear hHeld
      go_wp2_with fail
      refine wp_region_held_drew (S := fun W' => Blk W' g10 51 (slotC PS).toArray ∧ Blk W' g12 34 (pktC PP).toArray) (by kernel_rfl) (⟨H.out.drew.get 8 rfl, H.out.drew.get 9 rfl⟩) ?_
      intro hHeld
      obtain ⟨W23, hW23⟩ : ∃ W23, W23 = W22.drew := ⟨_, rfl⟩
      replace H := hide (by rw [hW23]; exact H.out.drew : OAt w _ W23)
      rw [← hW23] at hHeld ⊢
      clear hW23
      refine tkH 0 (v := ?v21) rfl ?hy21 ?rest21
      case hy21 => (intro w hSw; refine held_loadf aggS (.tmp 10) ?_ g10 ?_ _ (slotC PS) hSw.1 HAc.out <;> rfl)
      try simp only [Act.put, PTs]
      refine tkH 1 (v := ?v22) rfl ?hy22 ?rest22
      case hy22 => (intro w hSw; refine held_loadf aggP (.tmp 12) ?_ g12 ?_ _ (pktC PP) hSw.2 HLP.out <;> rfl)
      try simp only [Act.put, PTs]
      refine rdH 2 rfl (by kernel_rfl) (fun K hK => ?_)
      refine step_storem aggS rfl (.tmp 4) (.tmp 72) rfl g4 0 (slotC PS) _ (slotC PS) rfl rfl _ (H.out.get 2 rfl) HAc.out (Nat.le_of_eq (by rw [Nat.zero_add]; exact slot0_len.symm)) (splice_all _ _ (by rw [HAc.out]; exact slot0_c)) (slotC_one _) ?_
      intro W24 hB24 hF24
      replace H := hide (H.out.store 2 rfl hF24 hB24)
      clear hB24 hF24
      refine hK.out _ _ (⟨H.out.get 8 rfl, H.out.get 9 rfl⟩) (fun hHeld => ?_)
      clear hK K
      refine rdH 3 rfl (by kernel_rfl) (fun K hK => ?_)
      refine step_storem aggP rfl (.tmp 5) (.tmp 73) rfl g5 0 (pktC PP) _ (pktC PP) rfl rfl _ (H.out.get 3 rfl) HLP.out (Nat.le_of_eq (by rw [Nat.zero_add]; exact pkt0_c.symm)) (splice_all _ _ (by rw [HLP.out]; exact pkt0_c)) (pktC_one _) ?_
      intro W25 hB25 hF25
      replace H := hide (H.out.store 3 rfl hF25 hB25)
      clear hB25 hF25
      refine hK.out _ _ (⟨H.out.get 8 rfl, H.out.get 9 rfl⟩) (fun hHeld => ?_)
      clear hK K
      refine tkH 4 (v := ?v23) rfl ?hy23 ?rest23
      case hy23 => (intro w hSw; (try go_simp); try with_reducible rfl)
      try simp only [Act.put, PTs]
      refine wpAnyH_done (by kernel_rfl) ?_ _
      clear hHeld
      go_wp2_with fail
      refine bodyPost_ret (results_cct aggS aggP rfl _ _ g4 g5 _ _ _ _ rfl (H.out.get 2 rfl) HAc.out rfl (H.out.get 3 rfl) HLP.out) rfl ⟨rfl, H.out.bel⟩

end Go.Proofs.YtoiiiflnnhkjbaaGreatDoor
