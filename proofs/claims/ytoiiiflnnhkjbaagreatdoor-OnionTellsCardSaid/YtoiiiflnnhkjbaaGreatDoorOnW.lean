/-
  wrap.
-/
import Derived.Test.YtoiiiflnnhkjbaaGreatDoorHp
import Derived.Test.YtoiiiflnnhkjbaaGreatDoorOnD
import Derived.Test.YtoiiiflnnhkjbaaGreatDoorOnF
import Derived.Test.YtoiiiflnnhkjbaaGreatDoorOnH
namespace Go.Proofs.YtoiiiflnnhkjbaaGreatDoor
set_option linter.unusedVariables false
set_option linter.unusedSimpArgs false
open Go.RowKit

/-- Two rows of bytes, put together. -/
theorem concat_two (w : World) (v1 v2 : Value) (l1 l2 : List UInt8) (n : Nat) (h1 : Prt w v1 l1) (h2 : Prt w v2 l2) (hn : l1.length + l2.length = n) (hp : 0 < n) (hm : n ≤ 100000) :
    Calls Tryz.prog 44 #[.slice (some ⟨w.heap.size, 0, none⟩) 2 2] (w.alloc (.cells [v1, v2].toArray 46)) fun e w' => ∃ A c, e = .returned (.slice A n c) ∧ Rds w' A n (cellsB (l1 ++ l2)) ∧ Below w.heap.size w w' := by
  have hpp := parts_alloc w [v1, v2] [l1, l2] 46 (.cons h1 (.cons h2 .nil))
  have hf : [l1, l2].flatten = l1 ++ l2 := by simp
  have hl : [l1, l2].flatten.length = n := by rw [hf, List.length_append]; exact hn
  have hb0 : Below w.heap.size w (w.alloc (.cells [v1, v2].toArray 46)) := (Frm.alloc w _ (fun _ => False)).below (Nat.le_refl _) (fun _ h => h.elim)
  refine (concat_any (some ⟨w.heap.size, 0, none⟩) 2 [v1, v2] [l1, l2] _ hpp (by omega) (by omega) (by simp)).mono ?_
  rintro e w' ⟨A, c, he, hown, hb⟩
  rw [cellsB_length, hl] at he hown
  refine ⟨A, c, he, ?_, hb0.trans (hb.mono hb0.size)⟩
  have := (Seg.of_own hown).rds
  rwa [hf] at this
theorem build_pkt3 (who epoch : Nat) (nonce : List UInt8) (hn : nonce.length = 16) (w : World) : Sem.run Tryz.prog (Instr.build 34 #[(0, .int .u16 (who : Int)), (1, .int .u32 (epoch : Int)), (2, .agg (cellsB nonce).toArray)]) w = .ok (.agg (pktC ⟨who, epoch, nonce, Z16, zeros 320, zeros 256⟩).toArray) w :=
  match nonce, hn with
  | [_, _, _, _, _, _, _, _, _, _, _, _, _, _, _, _], _ => run_build w _ _ _ (by kernel_rfl)

set_option maxHeartbeats 16000000 in
set_option maxRecDepth 100000 in
theorem wrap_any (h : HopL) (s : Slot) (p : Pkt) (hk : h.ok) (hs : s.ok) (hp : p.ok) (w : World) (hT : Tb w) :
    Calls Tryz.prog 18 #[.agg (hopC h).toArray, .agg (slotC s).toArray, .agg (pktC p).toArray] w fun e w' => e = .returned (.agg (pktC (wrapL h s p)).toArray) ∧ Below w.heap.size w w' := by
  have H := hide (OAt.start hT)
  have HHL := hide (hopC_length hk)
  have HSL := hide (slotC_length s hs.nonce hs.mac)
  have HPL := hide (pktC_length hp)
  have HPH := hide (pktC_head hp)
  have HPB := hide (pktC_body hp)
  have HHK := hide (hopC_key hk)
  have HHN := hide (hopC_nonce hk)
  have HHE := hide (hopC_epoch hk)
  have HPO := hide hp
  have HHO := hide hk
  have HEN := hide (encode_any s hs)
  have HOL := hide (outM_len hs)
  have HSC := hide (cl (outM_len hs))
  have HHS := hide (fun (W : World) (x : Tb W) => head_any h.key h.epoch h.nonce hk.key hk.nonce hk.epoch W x)
  have HBS := hide (fun (W : World) (x : Tb W) => body_any h.key h.epoch h.nonce hk.key hk.nonce hk.epoch W x)
  have HMC := hide (fun (W : World) (x : Tb W) => mac_o h.key (wrapP h s p) hk.key (wrapP_ok hk hs hp) W x)
  have HWP : Hid (wrapP h s p = ⟨h.who, h.epoch, h.nonce, Z16, (xorB (outM s ++ p.head) (headS h.key h.epoch h.nonce)).take 320, xorB p.body (bodyS h.key h.epoch h.nonce)⟩) := rfl
  have HWL : Hid (wrapL h s p = { wrapP h s p with mac := macO h.key (wrapP h s p) }) := rfl
  have HQ3 := hide (wrapP_ok hk hs hp)
  have HQ4 := hide (wrapL_ok hk hs hp)
  have HML := hide (macO_length h.key (wrapP h s p))
  have HHS2 := hide (headS_length h.key h.epoch h.nonce)
  have HBS2 := hide (bodyS_length h.key h.epoch h.nonce)
  have hx1 : (xorB (outM s ++ p.head) (headS h.key h.epoch h.nonce)).length = 384 := by rw [xorB_length, List.length_append, outM_len hs, hp.head, headS_length]; rfl
  have hx2 : (xorB p.body (bodyS h.key h.epoch h.nonce)).length = 256 := by rw [xorB_length, hp.body, bodyS_length]; rfl
  have HX1 := hide hx1
  have HX2 := hide hx2
  have hb3 := build_pkt3 h.who h.epoch h.nonce hk.nonce
  have h320 := sl320
  have h256 := sl256
  have h64 := sl64
  have har320 := fun (g c : Nat) (w : World) => run_arr under320 (some ⟨g, 0, none⟩) 384 c (by decide) w
  have har256 := fun (g c : Nat) (w : World) => run_arr under256 (some ⟨g, 0, none⟩) 256 c (Nat.le_refl _) w
  generalize wrapL h s p = Q4 at *
  generalize wrapP h s p = Q3 at *
  generalize macO h.key Q3 = mc at *
  generalize outM s = os at *
  generalize errR s = er at *
  generalize headS h.key h.epoch h.nonce = hd at *
  generalize bodyS h.key h.epoch h.nonce = bs at *
  generalize hX : xorB (os ++ p.head) hd = X at *
  generalize hY : xorB p.body bs = Y at *
  have HXE := hide hX
  have HYE := hide hY
  obtain ⟨q1, hq1⟩ : ∃ q : Pkt, q = ⟨h.who, h.epoch, h.nonce, Z16, zeros 320, zeros 256⟩ := ⟨_, rfl⟩
  have HQ1 : Hid (q1.ok) := by rw [hq1]; exact ⟨hk.who, hk.epoch, hk.nonce, rfl, zeros_length _, zeros_length _⟩
  rw [← hq1] at hb3
  have hxt : (X.take 320).length = 320 := by rw [List.length_take, hx1]; rfl
  have HXT := hide hxt
  obtain ⟨q2, hq2⟩ : ∃ q : Pkt, q = { q1 with head := X.take 320 } := ⟨_, rfl⟩
  have HQ2 : Hid (q2.ok) := by rw [hq2]; exact ⟨HQ1.out.who, HQ1.out.epoch, HQ1.out.nonce, HQ1.out.mac, hxt, HQ1.out.body⟩
  have HS1 : Hid (splice (pktC q1) 34 (cellsB (X.take 320)) = pktC q2) := by show _ = _; rw [hq2]; exact pktC_shead HQ1.out _ hxt
  have HS2 : Hid (splice (pktC q2) 354 (cellsB Y) = pktC Q3) := by show _ = _; rw [HWP.out, pktC_sbody HQ2.out _ hx2, hq2, hq1]
  have HS3 : Hid (splice (pktC Q3) 18 (cellsB mc) = pktC Q4) := by show _ = _; rw [pktC_smac HQ3.out _ HML.out, HWL.out]
  have HXc : Hid (((cellsB X).drop 0).take 320 = cellsB (X.take 320)) := by show _ = _; rw [List.drop_zero, cellsB_take]
  clear HWP HWL hq1 hq2 hX hY hx1 hx2
  have HL1 := hide (pktC_length HQ1.out)
  have HL3 := hide (pktC_length HQ3.out)
  have HL4 := hide (pktC_length HQ4.out)
  have HF1 := hide (pktC_fits HQ1.out)
  have HF2 := hide (pktC_fits HQ2.out)
  have HF3 := hide (pktC_fits HQ3.out)
  have HXL := hide (cl HX1.out)
  have HXTc := hide (cl hxt)
  have HYc := hide (cl HX2.out)
  have HMc := hide (cl HML.out)
  generalize X.take 320 = XT at *
  clear hT hk hs hp hxt
  go_enter Tryz.func18, Tryz.ntmps18
  go_wp2_with (first
    | (with_reducible refine at_op (op := ⟨some 3, _, _, _, _, _⟩) ?_; (refine wpl_boxa (op := ⟨some 3, _, _, _, _, _⟩) rfl _ _ rfl (hopC h) rfl ?_); intro g3 W3 hB1 hg1 hF1; replace H := hide (H.out.box hg1 hF1 hB1); clear hB1 hg1 hF1)
    | (with_reducible refine at_op (op := ⟨some 4, _, _, _, _, _⟩) ?_; (refine wpl_boxa (op := ⟨some 4, _, _, _, _, _⟩) rfl _ _ rfl (slotC s) rfl ?_); intro g4 W4 hB1 hg1 hF1; replace H := hide (H.out.box hg1 hF1 hB1); clear hB1 hg1 hF1)
    | (with_reducible refine at_op (op := ⟨some 5, _, _, _, _, _⟩) ?_; (refine wpl_boxa (op := ⟨some 5, _, _, _, _, _⟩) rfl _ _ rfl (pktC p) rfl ?_); intro g5 W5 hB1 hg1 hF1; replace H := hide (H.out.box hg1 hF1 hB1); clear hB1 hg1 hF1)
    | (with_reducible refine at_op (op := ⟨some 6, _, _, _, _, _⟩) ?_; (with_reducible refine wpl_alloca (op := ⟨some 6, _, _, _, _, _⟩) rfl _ rfl _ zeroP ?_); intro g6 W6 hB1 hg1 hF1; replace H := hide (H.out.box hg1 hF1 hB1); clear hB1 hg1 hF1)
    | (with_reducible refine at_op (op := ⟨some 12, _, _, _, _, _⟩) ?_; refine wpl_held (op := ⟨some 12, _, _, _, _, _⟩) (.agg (slotC s).toArray) (held_loadf aggS _ rfl g4 rfl _ (slotC s) (H.out.get 1 rfl) HSL.out) rfl ?_)
    | (go_at_call 43; with_reducible refine (HEN.out _).mono ?_; rintro e W7 ⟨rfl, hbc⟩; replace H := hide (H.out.call hbc); clear hbc)
    | ((with_reducible refine wpl_alloca (op := ⟨some 7, _, _, _, _, _⟩) rfl _ rfl _ zero64 ?_); intro g7 V7 hB1 hg1 hF1)
    | ((with_reducible refine wpl_storea agg64b rfl (.tmp 7) (.tmp 14) rfl g7 (cellsB os) rfl rfl _ _ hB1 HSC.out z64_len (cellsB_one _) ?_); intro W8 hB2 hF2; replace H := hide (H.out.var hg1 hF1 hF2 hB2); clear hB1 hg1 hF1 hB2 hF2))
  refine wp_region_held_drew (S := fun W' => Blk W' g3 63 (hopC h).toArray ∧ Blk W' g5 34 (pktC p).toArray) (by kernel_rfl) (⟨H.out.drew.get 0 rfl, H.out.drew.get 2 rfl⟩) ?_
  intro hHeld
  obtain ⟨W9, hW9⟩ : ∃ W9, W9 = W8.drew := ⟨_, rfl⟩
  replace H := hide (by rw [hW9]; exact H.out.drew : OAt w _ W9)
  rw [← hW9] at hHeld ⊢
  clear hW9
  refine tkH 0 (v := ?v1) rfl ?hy1 ?rest1
  case hy1 => (intro w hSw; (try go_simp); try with_reducible rfl)
  try simp only [Act.put, PTs]
  refine tkH 1 (v := ?v2) rfl ?hy2 ?rest2
  case hy2 => (intro w hSw; (try go_simp); try with_reducible rfl)
  try simp only [Act.put, PTs]
  refine tkH 2 (v := ?v3) rfl ?hy3 ?rest3
  case hy3 => (intro w hSw; (try go_simp); try with_reducible rfl)
  try simp only [Act.put, PTs]
  refine tkH 5 (v := ?v4) rfl ?hy4 ?rest4
  case hy4 => (intro w hSw; (try go_simp); try with_reducible rfl)
  try simp only [Act.put, PTs]
  refine tkH 6 (v := ?v5) rfl ?hy5 ?rest5
  case hy5 => (intro w hSw; refine held_loada aggK (.tmp 21) ?_ g3 2 ?_ _ (hopC h) (cellsB h.key) hSw.1 HHK.out (by rw [HHL.out]; decide) <;> rfl)
  try simp only [Act.put, PTs]
  refine tkH 7 (v := ?v6) rfl ?hy6 ?rest6
  case hy6 => (intro w hSw; (try go_simp); try with_reducible rfl)
  try simp only [Act.put, PTs]
  refine tkH 8 (v := ?v7) rfl ?hy7 ?rest7
  case hy7 => (intro w hSw; refine held_load1 Tryz.underlying28 rfl one32 (.tmp 23) ?_ g3 34 ?_ _ _ (.int .u32 (h.epoch : Int)) hSw.1 HHE.out <;> rfl)
  try simp only [Act.put, PTs]
  refine tkH 9 (v := ?v8) rfl ?hy8 ?rest8
  case hy8 => (intro w hSw; (try go_simp); try with_reducible rfl)
  try simp only [Act.put, PTs]
  refine tkH 10 (v := ?v9) rfl ?hy9 ?rest9
  case hy9 => (intro w hSw; refine held_loada aggN (.tmp 25) ?_ g3 35 ?_ _ (hopC h) (cellsB h.nonce) hSw.1 HHN.out (by rw [HHL.out]; decide) <;> rfl)
  try simp only [Act.put, PTs]
  refine rdH 3 rfl (by kernel_rfl) (fun K hK => ?_)
  go_simp
  refine hK.out _ _ (⟨(H.out.get 0 rfl).al _, (H.out.get 2 rfl).al _⟩) (fun hHeld => ?_)
  clear hK K
  refine rdH 4 rfl (by kernel_rfl) (fun K hK => ?_)
  go_simp
  refine (concat_two W9 (.slice (some ⟨g7, 0, none⟩) 64 64) (.slice (some ⟨g5, 34, none⟩) 320 320) os p.head 384 ((H.out.get 4 rfl).prt HOL.out) ((H.out.get 2 rfl).prtm HPH.out HPO.out.head) (by rw [HOL.out, HPO.out.head]) (by decide) (by decide)).mono ?_
  rintro e W10 ⟨A, c, rfl, hr, hbc⟩
  replace H := hide (H.out.call hbc)
  have HR := hide hr
  clear hr hbc
  refine hK.out _ _ (⟨H.out.get 0 rfl, H.out.get 2 rfl⟩) (fun hHeld => ?_)
  clear hK K
  refine rdH 11 rfl (by kernel_rfl) (fun K hK => ?_)
  go_simp
  refine (HHS.out _ H.out.tb).mono ?_
  rintro e W11 ⟨gs, rfl, hb, hg, hbc⟩
  replace H := hide (H.out.box hg (Frm.of_below hbc) hb)
  replace HR := hide (HR.out.below hbc)
  clear hb hg hbc
  refine hK.out _ _ (⟨H.out.get 0 rfl, H.out.get 2 rfl⟩) (fun hHeld => ?_)
  clear hK K
  refine rdH 12 rfl (by kernel_rfl) (fun K hK => ?_)
  go_simp
  refine (xor_n A (some ⟨gs, 0, none⟩) 384 384 c 384 (os ++ p.head) hd 384 _ HR.out ((H.out.get 5 rfl).rdsn HHS2.out) (by decide) (by decide) (by rw [HXE.out]; exact HX1.out)).mono ?_
  rw [HXE.out]
  rintro e W12 ⟨gx, rfl, hb, hg, hbc⟩
  replace H := hide (H.out.box hg (Frm.of_below hbc) hb)
  clear hb hg hbc HR
  refine hK.out _ _ (⟨H.out.get 0 rfl, H.out.get 2 rfl⟩) (fun hHeld => ?_)
  clear hK K
  refine tkH 13 (v := ?v10) rfl ?hy10 ?rest10
  case hy10 => (intro w hSw; (try go_simp); try with_reducible rfl)
  try simp only [Act.put, PTs]
  refine wpAnyH_done (by kernel_rfl) ?_ _
  clear hHeld
  go_wp2_with (first
    | (with_reducible refine at_op (op := ⟨some 30, _, _, _, _, _⟩) ?_; refine wpl_held (op := ⟨some 30, _, _, _, _, _⟩) (.int .u16 (h.who : Int)) (held_load1 Tryz.underlying27 rfl one16w _ rfl g3 1 rfl _ _ (.int .u16 (h.who : Int)) (H.out.get 0 rfl) rfl) rfl ?_)
    | (with_reducible refine at_op (op := ⟨some 32, _, _, _, _, _⟩) ?_; refine wpl_held (op := ⟨some 32, _, _, _, _, _⟩) (.int .u32 (h.epoch : Int)) (held_load1 Tryz.underlying28 rfl one32 _ rfl g3 34 rfl _ _ (.int .u32 (h.epoch : Int)) (H.out.get 0 rfl) HHE.out) rfl ?_)
    | (with_reducible refine at_op (op := ⟨some 34, _, _, _, _, _⟩) ?_; refine wpl_held (op := ⟨some 34, _, _, _, _, _⟩) (.agg (cellsB h.nonce).toArray) (held_loada aggN _ rfl g3 35 rfl _ (hopC h) (cellsB h.nonce) (H.out.get 0 rfl) HHN.out (by rw [HHL.out]; decide)) rfl ?_)
    | (with_reducible refine at_op (op := ⟨some 35, _, _, _, _, _⟩) ?_; refine wpl_held (op := ⟨some 35, _, _, _, _, _⟩) (.agg (pktC q1).toArray) (held_build _ _ rfl _ _ (hb3 _) rfl) rfl ?_)
    | ((with_reducible refine wpl_alloca (op := ⟨some 10, _, _, _, _, _⟩) rfl _ rfl _ zeroP ?_); intro g10 V10 hB1 hg1 hF1)
    | ((with_reducible refine wpl_storea aggP rfl (.tmp 10) (.tmp 35) rfl g10 (pktC q1) rfl rfl _ _ hB1 HL1.out pkt0_len (pktC_one _) ?_); intro W13 hB2 hF2; replace H := hide (H.out.var hg1 hF1 hF2 hB2); clear hB1 hg1 hF1 hB2 hF2)
    | (with_reducible refine at_op (op := ⟨some 38, _, _, _, _, _⟩) ?_; refine wpl_held (op := ⟨some 38, _, _, _, _, _⟩) (.agg (cellsB XT).toArray) (held_loada agg320 _ rfl gx 0 rfl _ (cellsB X) (cellsB XT) (H.out.get 6 rfl) HXc.out (by rw [HXL.out]; decide)) rfl ?_)
    | ((with_reducible refine wpl_storem agg320 rfl (.tmp 39) (.tmp 38) rfl g10 34 (cellsB XT) (pktC q1) (pktC q2) rfl rfl _ (H.out.get 7 rfl) HXTc.out HF1.out.2.2.1 HS1.out (cellsB_one _) ?_); intro W14 hB1 hF1; replace H := hide (H.out.store 7 rfl hF1 hB1); clear hB1 hF1))
  refine wp_region_held_drew (S := fun W' => Blk W' g3 63 (hopC h).toArray ∧ Blk W' g5 34 (pktC p).toArray) (by kernel_rfl) (⟨H.out.drew.get 0 rfl, H.out.drew.get 2 rfl⟩) ?_
  intro hHeld
  obtain ⟨W15, hW15⟩ : ∃ W15, W15 = W14.drew := ⟨_, rfl⟩
  replace H := hide (by rw [hW15]; exact H.out.drew : OAt w _ W15)
  rw [← hW15] at hHeld ⊢
  clear hW15
  refine tkH 0 (v := ?v11) rfl ?hy11 ?rest11
  case hy11 => (intro w hSw; (try go_simp); try with_reducible rfl)
  try simp only [Act.put, PTs]
  refine tkH 1 (v := ?v12) rfl ?hy12 ?rest12
  case hy12 => (intro w hSw; (try go_simp); try with_reducible rfl)
  try simp only [Act.put, PTs]
  refine tkH 2 (v := ?v13) rfl ?hy13 ?rest13
  case hy13 => (intro w hSw; (try go_simp); try with_reducible rfl)
  try simp only [Act.put, PTs]
  refine tkH 3 (v := ?v14) rfl ?hy14 ?rest14
  case hy14 => (intro w hSw; refine held_loada aggK (.tmp 42) ?_ g3 2 ?_ _ (hopC h) (cellsB h.key) hSw.1 HHK.out (by rw [HHL.out]; decide) <;> rfl)
  try simp only [Act.put, PTs]
  refine tkH 4 (v := ?v15) rfl ?hy15 ?rest15
  case hy15 => (intro w hSw; (try go_simp); try with_reducible rfl)
  try simp only [Act.put, PTs]
  refine tkH 5 (v := ?v16) rfl ?hy16 ?rest16
  case hy16 => (intro w hSw; refine held_load1 Tryz.underlying28 rfl one32 (.tmp 44) ?_ g3 34 ?_ _ _ (.int .u32 (h.epoch : Int)) hSw.1 HHE.out <;> rfl)
  try simp only [Act.put, PTs]
  refine tkH 6 (v := ?v17) rfl ?hy17 ?rest17
  case hy17 => (intro w hSw; (try go_simp); try with_reducible rfl)
  try simp only [Act.put, PTs]
  refine tkH 7 (v := ?v18) rfl ?hy18 ?rest18
  case hy18 => (intro w hSw; refine held_loada aggN (.tmp 46) ?_ g3 35 ?_ _ (hopC h) (cellsB h.nonce) hSw.1 HHN.out (by rw [HHL.out]; decide) <;> rfl)
  try simp only [Act.put, PTs]
  refine rdH 8 rfl (by kernel_rfl) (fun K hK => ?_)
  go_simp
  refine (HBS.out _ H.out.tb).mono ?_
  rintro e W16 ⟨gb, rfl, hb, hg, hbc⟩
  replace H := hide (H.out.box hg (Frm.of_below hbc) hb)
  clear hb hg hbc
  refine hK.out _ _ (⟨H.out.get 0 rfl, H.out.get 2 rfl⟩) (fun hHeld => ?_)
  clear hK K
  refine rdH 9 rfl (by kernel_rfl) (fun K hK => ?_)
  go_simp
  refine (xor_n (some ⟨g5, 354, none⟩) (some ⟨gb, 0, none⟩) 256 256 256 256 p.body bs 256 _ ((H.out.get 2 rfl).mid 354 256 p.body HPB.out HPO.out.body) ((H.out.get 8 rfl).rdsn HBS2.out) (by decide) (by decide) (by rw [HYE.out]; exact HX2.out)).mono ?_
  rw [HYE.out]
  rintro e W17 ⟨gy, rfl, hb, hg, hbc⟩
  replace H := hide (H.out.box hg (Frm.of_below hbc) hb)
  clear hb hg hbc
  refine hK.out _ _ (⟨H.out.get 0 rfl, H.out.get 2 rfl⟩) (fun hHeld => ?_)
  clear hK K
  refine tkH 10 (v := ?v19) rfl ?hy19 ?rest19
  case hy19 => (intro w hSw; (try go_simp); try with_reducible rfl)
  try simp only [Act.put, PTs]
  refine rdH 11 rfl (by kernel_rfl) (fun K hK => ?_)
  refine step_held (.agg (cellsB Y).toArray) (by refine held_loadf agg256 (.tmp 50) ?_ gy ?_ _ (cellsB Y) (H.out.get 9 rfl) HYc.out <;> rfl) rfl ?_
  refine hK.out _ _ (⟨H.out.get 0 rfl, H.out.get 2 rfl⟩) (fun hHeld => ?_)
  clear hK K
  try simp only [Act.put, PTs]
  refine tkH 12 (v := ?v20) rfl ?hy20 ?rest20
  case hy20 => (intro w hSw; (try go_simp); try with_reducible rfl)
  try simp only [Act.put, PTs]
  refine rdH 13 rfl (by kernel_rfl) (fun K hK => ?_)
  refine step_storem agg256 rfl (.tmp 52) (.tmp 51) rfl g10 354 (cellsB Y) _ _ rfl rfl _ (H.out.get 7 rfl) HYc.out HF2.out.2.2.2 HS2.out (cellsB_one _) ?_
  intro W18 hB18 hF18
  replace H := hide (H.out.store 7 rfl hF18 hB18)
  clear hB18 hF18
  refine hK.out _ _ (⟨H.out.get 0 rfl, H.out.get 2 rfl⟩) (fun hHeld => ?_)
  clear hK K
  refine wpAnyH_done (by kernel_rfl) ?_ _
  clear hHeld
  go_wp2_with (first
    | (with_reducible refine at_op (op := ⟨some 54, _, _, _, _, _⟩) ?_; refine wpl_held (op := ⟨some 54, _, _, _, _, _⟩) (.agg (cellsB h.key).toArray) (held_loada aggK _ rfl g3 2 rfl _ (hopC h) (cellsB h.key) (H.out.get 0 rfl) HHK.out (by rw [HHL.out]; decide)) rfl ?_)
    | (with_reducible refine at_op (op := ⟨some 55, _, _, _, _, _⟩) ?_; refine wpl_held (op := ⟨some 55, _, _, _, _, _⟩) (.agg (pktC Q3).toArray) (held_loadf aggP _ rfl g10 rfl _ (pktC Q3) (H.out.get 7 rfl) HL3.out) rfl ?_)
    | (go_at_call 12; with_reducible refine (HMC.out _ H.out.tb).mono ?_; rintro e W19 ⟨rfl, hbc⟩; replace H := hide (H.out.call hbc); clear hbc)
    | ((with_reducible refine wpl_storem aggM rfl (.tmp 57) (.tmp 56) rfl g10 18 (cellsB mc) (pktC Q3) (pktC Q4) rfl rfl _ (H.out.get 7 rfl) HMc.out HF3.out.2.1 HS3.out (cellsB_one _) ?_); intro W20 hB1 hF1; replace H := hide (H.out.store 7 rfl hF1 hB1); clear hB1 hF1)
    | (with_reducible refine at_op (op := ⟨some 58, _, _, _, _, _⟩) ?_; refine wpl_held (op := ⟨some 58, _, _, _, _, _⟩) (.agg (pktC Q4).toArray) (held_loadf aggP _ rfl g10 rfl _ (pktC Q4) (H.out.get 7 rfl) HL4.out) rfl ?_)
    | ((with_reducible refine wpl_storea aggP rfl (.tmp 6) (.tmp 58) rfl g6 (pktC Q4) rfl rfl _ _ (H.out.get 3 rfl) HL4.out (pkt0_len) (pktC_one _) ?_); intro W21 hB1 hF1; replace H := hide (H.out.store 3 rfl hF1 hB1); clear hB1 hF1))
  exact ret_agg aggP rfl rfl g6 _ _ rfl (H.out.get 3 rfl) HL4.out ⟨rfl, H.out.bel⟩

end Go.Proofs.YtoiiiflnnhkjbaaGreatDoor
