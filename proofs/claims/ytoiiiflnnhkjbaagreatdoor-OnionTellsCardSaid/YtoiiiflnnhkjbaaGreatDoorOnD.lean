/-
  MAC; a Head made wider.
-/
import Derived.Test.YtoiiiflnnhkjbaaGreatDoorHp
import Derived.Test.YtoiiiflnnhkjbaaGreatDoorOnC
namespace Go.Proofs.YtoiiiflnnhkjbaaGreatDoor
set_option linter.unusedVariables false
set_option linter.unusedSimpArgs false
open Go.RowKit



set_option maxHeartbeats 8000000 in
set_option maxRecDepth 100000 in
theorem mac_o (key : List UInt8) (p : Pkt) (hk : key.length = 32) (hp : p.ok) (w : World) (hT : Tb w) :
    Calls Tryz.prog 12 #[.agg (cellsB key).toArray, .agg (pktC p).toArray] w fun e w' => e = .returned (.agg (cellsB (macO key p)).toArray) ∧ Below w.heap.size w w' := by
  have H := hide (OAt.start hT)
  have HK := hide (cl hk)
  have HPL := hide (pktC_length hp)
  have HPN := hide (pktC_nonce hp)
  have HPH := hide (pktC_head hp)
  have HPB := hide (pktC_body hp)
  have HPO := hide hp
  have HM := hide (fun (W : World) (h : Tb W) => made_any key macT p.epoch p.nonce hk hp.nonce hp.epoch (by decide) W h)
  have HEP := hide (fun w => epoch_any p.epoch w hp.epoch)
  have hml := madeL_length key macT p.epoch p.nonce
  have HS : Hid (macO key p = (macL (madeL key macT p.epoch p.nonce) [be 2 p.who, be 4 p.epoch, p.nonce, p.head, p.body].flatten).take 16) := rfl
  have HSL := hide (cl (macO_length key p))
  have hsn := slN
  have h320 := sl320
  have h256 := sl256
  have hw0 := hp.who
  have hfl : [be 2 p.who, be 4 p.epoch, p.nonce, p.head, p.body].flatten.length ≤ 1000 := by simp [be_length, hp.nonce, hp.head, hp.body]
  generalize macO key p = SS at *
  generalize madeL key macT p.epoch p.nonce = mk at *
  have HSH := hide (fun (W : World) (hR : Run w W) (vs : List Value) (hA : All2 W vs [be 2 p.who, be 4 p.epoch, p.nonce, p.head, p.body]) => short_row w W mk hml vs [be 2 p.who, be 4 p.epoch, p.nonce, p.head, p.body] _ hA rfl hR (by omega) (by simp))
  have HW0 := hide hw0
  clear hml hT hk hp hw0 hfl
  go_enter Tryz.func12, Tryz.ntmps12
  go_wp2_with (first
    | (with_reducible refine at_op (op := ⟨some 2, _, _, _, _, _⟩) ?_; (refine wpl_boxa (op := ⟨some 2, _, _, _, _, _⟩) rfl _ _ rfl (cellsB key) rfl ?_); intro g2 W2 hB1 hg1 hF1; replace H := hide (H.out.box hg1 hF1 hB1); clear hB1 hg1 hF1)
    | (with_reducible refine at_op (op := ⟨some 3, _, _, _, _, _⟩) ?_; (refine wpl_boxa (op := ⟨some 3, _, _, _, _, _⟩) rfl _ _ rfl (pktC p) rfl ?_); intro g3 W3 hB1 hg1 hF1; replace H := hide (H.out.box hg1 hF1 hB1); clear hB1 hg1 hF1)
    | (with_reducible refine at_op (op := ⟨some 4, _, _, _, _, _⟩) ?_; (with_reducible refine wpl_alloca (op := ⟨some 4, _, _, _, _, _⟩) rfl _ rfl _ zeroM ?_); intro g4 W4 hB1 hg1 hF1; replace H := hide (H.out.box hg1 hF1 hB1); clear hB1 hg1 hF1)
    | ((with_reducible refine wpl_alloca (op := ⟨some 6, _, _, _, _, _⟩) rfl _ rfl _ zeroW ?_); intro g6 V6 hB6 hs6 hF6; have hP6 := (H.out.get 1 rfl).frm hF6 (fun h => h))
    | (with_reducible refine at_op (op := ⟨some 8, _, _, _, _, _⟩) ?_; refine wpl_held (op := ⟨some 8, _, _, _, _, _⟩) (.int .u16 (p.who : Int)) (held_load1 Tryz.underlying27 rfl one16w _ rfl g3 0 rfl _ _ (.int .u16 (p.who : Int)) hP6 rfl) rfl ?_)
    | (go_at_call 34; refine (wu16_any g6 none [] (p.who : Int) V6 ⟨.slice none 0 0, hB6, ⟨rfl, .inl ⟨rfl, rfl⟩⟩, .inl rfl⟩ (by simp) (by omega) (by have := HW0.out; omega)).mono ?_; rintro e V7 ⟨rfl, d7, hW7, _, hF7⟩; rw [List.nil_append, Int.toNat_natCast] at hW7)
    | (go_at_call 35; refine (wdone_any g6 d7 (be 2 p.who) V7 hW7 (by rw [be_length]; omega)).mono ?_; rintro e W8 ⟨A8, c8, rfl, hown8, hb8⟩; rw [cl (be_length 2 p.who)] at hown8 ⊢))
  have hb48 : Below W4.heap.size W4 W8 := by
    have h1 := hF6.below (Nat.le_refl _) (fun _ h => h.elim)
    have h2 := below_frm h1 hF7 h1.size (fun k hk => by rcases hk with rfl | hk; exact hs6; cases hk)
    exact h2.trans (hb8.mono h2.size)
  have hp8 : Prt W8 (.slice A8 2 c8) (be 2 p.who) := prt_own (B := V7.heap.size) (by rw [be_length]; exact hown8)
  replace H := hide (H.out.call hb48)
  clear hb48 hb8 hown8 hF7 hF6 hs6 hB6 hP6 hW7
  refine wp_region_held_drew (S := fun W' => Blk W' g2 26 (cellsB key).toArray ∧ Blk W' g3 34 (pktC p).toArray) (by kernel_rfl) (⟨H.out.drew.get 0 rfl, H.out.drew.get 1 rfl⟩) ?_
  intro hHeld
  obtain ⟨W9, hW9⟩ : ∃ W9, W9 = W8.drew := ⟨_, rfl⟩
  replace H := hide (by rw [hW9]; exact H.out.drew : OAt w _ W9)
  have hp9 : Prt W9 (.slice A8 2 c8) (be 2 p.who) := by rw [hW9]; exact hp8
  rw [← hW9] at hHeld ⊢
  clear hp8
  clear hW9
  have HW : Hid (Prt W9 (.slice A8 2 c8) (be 2 p.who)) := hp9
  clear hp9
  refine tkH 0 (v := ?v1) rfl ?hy1 ?rest1
  case hy1 => (intro w hSw; refine held_loadf aggK (.tmp 2) ?_ g2 ?_ _ (cellsB key) hSw.1 HK.out <;> rfl)
  try simp only [Act.put, PTs]
  refine tkH 1 (v := ?v2) rfl ?hy2 ?rest2
  case hy2 => (intro w hSw; (try go_simp); try with_reducible rfl)
  try simp only [Act.put, PTs]
  refine tkH 2 (v := ?v3) rfl ?hy3 ?rest3
  case hy3 => (intro w hSw; refine held_load1 Tryz.underlying28 rfl one32 (.tmp 12) ?_ g3 1 ?_ _ _ (.int .u32 (p.epoch : Int)) hSw.2 rfl <;> rfl)
  try simp only [Act.put, PTs]
  refine tkH 3 (v := ?v4) rfl ?hy4 ?rest4
  case hy4 => (intro w hSw; (try go_simp); try with_reducible rfl)
  try simp only [Act.put, PTs]
  refine tkH 4 (v := ?v5) rfl ?hy5 ?rest5
  case hy5 => (intro w hSw; refine held_loada aggN (.tmp 14) ?_ g3 2 ?_ _ (pktC p) (cellsB p.nonce) hSw.2 HPN.out (by rw [HPL.out]; decide) <;> rfl)
  try simp only [Act.put, PTs]
  refine tkH 6 (v := ?v6) rfl ?hy6 ?rest6
  case hy6 => (intro w hSw; (try go_simp); try with_reducible rfl)
  try simp only [Act.put, PTs]
  refine tkH 7 (v := ?v7) rfl ?hy7 ?rest7
  case hy7 => (intro w hSw; (try go_simp); try with_reducible rfl)
  try simp only [Act.put, PTs]
  refine tkH 8 (v := ?v8) rfl ?hy8 ?rest8
  case hy8 => (intro w hSw; refine held_load1 Tryz.underlying28 rfl one32 (.tmp 18) ?_ g3 1 ?_ _ _ (.int .u32 (p.epoch : Int)) hSw.2 rfl <;> rfl)
  try simp only [Act.put, PTs]
  refine tkH 10 (v := ?v9) rfl ?hy9 ?rest9
  case hy9 => (intro w hSw; (try go_simp); try with_reducible rfl)
  try simp only [Act.put, PTs]
  refine tkH 11 (v := ?v10) rfl ?hy10 ?rest10
  case hy10 => (intro w hSw; (try go_simp); try with_reducible rfl)
  try simp only [Act.put, PTs]
  refine tkH 12 (v := ?v11) rfl ?hy11 ?rest11
  case hy11 => (intro w hSw; (try go_simp); try with_reducible rfl)
  try simp only [Act.put, PTs]
  refine tkH 13 (v := ?v12) rfl ?hy12 ?rest12
  case hy12 => (intro w hSw; (try go_simp); try with_reducible rfl)
  try simp only [Act.put, PTs]
  refine tkH 14 (v := ?v13) rfl ?hy13 ?rest13
  case hy13 => (intro w hSw; (try go_simp); try with_reducible rfl)
  try simp only [Act.put, PTs]
  refine tkH 15 (v := ?v14) rfl ?hy14 ?rest14
  case hy14 => (intro w hSw; (try go_simp); try with_reducible rfl)
  try simp only [Act.put, PTs]
  refine rdH 5 rfl (by kernel_rfl) (fun K hK => ?_)
  go_simp
  refine (HM.out _ H.out.tb).mono ?_
  rintro e W10 ⟨rfl, hbc⟩
  replace H := hide (H.out.call hbc)
  replace HW := hide (HW.out.below hbc)
  clear hbc
  refine hK.out _ _ (⟨H.out.get 0 rfl, H.out.get 1 rfl⟩) (fun hHeld => ?_)
  clear hK K
  refine rdH 9 rfl (by kernel_rfl) (fun K hK => ?_)
  go_simp
  refine (HEP.out _).mono ?_
  rintro e W11 ⟨g, c, rfl, hp, hbc⟩
  replace H := hide (H.out.call hbc)
  replace HW := hide (HW.out.below hbc)
  have HP := hide hp
  clear hbc hp
  refine hK.out _ _ (⟨H.out.get 0 rfl, H.out.get 1 rfl⟩) (fun hHeld => ?_)
  clear hK K
  refine rdH 16 rfl (by kernel_rfl) (fun K hK => ?_)
  go_simp
  refine hK.out _ _ (⟨(H.out.get 0 rfl).al _, (H.out.get 1 rfl).al _⟩) (fun hHeld => ?_)
  clear hK K
  refine rdH 17 rfl (by kernel_rfl) (fun K hK => ?_)
  go_simp
  refine (HSH.out W11 H.out.run [.slice A8 2 c8, .slice (some ⟨g, 0, none⟩) 4 c, .slice (some ⟨g3, 2, none⟩) 16 16, .slice (some ⟨g3, 34, none⟩) 320 320, .slice (some ⟨g3, 354, none⟩) 256 256] (.cons HW.out (.cons HP.out (.cons ((H.out.get 1 rfl).prtm HPN.out HPO.out.nonce) (.cons ((H.out.get 1 rfl).prtm HPH.out HPO.out.head) (.cons ((H.out.get 1 rfl).prtm HPB.out HPO.out.body) .nil)))))).mono ?_
  rw [← HS.out]
  rintro e W12 ⟨rfl, hf, _⟩
  replace H := hide (H.out.frm hf)
  clear hf
  refine hK.out _ _ (⟨H.out.get 0 rfl, H.out.get 1 rfl⟩) (fun hHeld => ?_)
  clear hK K
  refine rdH 18 rfl (by kernel_rfl) (fun K hK => ?_)
  refine step_storem aggM rfl (.tmp 4) (.tmp 28) rfl g4 0 (cellsB SS) _ (cellsB SS) rfl rfl _ (H.out.get 2 rfl) HSL.out (Nat.le_of_eq (by rw [Nat.zero_add]; exact rfl)) (splice_all _ _ (by rw [HSL.out]; rfl)) (cellsB_one _) ?_
  intro W13 hB13 hF13
  replace H := hide (H.out.store 2 rfl hF13 hB13)
  clear hB13 hF13
  refine hK.out _ _ (⟨H.out.get 0 rfl, H.out.get 1 rfl⟩) (fun hHeld => ?_)
  clear hK K
  refine wpAnyH_done (by kernel_rfl) ?_ _
  clear hHeld
  go_wp2_with fail
  exact ret_agg aggM rfl rfl g4 _ _ rfl (H.out.get 2 rfl) HSL.out ⟨rfl, H.out.bel⟩


set_option maxHeartbeats 4000000 in
set_option maxRecDepth 100000 in
theorem wide_any (hd : List UInt8) (hl : hd.length = 320) (w : World) (hT : Tb w) :
    Calls Tryz.prog 27 #[.agg (cellsB hd).toArray] w fun e w' => e = .returned (.agg (cellsB (hd ++ zeros 64)).toArray) ∧ Below w.heap.size w w' := by
  have H := hide (OAt.start hT)
  have HL := hide (cl hl)
  have HWL := hide (cl (show (hd ++ zeros 64).length = 384 by rw [List.length_append, hl, zeros_length]))
  have HSP : Hid (splice (cellsB (zeros 384)) 0 (cellsB (hd.take 320)) = cellsB (hd ++ zeros 64)) := by
    show _ = _
    rw [List.take_of_length_le (by rw [hl]; exact Nat.le_refl _), splice, List.take_zero, List.nil_append, Nat.zero_add, HL.out, cellsB_drop, ← cellsB_append]
    rfl
  have h320 := sl320
  have h384 := sl384
  clear hT
  go_enter Tryz.func27, Tryz.ntmps27
  go_wp2_with (first
    | (with_reducible refine at_op (op := ⟨some 1, _, _, _, _, _⟩) ?_; (refine wpl_boxa (op := ⟨some 1, _, _, _, _, _⟩) rfl _ _ rfl (cellsB hd) rfl ?_); intro g1 W1 hB1 hg1 hF1; replace H := hide (H.out.box hg1 hF1 hB1); clear hB1 hg1 hF1)
    | (with_reducible refine at_op (op := ⟨some 2, _, _, _, _, _⟩) ?_; (with_reducible refine wpl_alloca (op := ⟨some 2, _, _, _, _, _⟩) rfl _ rfl _ zero384 ?_); intro g2 W2 hB1 hg1 hF1; replace H := hide (H.out.box hg1 hF1 hB1); clear hB1 hg1 hF1)
    | (with_reducible refine at_op (op := ⟨some 3, _, _, _, _, _⟩) ?_; (with_reducible refine wpl_alloca (op := ⟨some 3, _, _, _, _, _⟩) rfl _ rfl _ zero384 ?_); intro g3 W3 hB1 hg1 hF1; replace H := hide (H.out.box hg1 hF1 hB1); clear hB1 hg1 hF1))
  refine wp_region_held_drew (S := fun W' => Blk W' g1 32 (cellsB hd).toArray) (by kernel_rfl) (H.out.drew.get 0 rfl) ?_
  intro hHeld
  obtain ⟨W4, hW4⟩ : ∃ W4, W4 = W3.drew := ⟨_, rfl⟩
  replace H := hide (by rw [hW4]; exact H.out.drew : OAt w _ W4)
  rw [← hW4] at hHeld ⊢
  clear hW4
  refine tkH 0 (v := ?v15) rfl ?hy15 ?rest15
  case hy15 => (intro w hSw; (try go_simp); try with_reducible rfl)
  try simp only [Act.put, PTs]
  refine tkH 1 (v := ?v16) rfl ?hy16 ?rest16
  case hy16 => (intro w hSw; (try go_simp); try with_reducible rfl)
  try simp only [Act.put, PTs]
  refine rdH 2 rfl (by kernel_rfl) (fun K hK => ?_)
  refine step_copyR rfl (.tmp 4) (.tmp 5) rfl g3 384 384 g1 320 320 320 rfl rfl (cellsB (zeros 384)) _ (H.out.get 2 rfl) hd ((H.out.get 0 rfl).rdsn hl) rfl (by rw [cl (zeros_length 384)]; exact Nat.le_refl _) ?_
  intro W5 hB5 hF5
  rw [HSP.out] at hB5
  replace H := hide (H.out.store 2 rfl hF5 hB5)
  clear hB5 hF5
  refine hK.out _ _ (H.out.get 0 rfl) (fun hHeld => ?_)
  clear hK K
  refine wpAnyH_done (by kernel_rfl) ?_ _
  clear hHeld
  go_wp2_with (first
    | (with_reducible refine at_op (op := ⟨some 7, _, _, _, _, _⟩) ?_; refine wpl_held (op := ⟨some 7, _, _, _, _, _⟩) (.agg (cellsB (hd ++ zeros 64)).toArray) (held_loadf agg384 _ rfl g3 rfl _ (cellsB (hd ++ zeros 64)) (H.out.get 2 rfl) HWL.out) rfl ?_)
    | ((with_reducible refine wpl_storea agg384 rfl (.tmp 2) (.tmp 7) rfl g2 (cellsB (hd ++ zeros 64)) rfl rfl _ _ (H.out.get 1 rfl) HWL.out (zl_384) (cellsB_one _) ?_); intro W7 hB1 hF1; replace H := hide (H.out.store 1 rfl hF1 hB1); clear hB1 hF1))
  exact ret_agg agg384 rfl rfl g2 _ _ rfl (H.out.get 1 rfl) HWL.out ⟨rfl, H.out.bel⟩

end Go.Proofs.YtoiiiflnnhkjbaaGreatDoor
