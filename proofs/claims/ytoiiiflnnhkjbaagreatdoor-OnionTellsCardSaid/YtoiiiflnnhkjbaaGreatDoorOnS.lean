/-
  Build.
-/
import Derived.Test.YtoiiiflnnhkjbaaGreatDoorHp
import Derived.Test.YtoiiiflnnhkjbaaGreatDoorOnS0
import Derived.Deep.RegionHeld3
namespace Go.Proofs.YtoiiiflnnhkjbaaGreatDoor
set_option linter.unusedVariables false
set_option linter.unusedSimpArgs false
open Go.RowKit

theorem hKb0 {Bs g8 g9 : Nat} {w : World} (hw : Bs ≤ w.heap.size) : ∀ (W : World) (l : Nat) (o o' : Obj), w.heap.size ≤ l → W.heap[l]? = some o → o.isCells = false → o.isWalk = false → KpB Bs g8 g9 W (W.putObj l o') := fun W l o o' h1 h2 h3 h4 => KpB.put hw W l o o' h1 h2 h3 h4

set_option maxHeartbeats 16000000 in
set_option maxRecDepth 100000 in
theorem build_in (A : Option Addr) (n c box : Nat) (hs : List HopL) (body : List UInt8) (w : World) (hR : HRow w A n hs) (hn : n ≤ 1000) (hx : box < 65536) (hb : body.length = 256) (hT : Tb w) (hr : rightH hs = true) :
    CallsIn Fence.wide 3 Tryz.prog 5 #[.slice A n c, .int .u16 (box : Int), .agg (cellsB body).toArray] w fun e w' => e = .returned (.tuple #[.agg (pktC (buildP hs box body)).toArray, .int .i64 (buildE hs)]) ∧ Below w.heap.size w w' := by
  have H := hide (OAt.start hT)
  have HBc := hide (cl hb)
  have HR := hide hR
  have HLW := hR.ok
  have HRT : Hid (∀ W, HRow W A n hs → Calls Tryz.prog 15 #[.slice A n c] W fun e w' => e = .returned (.bool true) ∧ Below W.heap.size W w') := fun W y => by
    have := right_h A n c hs W y hn
    rwa [hr] at this
  have hn5 : n ≤ 5 := by
    have := hr
    unfold rightH at this
    rw [Bool.and_eq_true, decide_eq_true_eq, hR.len] at this
    exact this.1.2
  have HLH := hide (fun (W : World) (x : Tb W) (y : HRow W A n hs) => left_any A n c hs hn5 W y x)
  have hLL := leftH_length hs n
  have HBK := hide (fun (W : World) => back_any A n c W)
  obtain ⟨i0, hi0⟩ : ∃ i0, i0 = initB (leftH hs n) body box := ⟨_, rfl⟩
  have hi1 : i0.1 = ⟨0, 0, Z16, Z16, leftH hs n, body⟩ := by rw [hi0]; rfl
  have hi2 : i0.2 = { slot0 with last := true, box := box } := by rw [hi0]; rfl
  have hok0 := initB_ok hLL hb hx
  rw [← hi0] at hok0
  have HO1 := hide hok0.1
  have HO2 := hide hok0.2
  have HP1 := hide (pktC_length hok0.1)
  have HS2 := hide (slotC_length i0.2 hok0.2.nonce hok0.2.mac)
  have HEB : Hid (buildP hs box body = (bldR i0 hs).1) := by
    show _ = _
    unfold buildP
    rw [if_pos hr, hR.len, hi0]
  have HEE : Hid (buildE hs = 0) := by
    show _ = _
    unfold buildE
    rw [if_pos hr]
  have HBA := hide (stB_all i0 hs HLW n hR.len)
  have HST := hide (stB_ok hok0.1 hok0.2)
  have hbd := build_pktHB (leftH hs n) body hLL hb
  rw [← hi1] at hbd
  have hbs := build_slotLB box
  rw [← hi2] at hbs
  have HLL := hide (cl hLL)
  generalize leftH hs n = LH at *
  rw [HEB.out, HEE.out]
  clear hi0 hi1 hi2 hok0 hLL hr hT hR
  refine callsIn_of_wp_marks Tryz.func5 rfl trivial ?_ rfl
  refine wpIn_wide.2 ?_
  simp only [Tryz.ntmps5, List.size_toArray, List.length_cons, List.length_nil, Nat.reduceAdd, Nat.reduceSub, Array.replicate_succ, Array.replicate_zero, List.push_toArray, List.append_toArray, List.nil_append, List.cons_append]
  go_wp2_with (first
    | (with_reducible refine at_op (op := ⟨some 5, _, _, _, _, _⟩) ?_; (refine wpl_boxa (op := ⟨some 5, _, _, _, _, _⟩) rfl _ _ rfl (cellsB body) rfl ?_); intro g5 W5 hB1 hg1 hF1; replace H := hide (H.out.box hg1 hF1 hB1); clear hB1 hg1 hF1)
    | (with_reducible refine at_op (op := ⟨some 6, _, _, _, _, _⟩) ?_; (with_reducible refine wpl_alloca (op := ⟨some 6, _, _, _, _, _⟩) rfl _ rfl _ zeroP ?_); intro g6 W6 hB1 hg1 hF1; replace H := hide (H.out.box hg1 hF1 hB1); clear hB1 hg1 hF1)
    | (go_at_call 15; refine (HRT.out W6 (HR.out.below H.out.bel)).mono ?_; rintro e W7 ⟨rfl, hbc⟩; replace H := hide (H.out.call hbc); clear hbc))
  refine wp_region_noPanic ?_
  refine wp_region_held_drew (S := fun W' => Blk W' g5 24 (cellsB body).toArray) (by kernel_rfl) (H.out.drew.get 0 rfl) ?_
  intro hHeld
  obtain ⟨W8, hW8⟩ : ∃ W8, W8 = W7.drew := ⟨_, rfl⟩
  replace H := hide (by rw [hW8]; exact H.out.drew : OAt w _ W8)
  rw [← hW8] at hHeld ⊢
  clear hW8
  refine tkH 0 (v := ?v1) rfl ?hy1 ?rest1
  case hy1 => (intro w hSw; (try go_simp); try with_reducible rfl)
  try simp only [Act.put, PTs]
  refine tkH 2 (v := ?v2) rfl ?hy2 ?rest2
  case hy2 => (intro w hSw; refine held_loadf agg256 (.tmp 5) ?_ g5 ?_ _ (cellsB body) hSw HBc.out <;> rfl)
  try simp only [Act.put, PTs]
  refine wpAnyH_ready (rs := [1, 4]) (by kernel_rfl) (by simp) ?_
  refine AllReadyH.cons rfl (fun K hK => ?_) ?_
  go_simp
  refine (HLH.out _ H.out.tb (HR.out.below H.out.bel)).mono ?_
  rintro e W9 ⟨rfl, hbc⟩
  replace H := hide (H.out.call hbc)
  clear hbc
  refine hK.out _ _ (H.out.get 0 rfl) (fun hHeld => ?_)
  clear hK K
  refine tkH 3 (v := ?v3) rfl ?hy3 ?rest3
  case hy3 => (intro w hSw; refine held_build 34 #[(4, .tmp 17), (5, .tmp 18)] ?_ _ (pktC i0.1) (hbd _) ?_ <;> rfl)
  try simp only [Act.put, PTs]
  refine rdH 4 rfl (by kernel_rfl) (fun K hK => ?_)
  refine step_alloca rfl _ rfl _ zeroP ?_
  intro g8 V8 hB8 hs8 hF8
  replace H := hide (H.out.box hs8 hF8 hB8)
  clear hB8 hs8 hF8
  refine hK.out _ _ (H.out.get 0 rfl) (fun hHeld => ?_)
  clear hK K
  refine rdH 5 rfl (by kernel_rfl) (fun K hK => ?_)
  refine step_storem aggP rfl (.tmp 8) (.tmp 19) rfl g8 0 (pktC i0.1) _ (pktC i0.1) rfl rfl _ (H.out.get 2 rfl) HP1.out (Nat.le_of_eq (by rw [Nat.zero_add]; exact pkt0_c.symm)) (splice_all _ _ (by rw [HP1.out]; exact pkt0_c)) (pktC_one _) ?_
  intro W10 hB10 hF10
  replace H := hide (H.out.store 2 rfl hF10 hB10)
  clear hB10 hF10
  refine hK.out _ _ (H.out.get 0 rfl) (fun hHeld => ?_)
  clear hK K
  refine wpAnyH_done (by kernel_rfl) ?_ _
  refine NoPanic.normal ?_
  clear hHeld
  rotate_left
  refine AllReadyH.cons rfl (fun K hK => ?_) AllReadyH.nil
  refine step_alloca rfl _ rfl _ zeroP ?_
  intro g8 V8 hB8 hs8 hF8
  replace H := hide (H.out.box hs8 hF8 hB8)
  clear hB8 hs8 hF8
  refine hK.out _ _ (H.out.get 0 rfl) (fun hHeld => ?_)
  clear hK K
  refine rdH 1 rfl (by kernel_rfl) (fun K hK => ?_)
  go_simp
  refine (HLH.out _ H.out.tb (HR.out.below H.out.bel)).mono ?_
  rintro e W9 ⟨rfl, hbc⟩
  replace H := hide (H.out.call hbc)
  clear hbc
  refine hK.out _ _ (H.out.get 0 rfl) (fun hHeld => ?_)
  clear hK K
  refine tkH 3 (v := ?v4) rfl ?hy4 ?rest4
  case hy4 => (intro w hSw; refine held_build 34 #[(4, .tmp 17), (5, .tmp 18)] ?_ _ (pktC i0.1) (hbd _) ?_ <;> rfl)
  try simp only [Act.put, PTs]
  refine rdH 5 rfl (by kernel_rfl) (fun K hK => ?_)
  refine step_storem aggP rfl (.tmp 8) (.tmp 19) rfl g8 0 (pktC i0.1) _ (pktC i0.1) rfl rfl _ (H.out.get 2 rfl) HP1.out (Nat.le_of_eq (by rw [Nat.zero_add]; exact pkt0_c.symm)) (splice_all _ _ (by rw [HP1.out]; exact pkt0_c)) (pktC_one _) ?_
  intro W10 hB10 hF10
  replace H := hide (H.out.store 2 rfl hF10 hB10)
  clear hB10 hF10
  refine hK.out _ _ (H.out.get 0 rfl) (fun hHeld => ?_)
  clear hK K
  refine wpAnyH_done (by kernel_rfl) ?_ _
  refine NoPanic.normal ?_
  clear hHeld
  rotate_left
  · go_wp2_with (first
      | (with_reducible refine at_op (op := ⟨some 21, _, _, _, _, _⟩) ?_; refine wpl_held (op := ⟨some 21, _, _, _, _, _⟩) (.agg (slotC i0.2).toArray) (held_build _ _ rfl _ _ (hbs _) rfl) rfl ?_)
      | ((with_reducible refine wpl_alloca (op := ⟨some 9, _, _, _, _, _⟩) rfl _ rfl _ zeroS ?_); intro g9 V9 hB1 hg1 hF1)
      | ((with_reducible refine wpl_storea aggS rfl (.tmp 9) (.tmp 21) rfl g9 (slotC i0.2) rfl rfl _ _ hB1 HS2.out slot0_len (slotC_one _) ?_); intro W11 hB2 hF2; replace H := hide (H.out.var hg1 hF1 hF2 hB2); clear hB1 hg1 hF1 hB2 hF2)
      | (go_at_call 17; refine (HBK.out _).mono ?_; rintro e W12 ⟨rfl, hW12⟩))
    subst hW12
    have H12 : Hid (OAt w [(g5, 24, cellsB body), (g6, 34, pktC pkt0), (g8, 34, pktC i0.1), (g9, 51, slotC i0.2)] (W11.alloc (.cells #[.slice A n c] 22))) := H.out.frm (Frm.alloc _ _ _)
    have hbx := (Blk.new W11 22 #[.slice A n c]).cell 0
    have l5 := (H.out.get 0 rfl).lt
    have l6 := (H.out.get 1 rfl).lt
    have l8 := (H.out.get 2 rfl).lt
    have l9 := (H.out.get 3 rfl).lt
    have e5 := H.out.ge 0 rfl
    have e6 := H.out.ge 1 rfl
    have e8 := H.out.ge 2 rfl
    have e9 := H.out.ge 3 rfl
    obtain ⟨Bn, hBn⟩ : ∃ b, b = W11.heap.size := ⟨_, rfl⟩
    have hsz : (W11.alloc (.cells #[.slice A n c] 22)).heap.size = Bn + 1 := by rw [hBn]; simp
    obtain ⟨W12, hW12⟩ : ∃ W, W = W11.alloc (.cells #[.slice A n c] 22) := ⟨_, rfl⟩
    rw [← hW12] at H12 hbx hsz ⊢
    rw [← hBn] at hbx l5 l6 l8 l9 ⊢
    have hbw := H.out.bel.size
    rw [← hBn] at hbw
    clear H hW12 hBn
    have HL := hide (And.intro l5 (And.intro l6 (And.intro l8 (And.intro l9 hsz))))
    have HE := hide (And.intro e5 (And.intro e6 (And.intro e8 (And.intro e9 hbw))))
    have hbx' : W12.cell? ⟨Bn, 0, none⟩ = some (.slice A n c) := by rw [hbx]; rfl
    have HBX := hide hbx'
    clear l5 l6 l8 l9 hsz e5 e6 e8 e9 hbw hbx hbx'
    refine (wpIn_wide (n := 3)).1 ?_
    refine wpIn_rangeFunc_ownH (F := Fence.wide) (Kp := KpB W12.heap.size g8 g9) (encs := itemV) (S := fun ys => ys = backU hs HLW n) (Sp := fun _ => True) (N := n) (w0 := W12) rfl (by decide) (gf := 42) (lb := #[.pointer (some ⟨Bn, 0, none⟩)]) rfl trivial (enters_of Tryz.func42 (by kernel_rfl) rfl)
      (fun l J Jx W hW _ _ hY h0 => back1_in 2 (by decide) l Bn W12.heap.size g8 g9 w A n c hs HR.out hn (by have := HE.out; omega) (by have := HE.out; omega) (by have := HE.out; have := HL.out; omega) (by have := HL.out; omega) (by have := HL.out; omega) (by have := HL.out; omega) J Jx hY W ⟨H12.out.bel.trans (hW.mono H12.out.bel.size), (hW.cell (p := ⟨Bn, 0, none⟩) (by have := HL.out; show Bn < _; omega)).trans HBX.out⟩ h0)
      (fun h k => KpB.trans h k) (hKb0 (Nat.le_refl _)) (Below.refl _ _) (fun _ => rfl)
      (fun pre W => OAt w [(g5, 24, cellsB body), (g6, 34, pktC pkt0), (g8, 34, pktC (stB i0 pre).1), (g9, 51, slotC (stB i0 pre).2)] W ∧ W12.heap.size ≤ W.heap.size)
      (fun _ _ _ => False)
      (fun pre W W' row h hg hr => ⟨h.1.own (by have := HE.out; have := HL.out; omega) hg hr, Nat.le_trans h.2 hg.size⟩)
      (fun _ _ _ _ _ h _ _ => h)
      ⟨H12.out, Nat.le_refl _⟩
      (fun x a' W => ∃ g11, W12.heap.size ≤ g11 ∧ Blk W g11 63 (hopC x.1.2).toArray ∧ a' = { tmps := #[.slice A n c, .int .u16 (box : Int), .agg (cellsB body).toArray, undef, undef, .pointer (some ⟨g5, 0, none⟩), .pointer (some ⟨g6, 0, none⟩), .int .i64 0, .pointer (some ⟨g8, 0, none⟩), .pointer (some ⟨g9, 0, none⟩), undef, .pointer (some ⟨g11, 0, none⟩), .slice A n c, .bool true, .bool false, undef, .slice A n c, .agg (cellsB LH).toArray, .agg (cellsB body).toArray, .agg (pktC i0.1).toArray, .int .u16 (box : Int), .agg (slotC i0.2).toArray, .slice A n c, .func (.func 42) #[] #[.pointer (some ⟨Bn, 0, none⟩)], .int .i64 (x.1.1 : Int), .agg (hopC x.1.2).toArray, undef, undef, undef, undef, undef, undef, undef, undef, undef, undef, undef, undef, undef, undef, undef, undef, undef, undef, undef, undef, undef, undef, undef, undef, undef], defers := [] })
      (fun x a' _ W W' row h hg hr => by obtain ⟨g11, h1, h2, h3⟩ := h; exact ⟨g11, h1, h2.own hg hr, h3⟩) ?assign ?body ?done ?stop
    case assign =>
      intro l pre x W K hI hK
      have H := hide hI.1
      have hW12 := hI.2
      have HXL := hide (hopC_length x.2)
      have hbs0 := HE.out
      clear hI
      refine region_round (fun ⟨_, _, h⟩ => h) (by rfl) ?_
      simp only [itemV, List.zip_toArray, List.zip_cons_cons, List.zip_nil_right, List.foldl_toArray, List.foldl_cons, List.foldl_nil, List.setIfInBounds_toArray, List.set_cons_zero, List.set_cons_succ]
      go_wp2_with (first
        | ((with_reducible refine wpl_alloca (op := ⟨some 11, _, _, _, _, _⟩) rfl _ rfl _ zeroH ?_); intro g11 V11 hB1 hg1 hF1)
        | ((with_reducible refine wpl_storea aggH rfl (.tmp 11) (.tmp 25) rfl g11 (hopC x.1.2) rfl rfl _ _ hB1 HXL.out hop0_len (hopC_one _) ?_); intro W2 hB2 hF2))
      have hF : Frm (fun k => k = g11) W W2 := (hF1.mono (fun _ _ h => h.elim)).trans hF2 (fun _ _ h => h)
      refine hK _ _ ⟨hF.size, fun k o hk ho _ => ?_⟩ (hF.mono (fun k _ hk => .inr (.inr (by omega)))) ⟨H.out.call (hF.below (Nat.le_refl _) (fun k hk => by omega)), Nat.le_trans hW12 hF.size⟩ ⟨g11, by omega, hB2, rfl⟩
      have hlt := (Array.getElem?_eq_some_iff.1 ho).1
      rw [hF.block k hlt (by omega)]
      exact ho

    case body =>
      rintro l pre x a' W hl ⟨rec, hrec⟩ hI ⟨g11, hg11, hB11, rfl⟩ hlen
      clear hrec hlen
      obtain ⟨p, hp⟩ : ∃ p, p = (stB i0 pre).1 := ⟨_, rfl⟩
      obtain ⟨s, hs0⟩ : ∃ s, s = (stB i0 pre).2 := ⟨_, rfl⟩
      have hok := HST.out pre
      have hI1 := hI.1
      have hW12 := hI.2
      rw [← hp, ← hs0] at hI1 hok
      have HSN := hide (stB_snoc i0 pre x)
      have hxok := x.2
      obtain ⟨h, hh⟩ : ∃ h, h = x.1.2 := ⟨_, rfl⟩
      rw [← hh] at hB11 hxok ⊢
      have HSN2 : Hid (stB i0 (pre ++ [x]) = stepB h (p, s)) := by show _ = _; rw [HSN.out, ← hh, hp, hs0]
      have hll := HL.out
      have hee := HE.out
      have H : Hid (RAt w ([(g5, 24, cellsB body), (g6, 34, pktC pkt0), (g8, 34, pktC p), (g9, 51, slotC s)] ++ [(g11, 63, hopC h)]) (fun k => k = g8 ∨ k = g9) W W) :=
        RAt.start (hI1.add hB11 (by omega) (by
          intro y hy
          simp only [List.mem_cons, List.not_mem_nil, or_false] at hy
          rcases hy with rfl | rfl | rfl | rfl <;> (show _ ≠ _; omega)))
      have HPO := hide hok.1
      have HSO := hide hok.2
      have HHO := hide hxok
      have hK8 : g8 < W12.heap.size ∧ g9 < W12.heap.size := by omega
      have HK8 := hide hK8
      have HW12 := hide hW12
      clear hI hI1 hok hB11 hxok HSN hp hs0 hh hl hg11 hll hee hW12 hK8
      have HHlo := hide (hopC_lo HHO.out)
      have HHhi := hide (hopC_hi HHO.out)
      have HHde := hide (hopC_delay HHO.out)
      have HHE := hide (hopC_epoch HHO.out)
      have HHN := hide (hopC_nonce HHO.out)
      have HHL := hide (hopC_length HHO.out)
      obtain ⟨s1, hs1⟩ : ∃ t : Slot, t = { s with lo := h.lo } := ⟨_, rfl⟩
      obtain ⟨s2, hs2⟩ : ∃ t : Slot, t = { s1 with hi := h.hi } := ⟨_, rfl⟩
      obtain ⟨s3, hs3⟩ : ∃ t : Slot, t = { s2 with delay := h.delay } := ⟨_, rfl⟩
      have hi3 : inSlot h s = s3 := by rw [hs3, hs2, hs1]; rfl
      have HX1 : Hid ((slotC s).set 37 (.int .u64 (h.lo : Int)) = slotC s1) := by show _ = _; rw [hs1]; exact slotC_slo HSO.out.nonce HSO.out.mac _
      have HX2 : Hid ((slotC s1).set 38 (.int .u64 (h.hi : Int)) = slotC s2) := by show _ = _; rw [hs2]; exact slotC_shi (by rw [hs1]; exact HSO.out.nonce) (by rw [hs1]; exact HSO.out.mac) _
      have HX3 : Hid ((slotC s2).set 39 (.int .u32 (h.delay : Int)) = slotC s3) := by show _ = _; rw [hs3]; exact slotC_sdelay (by rw [hs2, hs1]; exact HSO.out.nonce) (by rw [hs2, hs1]; exact HSO.out.mac) _
      have HSc0 := hide (slotC_length s HSO.out.nonce HSO.out.mac)
      have HSc1 : Hid ((slotC s1).length = 40) := by show _ = _; rw [← HX1.out, List.length_set, HSc0.out]
      have HSc2 : Hid ((slotC s2).length = 40) := by show _ = _; rw [← HX2.out, List.length_set, HSc1.out]
      have HSc3 : Hid ((slotC s3).length = 40) := by show _ = _; rw [← HX3.out, List.length_set, HSc2.out]
      have HS3 : Hid (s3.ok) := by rw [← hi3]; exact inSlot_ok HHO.out HSO.out
      have HPc := hide (pktC_length HPO.out)
      have HWR := hide (fun (W : World) (x : Tb W) => wrap_any h s3 p HHO.out HS3.out HPO.out W x)
      have hqok := wrapL_ok HHO.out HS3.out HPO.out
      have HQE : Hid (stepB h (p, s) = (wrapL h s3 p, ofHop h (wrapL h s3 p).mac)) := by show (wrapL h (inSlot h s) p, ofHop h (wrapL h (inSlot h s) p).mac) = _; rw [hi3]
      generalize wrapL h s3 p = q at *
      have HQO := hide hqok
      have HQc := hide (pktC_length hqok)
      have HQM := hide (pktC_mac hqok)
      have hbh := build_slotH h.addr h.who h.epoch h.nonce q.mac HHO.out.nonce hqok.mac
      obtain ⟨nx, hnx⟩ : ∃ t, t = ofHop h q.mac := ⟨_, rfl⟩
      have HNX : Hid (stepB h (p, s) = (q, nx)) := by show _ = _; rw [HQE.out, hnx]
      have HNO : Hid (nx.ok) := by rw [hnx]; exact ofHop_ok HHO.out hqok.mac
      have hbh2 : ∀ w, Sem.run Tryz.prog (Instr.build 51 #[(1, .int .u16 (h.addr : Int)), (3, .int .u16 (h.who : Int)), (4, .int .u32 (h.epoch : Int)), (5, .agg (cellsB h.nonce).toArray), (6, .agg (cellsB q.mac).toArray)]) w = .ok (.agg (slotC nx).toArray) w := by rw [hnx]; exact hbh
      have HNc := hide (slotC_length nx HNO.out.nonce HNO.out.mac)
      clear hbh hnx hqok hi3 hs1 hs2 hs3 HQE
      refine wpIn_block ?_
      refine wpIn_seq ?_
      refine region_held_round (S := fun W' => Blk W' g11 63 (hopC h).toArray) (fun ⟨_, _, h⟩ => h) (by rfl) (by kernel_rfl) (H.out.drew.get 4 rfl) ?_
      intro hHeld
      obtain ⟨W1, hW1⟩ : ∃ W1, W1 = W.drew := ⟨_, rfl⟩
      replace H := hide (by rw [hW1]; exact H.out.drew : RAt w _ _ W W1)
      rw [← hW1] at hHeld ⊢
      clear hW1
      refine tkH 0 (v := ?v5) rfl ?hy5 ?rest5
      case hy5 => (intro w hSw; (try go_simp); try with_reducible rfl)
      try simp only [Act.put, PTs]
      refine tkH 1 (v := ?v6) rfl ?hy6 ?rest6
      case hy6 => (intro w hSw; refine held_load1 Tryz.underlying49 rfl one64 (.tmp 26) ?_ g11 51 ?_ _ _ (.int .u64 (h.lo : Int)) hSw HHlo.out <;> rfl)
      try simp only [Act.put, PTs]
      refine tkH 2 (v := ?v7) rfl ?hy7 ?rest7
      case hy7 => (intro w hSw; (try go_simp); try with_reducible rfl)
      try simp only [Act.put, PTs]
      refine tkH 3 (v := ?v8) rfl ?hy8 ?rest8
      case hy8 => (intro w hSw; refine held_load1 Tryz.underlying49 rfl one64 (.tmp 28) ?_ g11 52 ?_ _ _ (.int .u64 (h.hi : Int)) hSw HHhi.out <;> rfl)
      try simp only [Act.put, PTs]
      refine tkH 4 (v := ?v9) rfl ?hy9 ?rest9
      case hy9 => (intro w hSw; (try go_simp); try with_reducible rfl)
      try simp only [Act.put, PTs]
      refine tkH 5 (v := ?v10) rfl ?hy10 ?rest10
      case hy10 => (intro w hSw; refine held_load1 Tryz.underlying28 rfl one32 (.tmp 30) ?_ g11 53 ?_ _ _ (.int .u32 (h.delay : Int)) hSw HHde.out <;> rfl)
      try simp only [Act.put, PTs]
      refine tkH 6 (v := ?v11) rfl ?hy11 ?rest11
      case hy11 => (intro w hSw; (try go_simp); try with_reducible rfl)
      try simp only [Act.put, PTs]
      refine rdH 7 rfl (by kernel_rfl) (fun K hK => ?_)
      refine step_store1 one64 rfl (.tmp 32) (.tmp 27) rfl g9 37 (.int .u64 (h.lo : Int)) (slotC s) (slotC s1) rfl rfl rfl _ (H.out.get 3 rfl) (by rw [HSc0.out]; decide) (HX1.out) ?_
      intro Wa hB7 hF7
      replace H := hide (H.out.store 3 rfl hF7 hB7 (Or.inr rfl))
      clear hB7 hF7
      refine hK.out _ _ (H.out.get 4 rfl) (fun hHeld => ?_)
      clear hK K
      refine tkH 8 (v := ?v12) rfl ?hy12 ?rest12
      case hy12 => (intro w hSw; (try go_simp); try with_reducible rfl)
      try simp only [Act.put, PTs]
      refine rdH 9 rfl (by kernel_rfl) (fun K hK => ?_)
      refine step_store1 one64 rfl (.tmp 33) (.tmp 29) rfl g9 38 (.int .u64 (h.hi : Int)) (slotC s1) (slotC s2) rfl rfl rfl _ (H.out.get 3 rfl) (by rw [HSc1.out]; decide) (HX2.out) ?_
      intro Wb hB7 hF7
      replace H := hide (H.out.store 3 rfl hF7 hB7 (Or.inr rfl))
      clear hB7 hF7
      refine hK.out _ _ (H.out.get 4 rfl) (fun hHeld => ?_)
      clear hK K
      refine tkH 10 (v := ?v13) rfl ?hy13 ?rest13
      case hy13 => (intro w hSw; (try go_simp); try with_reducible rfl)
      try simp only [Act.put, PTs]
      refine rdH 11 rfl (by kernel_rfl) (fun K hK => ?_)
      refine step_store1 one32 rfl (.tmp 34) (.tmp 31) rfl g9 39 (.int .u32 (h.delay : Int)) (slotC s2) (slotC s3) rfl rfl rfl _ (H.out.get 3 rfl) (by rw [HSc2.out]; decide) (HX3.out) ?_
      intro Wc hB7 hF7
      replace H := hide (H.out.store 3 rfl hF7 hB7 (Or.inr rfl))
      clear hB7 hF7
      refine hK.out _ _ (H.out.get 4 rfl) (fun hHeld => ?_)
      clear hK K
      refine wpAnyH_done (by kernel_rfl) ?_ _
      clear hHeld
      refine wpIn_seq ?_
      refine region_round (fun ⟨_, _, h⟩ => h) (by rfl) ?_
      go_wp2_with (first
        | (with_reducible refine at_op (op := ⟨some 35, _, _, _, _, _⟩) ?_; refine wpl_held (op := ⟨some 35, _, _, _, _, _⟩) (.agg (hopC h).toArray) (held_loadf aggH _ rfl g11 rfl _ (hopC h) (H.out.get 4 rfl) HHL.out) rfl ?_)
        | (with_reducible refine at_op (op := ⟨some 36, _, _, _, _, _⟩) ?_; refine wpl_held (op := ⟨some 36, _, _, _, _, _⟩) (.agg (slotC s3).toArray) (held_loadf aggS _ rfl g9 rfl _ (slotC s3) (H.out.get 3 rfl) HSc3.out) rfl ?_)
        | (with_reducible refine at_op (op := ⟨some 37, _, _, _, _, _⟩) ?_; refine wpl_held (op := ⟨some 37, _, _, _, _, _⟩) (.agg (pktC p).toArray) (held_loadf aggP _ rfl g8 rfl _ (pktC p) (H.out.get 2 rfl) HPc.out) rfl ?_)
        | (go_at_call 18; with_reducible refine (HWR.out _ H.out.tb).mono ?_; rintro e Wd ⟨rfl, hbc⟩; replace H := hide (H.out.call hbc); clear hbc)
        | ((with_reducible refine wpl_storea aggP rfl (.tmp 8) (.tmp 38) rfl g8 (pktC q) rfl rfl _ _ (H.out.get 2 rfl) HQc.out (by rw [List.size_toArray]; exact HPc.out) (pktC_one _) ?_); intro We hB1 hF1; replace H := hide (H.out.store 2 rfl hF1 hB1 (Or.inl rfl)); clear hB1 hF1))
      refine region_round (fun ⟨_, _, h⟩ => h) (by rfl) ?_
      go_wp2_with (first
        | (with_reducible refine at_op (op := ⟨some 40, _, _, _, _, _⟩) ?_; refine wpl_held (op := ⟨some 40, _, _, _, _, _⟩) (.int .u16 (h.addr : Int)) (held_load1 Tryz.underlying48 rfl one16a _ rfl g11 0 rfl _ _ (.int .u16 (h.addr : Int)) (H.out.get 4 rfl) rfl) rfl ?_)
        | (with_reducible refine at_op (op := ⟨some 42, _, _, _, _, _⟩) ?_; refine wpl_held (op := ⟨some 42, _, _, _, _, _⟩) (.int .u16 (h.who : Int)) (held_load1 Tryz.underlying27 rfl one16w _ rfl g11 1 rfl _ _ (.int .u16 (h.who : Int)) (H.out.get 4 rfl) rfl) rfl ?_)
        | (with_reducible refine at_op (op := ⟨some 44, _, _, _, _, _⟩) ?_; refine wpl_held (op := ⟨some 44, _, _, _, _, _⟩) (.int .u32 (h.epoch : Int)) (held_load1 Tryz.underlying28 rfl one32 _ rfl g11 34 rfl _ _ (.int .u32 (h.epoch : Int)) (H.out.get 4 rfl) HHE.out) rfl ?_)
        | (with_reducible refine at_op (op := ⟨some 46, _, _, _, _, _⟩) ?_; refine wpl_held (op := ⟨some 46, _, _, _, _, _⟩) (.agg (cellsB h.nonce).toArray) (held_loada aggN _ rfl g11 35 rfl _ (hopC h) (cellsB h.nonce) (H.out.get 4 rfl) HHN.out (by rw [HHL.out]; decide)) rfl ?_)
        | (with_reducible refine at_op (op := ⟨some 48, _, _, _, _, _⟩) ?_; refine wpl_held (op := ⟨some 48, _, _, _, _, _⟩) (.agg (cellsB q.mac).toArray) (held_loada aggM _ rfl g8 18 rfl _ (pktC q) (cellsB q.mac) (H.out.get 2 rfl) HQM.out (by rw [HQc.out]; decide)) rfl ?_)
        | (with_reducible refine at_op (op := ⟨some 49, _, _, _, _, _⟩) ?_; refine wpl_held (op := ⟨some 49, _, _, _, _, _⟩) (.agg (slotC nx).toArray) (held_build _ _ rfl _ _ (hbh2 _) rfl) rfl ?_)
        | ((with_reducible refine wpl_storea aggS rfl (.tmp 9) (.tmp 49) rfl g9 (slotC nx) rfl rfl _ _ (H.out.get 3 rfl) HNc.out (by rw [List.size_toArray]; exact HSc3.out) (slotC_one _) ?_); intro Wf hB1 hF1; replace H := hide (H.out.store 3 rfl hF1 hB1 (Or.inr rfl)); clear hB1 hF1))
      have hfr := H.out.fr
      refine ⟨⟨hfr.size, fun k o hk ho _ => ?_⟩, hfr.mono (fun k _ hk => hk.elim .inl (fun x => .inr (.inl x))), ?_, Nat.le_trans HW12.out hfr.size⟩
      · have hlt := (Array.getElem?_eq_some_iff.1 ho).1
        have := HK8.out
        rw [hfr.block k hlt (by omega)]
        exact ho
      · rw [HSN2.out, HNX.out]
        exact H.out.at'.pre 4

    case done =>
      intro D ys W hD hys hI hK
      subst hys
      rw [HBA.out] at hI
      have H := hide hI
      have HKD := hide hK
      clear hI hK
      have HFc : Hid ((pktC (bldR i0 hs).1).length = 610) := pktC_length (by rw [← HBA.out]; exact (HST.out _).1)
      replace H := hide H.out.1
      go_wp2_with (first
        | (with_reducible refine at_op (op := ⟨some 50, _, _, _, _, _⟩) ?_; refine wpl_held (op := ⟨some 50, _, _, _, _, _⟩) (.agg (pktC (bldR i0 hs).1).toArray) (held_loadf aggP _ rfl g8 rfl _ (pktC (bldR i0 hs).1) (H.out.get 2 rfl) HFc.out) rfl ?_)
        | ((with_reducible refine wpl_storea aggP rfl (.tmp 6) (.tmp 50) rfl g6 (pktC (bldR i0 hs).1) rfl rfl _ _ (H.out.get 1 rfl) HFc.out (pkt0_len) (pktC_one _) ?_); intro W2 hB1 hF1; have HF2 := hide hF1; replace H := hide (H.out.store 1 rfl hF1 hB1); clear hB1 hF1))
      have hlt := HL.out
      have hk2 : W2.heap[D]? = some (.deferred (some [])) := (HF2.out.block D (Array.getElem?_eq_some_iff.1 HKD.out).1 (by omega)).trans HKD.out
      refine ⟨by simp, .inl ⟨_, _, rfl, run_takeDeferred hk2, ?_⟩⟩
      have hee := HE.out
      have H3 := H.out.own (B := w.heap.size) (Nat.le_refl _) (grownBy_putObj' W2 D (.deferred none)) (fun r e => by cases e; exact ⟨by omega, _, hk2, rfl⟩)
      exact ⟨_, results_ct aggP rfl _ _ g6 _ _ rfl (H3.get 1 rfl) HFc.out, rfl, H3.bel⟩

    case stop =>
      intro D c pre W _ _ h _
      exact h.elim
  · go_wp2_with (first
      | (with_reducible refine at_op (op := ⟨some 21, _, _, _, _, _⟩) ?_; refine wpl_held (op := ⟨some 21, _, _, _, _, _⟩) (.agg (slotC i0.2).toArray) (held_build _ _ rfl _ _ (hbs _) rfl) rfl ?_)
      | ((with_reducible refine wpl_alloca (op := ⟨some 9, _, _, _, _, _⟩) rfl _ rfl _ zeroS ?_); intro g9 V9 hB1 hg1 hF1)
      | ((with_reducible refine wpl_storea aggS rfl (.tmp 9) (.tmp 21) rfl g9 (slotC i0.2) rfl rfl _ _ hB1 HS2.out slot0_len (slotC_one _) ?_); intro W11 hB2 hF2; replace H := hide (H.out.var hg1 hF1 hF2 hB2); clear hB1 hg1 hF1 hB2 hF2)
      | (go_at_call 17; refine (HBK.out _).mono ?_; rintro e W12 ⟨rfl, hW12⟩))
    subst hW12
    have H12 : Hid (OAt w [(g5, 24, cellsB body), (g6, 34, pktC pkt0), (g8, 34, pktC i0.1), (g9, 51, slotC i0.2)] (W11.alloc (.cells #[.slice A n c] 22))) := H.out.frm (Frm.alloc _ _ _)
    have hbx := (Blk.new W11 22 #[.slice A n c]).cell 0
    have l5 := (H.out.get 0 rfl).lt
    have l6 := (H.out.get 1 rfl).lt
    have l8 := (H.out.get 2 rfl).lt
    have l9 := (H.out.get 3 rfl).lt
    have e5 := H.out.ge 0 rfl
    have e6 := H.out.ge 1 rfl
    have e8 := H.out.ge 2 rfl
    have e9 := H.out.ge 3 rfl
    obtain ⟨Bn, hBn⟩ : ∃ b, b = W11.heap.size := ⟨_, rfl⟩
    have hsz : (W11.alloc (.cells #[.slice A n c] 22)).heap.size = Bn + 1 := by rw [hBn]; simp
    obtain ⟨W12, hW12⟩ : ∃ W, W = W11.alloc (.cells #[.slice A n c] 22) := ⟨_, rfl⟩
    rw [← hW12] at H12 hbx hsz ⊢
    rw [← hBn] at hbx l5 l6 l8 l9 ⊢
    have hbw := H.out.bel.size
    rw [← hBn] at hbw
    clear H hW12 hBn
    have HL := hide (And.intro l5 (And.intro l6 (And.intro l8 (And.intro l9 hsz))))
    have HE := hide (And.intro e5 (And.intro e6 (And.intro e8 (And.intro e9 hbw))))
    have hbx' : W12.cell? ⟨Bn, 0, none⟩ = some (.slice A n c) := by rw [hbx]; rfl
    have HBX := hide hbx'
    clear l5 l6 l8 l9 hsz e5 e6 e8 e9 hbw hbx hbx'
    refine (wpIn_wide (n := 3)).1 ?_
    refine wpIn_rangeFunc_ownH (F := Fence.wide) (Kp := KpB W12.heap.size g8 g9) (encs := itemV) (S := fun ys => ys = backU hs HLW n) (Sp := fun _ => True) (N := n) (w0 := W12) rfl (by decide) (gf := 42) (lb := #[.pointer (some ⟨Bn, 0, none⟩)]) rfl trivial (enters_of Tryz.func42 (by kernel_rfl) rfl)
      (fun l J Jx W hW _ _ hY h0 => back1_in 2 (by decide) l Bn W12.heap.size g8 g9 w A n c hs HR.out hn (by have := HE.out; omega) (by have := HE.out; omega) (by have := HE.out; have := HL.out; omega) (by have := HL.out; omega) (by have := HL.out; omega) (by have := HL.out; omega) J Jx hY W ⟨H12.out.bel.trans (hW.mono H12.out.bel.size), (hW.cell (p := ⟨Bn, 0, none⟩) (by have := HL.out; show Bn < _; omega)).trans HBX.out⟩ h0)
      (fun h k => KpB.trans h k) (hKb0 (Nat.le_refl _)) (Below.refl _ _) (fun _ => rfl)
      (fun pre W => OAt w [(g5, 24, cellsB body), (g6, 34, pktC pkt0), (g8, 34, pktC (stB i0 pre).1), (g9, 51, slotC (stB i0 pre).2)] W ∧ W12.heap.size ≤ W.heap.size)
      (fun _ _ _ => False)
      (fun pre W W' row h hg hr => ⟨h.1.own (by have := HE.out; have := HL.out; omega) hg hr, Nat.le_trans h.2 hg.size⟩)
      (fun _ _ _ _ _ h _ _ => h)
      ⟨H12.out, Nat.le_refl _⟩
      (fun x a' W => ∃ g11, W12.heap.size ≤ g11 ∧ Blk W g11 63 (hopC x.1.2).toArray ∧ a' = { tmps := #[.slice A n c, .int .u16 (box : Int), .agg (cellsB body).toArray, undef, undef, .pointer (some ⟨g5, 0, none⟩), .pointer (some ⟨g6, 0, none⟩), .int .i64 0, .pointer (some ⟨g8, 0, none⟩), .pointer (some ⟨g9, 0, none⟩), undef, .pointer (some ⟨g11, 0, none⟩), .slice A n c, .bool true, .bool false, undef, .slice A n c, .agg (cellsB LH).toArray, .agg (cellsB body).toArray, .agg (pktC i0.1).toArray, .int .u16 (box : Int), .agg (slotC i0.2).toArray, .slice A n c, .func (.func 42) #[] #[.pointer (some ⟨Bn, 0, none⟩)], .int .i64 (x.1.1 : Int), .agg (hopC x.1.2).toArray, undef, undef, undef, undef, undef, undef, undef, undef, undef, undef, undef, undef, undef, undef, undef, undef, undef, undef, undef, undef, undef, undef, undef, undef, undef], defers := [] })
      (fun x a' _ W W' row h hg hr => by obtain ⟨g11, h1, h2, h3⟩ := h; exact ⟨g11, h1, h2.own hg hr, h3⟩) ?assign ?body ?done ?stop
    case assign =>
      intro l pre x W K hI hK
      have H := hide hI.1
      have hW12 := hI.2
      have HXL := hide (hopC_length x.2)
      have hbs0 := HE.out
      clear hI
      refine region_round (fun ⟨_, _, h⟩ => h) (by rfl) ?_
      simp only [itemV, List.zip_toArray, List.zip_cons_cons, List.zip_nil_right, List.foldl_toArray, List.foldl_cons, List.foldl_nil, List.setIfInBounds_toArray, List.set_cons_zero, List.set_cons_succ]
      go_wp2_with (first
        | ((with_reducible refine wpl_alloca (op := ⟨some 11, _, _, _, _, _⟩) rfl _ rfl _ zeroH ?_); intro g11 V11 hB1 hg1 hF1)
        | ((with_reducible refine wpl_storea aggH rfl (.tmp 11) (.tmp 25) rfl g11 (hopC x.1.2) rfl rfl _ _ hB1 HXL.out hop0_len (hopC_one _) ?_); intro W2 hB2 hF2))
      have hF : Frm (fun k => k = g11) W W2 := (hF1.mono (fun _ _ h => h.elim)).trans hF2 (fun _ _ h => h)
      refine hK _ _ ⟨hF.size, fun k o hk ho _ => ?_⟩ (hF.mono (fun k _ hk => .inr (.inr (by omega)))) ⟨H.out.call (hF.below (Nat.le_refl _) (fun k hk => by omega)), Nat.le_trans hW12 hF.size⟩ ⟨g11, by omega, hB2, rfl⟩
      have hlt := (Array.getElem?_eq_some_iff.1 ho).1
      rw [hF.block k hlt (by omega)]
      exact ho

    case body =>
      rintro l pre x a' W hl ⟨rec, hrec⟩ hI ⟨g11, hg11, hB11, rfl⟩ hlen
      clear hrec hlen
      obtain ⟨p, hp⟩ : ∃ p, p = (stB i0 pre).1 := ⟨_, rfl⟩
      obtain ⟨s, hs0⟩ : ∃ s, s = (stB i0 pre).2 := ⟨_, rfl⟩
      have hok := HST.out pre
      have hI1 := hI.1
      have hW12 := hI.2
      rw [← hp, ← hs0] at hI1 hok
      have HSN := hide (stB_snoc i0 pre x)
      have hxok := x.2
      obtain ⟨h, hh⟩ : ∃ h, h = x.1.2 := ⟨_, rfl⟩
      rw [← hh] at hB11 hxok ⊢
      have HSN2 : Hid (stB i0 (pre ++ [x]) = stepB h (p, s)) := by show _ = _; rw [HSN.out, ← hh, hp, hs0]
      have hll := HL.out
      have hee := HE.out
      have H : Hid (RAt w ([(g5, 24, cellsB body), (g6, 34, pktC pkt0), (g8, 34, pktC p), (g9, 51, slotC s)] ++ [(g11, 63, hopC h)]) (fun k => k = g8 ∨ k = g9) W W) :=
        RAt.start (hI1.add hB11 (by omega) (by
          intro y hy
          simp only [List.mem_cons, List.not_mem_nil, or_false] at hy
          rcases hy with rfl | rfl | rfl | rfl <;> (show _ ≠ _; omega)))
      have HPO := hide hok.1
      have HSO := hide hok.2
      have HHO := hide hxok
      have hK8 : g8 < W12.heap.size ∧ g9 < W12.heap.size := by omega
      have HK8 := hide hK8
      have HW12 := hide hW12
      clear hI hI1 hok hB11 hxok HSN hp hs0 hh hl hg11 hll hee hW12 hK8
      have HHlo := hide (hopC_lo HHO.out)
      have HHhi := hide (hopC_hi HHO.out)
      have HHde := hide (hopC_delay HHO.out)
      have HHE := hide (hopC_epoch HHO.out)
      have HHN := hide (hopC_nonce HHO.out)
      have HHL := hide (hopC_length HHO.out)
      obtain ⟨s1, hs1⟩ : ∃ t : Slot, t = { s with lo := h.lo } := ⟨_, rfl⟩
      obtain ⟨s2, hs2⟩ : ∃ t : Slot, t = { s1 with hi := h.hi } := ⟨_, rfl⟩
      obtain ⟨s3, hs3⟩ : ∃ t : Slot, t = { s2 with delay := h.delay } := ⟨_, rfl⟩
      have hi3 : inSlot h s = s3 := by rw [hs3, hs2, hs1]; rfl
      have HX1 : Hid ((slotC s).set 37 (.int .u64 (h.lo : Int)) = slotC s1) := by show _ = _; rw [hs1]; exact slotC_slo HSO.out.nonce HSO.out.mac _
      have HX2 : Hid ((slotC s1).set 38 (.int .u64 (h.hi : Int)) = slotC s2) := by show _ = _; rw [hs2]; exact slotC_shi (by rw [hs1]; exact HSO.out.nonce) (by rw [hs1]; exact HSO.out.mac) _
      have HX3 : Hid ((slotC s2).set 39 (.int .u32 (h.delay : Int)) = slotC s3) := by show _ = _; rw [hs3]; exact slotC_sdelay (by rw [hs2, hs1]; exact HSO.out.nonce) (by rw [hs2, hs1]; exact HSO.out.mac) _
      have HSc0 := hide (slotC_length s HSO.out.nonce HSO.out.mac)
      have HSc1 : Hid ((slotC s1).length = 40) := by show _ = _; rw [← HX1.out, List.length_set, HSc0.out]
      have HSc2 : Hid ((slotC s2).length = 40) := by show _ = _; rw [← HX2.out, List.length_set, HSc1.out]
      have HSc3 : Hid ((slotC s3).length = 40) := by show _ = _; rw [← HX3.out, List.length_set, HSc2.out]
      have HS3 : Hid (s3.ok) := by rw [← hi3]; exact inSlot_ok HHO.out HSO.out
      have HPc := hide (pktC_length HPO.out)
      have HWR := hide (fun (W : World) (x : Tb W) => wrap_any h s3 p HHO.out HS3.out HPO.out W x)
      have hqok := wrapL_ok HHO.out HS3.out HPO.out
      have HQE : Hid (stepB h (p, s) = (wrapL h s3 p, ofHop h (wrapL h s3 p).mac)) := by show (wrapL h (inSlot h s) p, ofHop h (wrapL h (inSlot h s) p).mac) = _; rw [hi3]
      generalize wrapL h s3 p = q at *
      have HQO := hide hqok
      have HQc := hide (pktC_length hqok)
      have HQM := hide (pktC_mac hqok)
      have hbh := build_slotH h.addr h.who h.epoch h.nonce q.mac HHO.out.nonce hqok.mac
      obtain ⟨nx, hnx⟩ : ∃ t, t = ofHop h q.mac := ⟨_, rfl⟩
      have HNX : Hid (stepB h (p, s) = (q, nx)) := by show _ = _; rw [HQE.out, hnx]
      have HNO : Hid (nx.ok) := by rw [hnx]; exact ofHop_ok HHO.out hqok.mac
      have hbh2 : ∀ w, Sem.run Tryz.prog (Instr.build 51 #[(1, .int .u16 (h.addr : Int)), (3, .int .u16 (h.who : Int)), (4, .int .u32 (h.epoch : Int)), (5, .agg (cellsB h.nonce).toArray), (6, .agg (cellsB q.mac).toArray)]) w = .ok (.agg (slotC nx).toArray) w := by rw [hnx]; exact hbh
      have HNc := hide (slotC_length nx HNO.out.nonce HNO.out.mac)
      clear hbh hnx hqok hi3 hs1 hs2 hs3 HQE
      refine wpIn_block ?_
      refine wpIn_seq ?_
      refine region_held_round (S := fun W' => Blk W' g11 63 (hopC h).toArray) (fun ⟨_, _, h⟩ => h) (by rfl) (by kernel_rfl) (H.out.drew.get 4 rfl) ?_
      intro hHeld
      obtain ⟨W1, hW1⟩ : ∃ W1, W1 = W.drew := ⟨_, rfl⟩
      replace H := hide (by rw [hW1]; exact H.out.drew : RAt w _ _ W W1)
      rw [← hW1] at hHeld ⊢
      clear hW1
      refine tkH 0 (v := ?v14) rfl ?hy14 ?rest14
      case hy14 => (intro w hSw; (try go_simp); try with_reducible rfl)
      try simp only [Act.put, PTs]
      refine tkH 1 (v := ?v15) rfl ?hy15 ?rest15
      case hy15 => (intro w hSw; refine held_load1 Tryz.underlying49 rfl one64 (.tmp 26) ?_ g11 51 ?_ _ _ (.int .u64 (h.lo : Int)) hSw HHlo.out <;> rfl)
      try simp only [Act.put, PTs]
      refine tkH 2 (v := ?v16) rfl ?hy16 ?rest16
      case hy16 => (intro w hSw; (try go_simp); try with_reducible rfl)
      try simp only [Act.put, PTs]
      refine tkH 3 (v := ?v17) rfl ?hy17 ?rest17
      case hy17 => (intro w hSw; refine held_load1 Tryz.underlying49 rfl one64 (.tmp 28) ?_ g11 52 ?_ _ _ (.int .u64 (h.hi : Int)) hSw HHhi.out <;> rfl)
      try simp only [Act.put, PTs]
      refine tkH 4 (v := ?v18) rfl ?hy18 ?rest18
      case hy18 => (intro w hSw; (try go_simp); try with_reducible rfl)
      try simp only [Act.put, PTs]
      refine tkH 5 (v := ?v19) rfl ?hy19 ?rest19
      case hy19 => (intro w hSw; refine held_load1 Tryz.underlying28 rfl one32 (.tmp 30) ?_ g11 53 ?_ _ _ (.int .u32 (h.delay : Int)) hSw HHde.out <;> rfl)
      try simp only [Act.put, PTs]
      refine tkH 6 (v := ?v20) rfl ?hy20 ?rest20
      case hy20 => (intro w hSw; (try go_simp); try with_reducible rfl)
      try simp only [Act.put, PTs]
      refine rdH 7 rfl (by kernel_rfl) (fun K hK => ?_)
      refine step_store1 one64 rfl (.tmp 32) (.tmp 27) rfl g9 37 (.int .u64 (h.lo : Int)) (slotC s) (slotC s1) rfl rfl rfl _ (H.out.get 3 rfl) (by rw [HSc0.out]; decide) (HX1.out) ?_
      intro Wa hB7 hF7
      replace H := hide (H.out.store 3 rfl hF7 hB7 (Or.inr rfl))
      clear hB7 hF7
      refine hK.out _ _ (H.out.get 4 rfl) (fun hHeld => ?_)
      clear hK K
      refine tkH 8 (v := ?v21) rfl ?hy21 ?rest21
      case hy21 => (intro w hSw; (try go_simp); try with_reducible rfl)
      try simp only [Act.put, PTs]
      refine rdH 9 rfl (by kernel_rfl) (fun K hK => ?_)
      refine step_store1 one64 rfl (.tmp 33) (.tmp 29) rfl g9 38 (.int .u64 (h.hi : Int)) (slotC s1) (slotC s2) rfl rfl rfl _ (H.out.get 3 rfl) (by rw [HSc1.out]; decide) (HX2.out) ?_
      intro Wb hB7 hF7
      replace H := hide (H.out.store 3 rfl hF7 hB7 (Or.inr rfl))
      clear hB7 hF7
      refine hK.out _ _ (H.out.get 4 rfl) (fun hHeld => ?_)
      clear hK K
      refine tkH 10 (v := ?v22) rfl ?hy22 ?rest22
      case hy22 => (intro w hSw; (try go_simp); try with_reducible rfl)
      try simp only [Act.put, PTs]
      refine rdH 11 rfl (by kernel_rfl) (fun K hK => ?_)
      refine step_store1 one32 rfl (.tmp 34) (.tmp 31) rfl g9 39 (.int .u32 (h.delay : Int)) (slotC s2) (slotC s3) rfl rfl rfl _ (H.out.get 3 rfl) (by rw [HSc2.out]; decide) (HX3.out) ?_
      intro Wc hB7 hF7
      replace H := hide (H.out.store 3 rfl hF7 hB7 (Or.inr rfl))
      clear hB7 hF7
      refine hK.out _ _ (H.out.get 4 rfl) (fun hHeld => ?_)
      clear hK K
      refine wpAnyH_done (by kernel_rfl) ?_ _
      clear hHeld
      refine wpIn_seq ?_
      refine region_round (fun ⟨_, _, h⟩ => h) (by rfl) ?_
      go_wp2_with (first
        | (with_reducible refine at_op (op := ⟨some 35, _, _, _, _, _⟩) ?_; refine wpl_held (op := ⟨some 35, _, _, _, _, _⟩) (.agg (hopC h).toArray) (held_loadf aggH _ rfl g11 rfl _ (hopC h) (H.out.get 4 rfl) HHL.out) rfl ?_)
        | (with_reducible refine at_op (op := ⟨some 36, _, _, _, _, _⟩) ?_; refine wpl_held (op := ⟨some 36, _, _, _, _, _⟩) (.agg (slotC s3).toArray) (held_loadf aggS _ rfl g9 rfl _ (slotC s3) (H.out.get 3 rfl) HSc3.out) rfl ?_)
        | (with_reducible refine at_op (op := ⟨some 37, _, _, _, _, _⟩) ?_; refine wpl_held (op := ⟨some 37, _, _, _, _, _⟩) (.agg (pktC p).toArray) (held_loadf aggP _ rfl g8 rfl _ (pktC p) (H.out.get 2 rfl) HPc.out) rfl ?_)
        | (go_at_call 18; with_reducible refine (HWR.out _ H.out.tb).mono ?_; rintro e Wd ⟨rfl, hbc⟩; replace H := hide (H.out.call hbc); clear hbc)
        | ((with_reducible refine wpl_storea aggP rfl (.tmp 8) (.tmp 38) rfl g8 (pktC q) rfl rfl _ _ (H.out.get 2 rfl) HQc.out (by rw [List.size_toArray]; exact HPc.out) (pktC_one _) ?_); intro We hB1 hF1; replace H := hide (H.out.store 2 rfl hF1 hB1 (Or.inl rfl)); clear hB1 hF1))
      refine region_round (fun ⟨_, _, h⟩ => h) (by rfl) ?_
      go_wp2_with (first
        | (with_reducible refine at_op (op := ⟨some 40, _, _, _, _, _⟩) ?_; refine wpl_held (op := ⟨some 40, _, _, _, _, _⟩) (.int .u16 (h.addr : Int)) (held_load1 Tryz.underlying48 rfl one16a _ rfl g11 0 rfl _ _ (.int .u16 (h.addr : Int)) (H.out.get 4 rfl) rfl) rfl ?_)
        | (with_reducible refine at_op (op := ⟨some 42, _, _, _, _, _⟩) ?_; refine wpl_held (op := ⟨some 42, _, _, _, _, _⟩) (.int .u16 (h.who : Int)) (held_load1 Tryz.underlying27 rfl one16w _ rfl g11 1 rfl _ _ (.int .u16 (h.who : Int)) (H.out.get 4 rfl) rfl) rfl ?_)
        | (with_reducible refine at_op (op := ⟨some 44, _, _, _, _, _⟩) ?_; refine wpl_held (op := ⟨some 44, _, _, _, _, _⟩) (.int .u32 (h.epoch : Int)) (held_load1 Tryz.underlying28 rfl one32 _ rfl g11 34 rfl _ _ (.int .u32 (h.epoch : Int)) (H.out.get 4 rfl) HHE.out) rfl ?_)
        | (with_reducible refine at_op (op := ⟨some 46, _, _, _, _, _⟩) ?_; refine wpl_held (op := ⟨some 46, _, _, _, _, _⟩) (.agg (cellsB h.nonce).toArray) (held_loada aggN _ rfl g11 35 rfl _ (hopC h) (cellsB h.nonce) (H.out.get 4 rfl) HHN.out (by rw [HHL.out]; decide)) rfl ?_)
        | (with_reducible refine at_op (op := ⟨some 48, _, _, _, _, _⟩) ?_; refine wpl_held (op := ⟨some 48, _, _, _, _, _⟩) (.agg (cellsB q.mac).toArray) (held_loada aggM _ rfl g8 18 rfl _ (pktC q) (cellsB q.mac) (H.out.get 2 rfl) HQM.out (by rw [HQc.out]; decide)) rfl ?_)
        | (with_reducible refine at_op (op := ⟨some 49, _, _, _, _, _⟩) ?_; refine wpl_held (op := ⟨some 49, _, _, _, _, _⟩) (.agg (slotC nx).toArray) (held_build _ _ rfl _ _ (hbh2 _) rfl) rfl ?_)
        | ((with_reducible refine wpl_storea aggS rfl (.tmp 9) (.tmp 49) rfl g9 (slotC nx) rfl rfl _ _ (H.out.get 3 rfl) HNc.out (by rw [List.size_toArray]; exact HSc3.out) (slotC_one _) ?_); intro Wf hB1 hF1; replace H := hide (H.out.store 3 rfl hF1 hB1 (Or.inr rfl)); clear hB1 hF1))
      have hfr := H.out.fr
      refine ⟨⟨hfr.size, fun k o hk ho _ => ?_⟩, hfr.mono (fun k _ hk => hk.elim .inl (fun x => .inr (.inl x))), ?_, Nat.le_trans HW12.out hfr.size⟩
      · have hlt := (Array.getElem?_eq_some_iff.1 ho).1
        have := HK8.out
        rw [hfr.block k hlt (by omega)]
        exact ho
      · rw [HSN2.out, HNX.out]
        exact H.out.at'.pre 4

    case done =>
      intro D ys W hD hys hI hK
      subst hys
      rw [HBA.out] at hI
      have H := hide hI
      have HKD := hide hK
      clear hI hK
      have HFc : Hid ((pktC (bldR i0 hs).1).length = 610) := pktC_length (by rw [← HBA.out]; exact (HST.out _).1)
      replace H := hide H.out.1
      go_wp2_with (first
        | (with_reducible refine at_op (op := ⟨some 50, _, _, _, _, _⟩) ?_; refine wpl_held (op := ⟨some 50, _, _, _, _, _⟩) (.agg (pktC (bldR i0 hs).1).toArray) (held_loadf aggP _ rfl g8 rfl _ (pktC (bldR i0 hs).1) (H.out.get 2 rfl) HFc.out) rfl ?_)
        | ((with_reducible refine wpl_storea aggP rfl (.tmp 6) (.tmp 50) rfl g6 (pktC (bldR i0 hs).1) rfl rfl _ _ (H.out.get 1 rfl) HFc.out (pkt0_len) (pktC_one _) ?_); intro W2 hB1 hF1; have HF2 := hide hF1; replace H := hide (H.out.store 1 rfl hF1 hB1); clear hB1 hF1))
      have hlt := HL.out
      have hk2 : W2.heap[D]? = some (.deferred (some [])) := (HF2.out.block D (Array.getElem?_eq_some_iff.1 HKD.out).1 (by omega)).trans HKD.out
      refine ⟨by simp, .inl ⟨_, _, rfl, run_takeDeferred hk2, ?_⟩⟩
      have hee := HE.out
      have H3 := H.out.own (B := w.heap.size) (Nat.le_refl _) (grownBy_putObj' W2 D (.deferred none)) (fun r e => by cases e; exact ⟨by omega, _, hk2, rfl⟩)
      exact ⟨_, results_ct aggP rfl _ _ g6 _ _ rfl (H3.get 1 rfl) HFc.out, rfl, H3.bel⟩

    case stop =>
      intro D c pre W _ _ h _
      exact h.elim


set_option maxHeartbeats 4000000 in
set_option maxRecDepth 100000 in
theorem build_any (A : Option Addr) (n c box : Nat) (hs : List HopL) (body : List UInt8) (w : World) (hR : HRow w A n hs) (hn : n ≤ 1000) (hx : box < 65536) (hb : body.length = 256) (hT : Tb w) :
    Calls Tryz.prog 5 #[.slice A n c, .int .u16 (box : Int), .agg (cellsB body).toArray] w fun e w' => e = .returned (.tuple #[.agg (pktC (buildP hs box body)).toArray, .int .i64 (buildE hs)]) ∧ Below w.heap.size w w' := by
  cases hr : rightH hs
  · have H := hide (OAt.start hT)
    have HR := hide hR
    have HRT : Hid (∀ W, HRow W A n hs → Calls Tryz.prog 15 #[.slice A n c] W fun e w' => e = .returned (.bool false) ∧ Below W.heap.size W w') := fun W y => by
      have := right_h A n c hs W y hn
      rwa [hr] at this
    have h1 : buildP hs box body = pkt0 := by unfold buildP; rw [hr]; rfl
    have h2 : buildE hs = 1 := by unfold buildE; rw [hr]; rfl
    have hbd := build_pkt0
    rw [h1, h2]
    clear h1 h2 hr hR hT
    go_enter Tryz.func5, Tryz.ntmps5
    go_wp2_with (first
      | (with_reducible refine at_op (op := ⟨some 5, _, _, _, _, _⟩) ?_; (refine wpl_boxa (op := ⟨some 5, _, _, _, _, _⟩) rfl _ _ rfl (cellsB body) rfl ?_); intro g5 W5 hB1 hg1 hF1; replace H := hide (H.out.box hg1 hF1 hB1); clear hB1 hg1 hF1)
      | (with_reducible refine at_op (op := ⟨some 6, _, _, _, _, _⟩) ?_; (with_reducible refine wpl_alloca (op := ⟨some 6, _, _, _, _, _⟩) rfl _ rfl _ zeroP ?_); intro g6 W6 hB1 hg1 hF1; replace H := hide (H.out.box hg1 hF1 hB1); clear hB1 hg1 hF1)
      | (go_at_call 15; refine (HRT.out W6 (HR.out.below H.out.bel)).mono ?_; rintro e W7 ⟨rfl, hbc⟩; replace H := hide (H.out.call hbc); clear hbc)
      | (with_reducible refine at_op (op := ⟨some 15, _, _, _, _, _⟩) ?_; refine wpl_held (op := ⟨some 15, _, _, _, _, _⟩) (.agg (pktC pkt0).toArray) (held_build _ _ rfl _ _ (hbd _) rfl) rfl ?_)
      | ((with_reducible refine wpl_storea aggP rfl (.tmp 6) (.tmp 15) rfl g6 (pktC pkt0) rfl rfl _ _ (H.out.get 1 rfl) pkt0_c (pkt0_len) (pktC_one _) ?_); intro W8 hB1 hF1; replace H := hide (H.out.store 1 rfl hF1 hB1); clear hB1 hF1))

    exact bodyPost_ret (results_ct aggP rfl _ _ g6 _ _ rfl (H.out.get 1 rfl) pkt0_c) rfl ⟨rfl, H.out.bel⟩
  · exact callsIn_wide.1 (build_in A n c box hs body w hR hn hx hb hT hr)
end Go.Proofs.YtoiiiflnnhkjbaaGreatDoor
