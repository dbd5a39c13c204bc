/-
  leftHead.
-/
import Derived.Test.YtoiiiflnnhkjbaaGreatDoorHp
import Derived.Test.YtoiiiflnnhkjbaaGreatDoorOnD
import Derived.Test.YtoiiiflnnhkjbaaGreatDoorOnH
namespace Go.Proofs.YtoiiiflnnhkjbaaGreatDoor
set_option linter.unusedVariables false
set_option linter.unusedSimpArgs false
open Go.RowKit

theorem OAt.pre {w W : World} {l : List (Nat × TypeId × List Value)} (h : OAt w l W) (n : Nat) : OAt w (l.take n) W := by
  refine ⟨⟨fun x hx => h.at0.has x (List.mem_of_mem_take hx), fun x hx => h.at0.low x (List.mem_of_mem_take hx), ?_, h.at0.bel⟩, h.tb, h.four⟩
  rw [List.map_take]
  exact h.at0.nd.sublist (List.take_sublist _ _)
theorem step_copyM {ops : Array Oper} {op : Oper} {a : Act} {w : World} {K : Act → World → Prop} {Q : Exit → Act → World → Prop} {E : Prop} (hgd : op.guard = none) (d s : Operand)
    (ho : op.op = .call { callee := .builtin .copy, args := #[d, s], argTypes := #[46, 46] })
    (g off dLen dCap gs sLen sCap : Nat) (hd : a.eval d = .slice (some ⟨g, off, none⟩) dLen dCap) (hs : a.eval s = .slice (some ⟨gs, 0, none⟩) sLen sCap)
    (cur : List Value) (t : TypeId) (hg : Blk w g t cur.toArray) (x : List UInt8) (hr : Rds w (some ⟨gs, 0, none⟩) sLen (cellsB x)) (hn : sLen = dLen) (hp : 0 < sLen) (hfit : off + dLen ≤ cur.length) (cur' : List Value) (hc : splice cur off (cellsB x) = cur')
    (h : ∀ w', Blk w' g t cur'.toArray → Frm (fun k => k = g) w w' → K (a.put op.dst (.int .i64 (sLen : Int))) w') : if Region.wanted op (yielded ops a.tmps) = true then Oper.wp Tryz.prog op a w K Q else E := by
  subst hc hn
  have hw : Region.wanted op (yielded ops a.tmps) = true := by simp [Region.wanted, hgd]
  rw [if_pos hw]
  have hcl : (cellsB x).length = sLen := hr.1
  obtain ⟨a', ha', hcell⟩ := hr.2 hp
  injection ha' with ha'
  subst ha'
  have hrun := run_copy_row (P := Tryz.prog) w 46 46 op.type 5 g off sLen dCap ⟨gs, 0, none⟩ sLen sCap cur.toArray t (cellsB x) under24 size8 hg (by rw [hcl]; exact (Nat.min_self _).symm) hcell (by simp only [List.size_toArray]; omega) (cellsB_one _)
  have h3 := h _ (by have := Blk.setRow hg (cur.take off ++ (cellsB x ++ cur.drop (off + (cellsB x).length))).toArray; simpa [splice] using this) (Frm.setRow _ _ _)
  unfold Oper.wp execOp
  simp only [ho, resolve, invoke, builtin, Sem.run_bind, Sem.run_pure, Result.andThen_ok, List.map_toArray, List.map_cons, List.map_nil, hd, hs, hrun]
  simpa [Oper.upon, hcl, goInt] using h3

set_option maxHeartbeats 16000000 in
set_option maxRecDepth 100000 in
theorem left_any (A : Option Addr) (n c : Nat) (hs : List HopL) (hn : n ≤ 5) (w : World) (hR : HRow w A n hs) (hT : Tb w) :
    Calls Tryz.prog 16 #[.slice A n c] w fun e w' => e = .returned (.agg (cellsB (leftH hs n)).toArray) ∧ Below w.heap.size w w' := by
  have HR := hide hR
  have H := hide (OAt.start hT)
  have h384 := sl384
  have HLL := hide (leftH_length hs)
  have HZ : Hid (leftH hs 0 = zeros 320) := rfl
  clear hR hT
  go_enter Tryz.func16, Tryz.ntmps16
  go_wp2_with (first
    | (with_reducible refine at_op (op := ⟨some 2, _, _, _, _, _⟩) ?_; (with_reducible refine wpl_alloca (op := ⟨some 2, _, _, _, _, _⟩) rfl _ rfl _ zero320 ?_); intro g2 W2 hB1 hg1 hF1; replace H := hide (H.out.box hg1 hF1 hB1); clear hB1 hg1 hF1)
    | (with_reducible refine at_op (op := ⟨some 3, _, _, _, _, _⟩) ?_; (with_reducible refine wpl_alloca (op := ⟨some 3, _, _, _, _, _⟩) rfl _ rfl _ zero320 ?_); intro g3 W3 hB1 hg1 hF1; replace H := hide (H.out.box hg1 hF1 hB1); clear hB1 hg1 hF1))

  have H0 : Hid (OAt w [(g2, 32, cellsB (zeros 320)), (g3, 32, cellsB (leftH hs 0))] W3) := by show OAt _ _ _; rw [HZ.out]; exact H.out
  clear H
  go_loopw [10] (fun i wr => ∃ k : Nat, k ≤ n ∧ i = .int .i64 k ∧ OAt w [(g2, 32, cellsB (zeros 320)), (g3, 32, cellsB (leftH hs k))] wr) (fun i _ => n - (intOf i).toNat)
  case atStart => exact ⟨0, by omega, rfl, H0.out⟩
  case round =>
    clear H0
    obtain ⟨k, hk, rfl, hat⟩ := hrel
    have H := hide hat
    clear hat
    by_cases hlt : k < n
    · obtain ⟨p, rfl, _⟩ := HR.out.at' (by omega)
      have HC := hide ((HR.out.below H.out.bel).cell hlt)
      have HO := hide (HR.out.hop hlt)
      have HSE : Hid (leftH hs (k + 1) = stepLeft k (hs.getD k hop0) (leftH hs k)) := rfl
      have HLE := hide (HLL.out k)
      have HLE2 := hide (HLL.out (k + 1))
      generalize hL2 : leftH hs (k + 1) = L2 at *
      have HL2E := hide hL2
      clear hL2
      generalize leftH hs k = L at *
      generalize hs.getD k hop0 = h at *
      have HHL := hide (hopC_length HO.out)
      have HHK := hide (hopC_key HO.out)
      have HHN := hide (hopC_nonce HO.out)
      have HHE := hide (hopC_epoch HO.out)
      have HHS := hide (fun (W : World) (x : Tb W) => head_any h.key h.epoch h.nonce HO.out.key HO.out.nonce HO.out.epoch W x)
      have HHSL := hide (headS_length h.key h.epoch h.nonce)
      have HWD := hide (fun (W : World) (x : Tb W) => wide_any L HLE.out W x)
      have hwl : (L ++ zeros 64).length = 384 := by rw [List.length_append, HLE.out, zeros_length]
      obtain ⟨f, hf⟩ : ∃ f : Nat, f = 384 - 64 * (k + 1) := ⟨_, rfl⟩
      obtain ⟨m, hm⟩ : ∃ m : Nat, m = 384 - f := ⟨_, rfl⟩
      have hfi : (384 : Int) - ((k : Int) + 1) * 64 = (f : Int) := by omega
      have hf1 : f < 384 := by omega
      have hfm : f + m = 384 := by omega
      have hm0 : 0 < m := by omega
      have HSL : Hid (L2 = ((L ++ zeros 64).take f ++ xorB ((L ++ zeros 64).drop f) ((headS h.key h.epoch h.nonce).drop f)).drop 64) := by rw [hf]; exact HSE.out
      generalize headS h.key h.epoch h.nonce = hd at *
      generalize L ++ zeros 64 = WD at *
      have hxl : (xorB (WD.drop f) (hd.drop f)).length = m := by rw [xorB_length, List.length_drop, List.length_drop, hwl, HHSL.out, hm, Nat.min_self]
      have HXE : Hid (∃ y, y = xorB (WD.drop f) (hd.drop f)) := ⟨_, rfl⟩
      generalize hXX : xorB (WD.drop f) (hd.drop f) = XX at *
      have HXQ := hide hXX
      clear hXX HXE
      obtain ⟨Z, hZ⟩ : ∃ Z, Z = WD.take f ++ XX := ⟨_, rfl⟩
      have hzl : Z.length = 384 := by rw [hZ, List.length_append, List.length_take, hwl, hxl, Nat.min_eq_left (by omega)]; exact hfm
      have HSP : Hid (splice (cellsB WD) f (cellsB XX) = cellsB Z) := by
        show _ = _
        rw [splice, cellsB_length, hxl, hfm, cellsB_take, cellsB_drop, List.drop_eq_nil_of_le (by rw [hwl]; exact Nat.le_refl _), hZ, cellsB_append]
        simp [cellsB]
      have HL2 : Hid (L2 = Z.drop 64) := by show _ = _; rw [HSL.out, hZ]
      have HT2 : Hid (((cellsB Z).drop 64).take 320 = cellsB L2) := by
        show _ = _
        rw [cellsB_drop, HL2.out, List.take_of_length_le]
        rw [cellsB_length, List.length_drop, hzl]; exact Nat.le_refl _
      clear hZ HSL HSE HL2
      have HWc := hide (cl hwl)
      have HZc := hide (cl hzl)
      have HLc := hide (cl HLE.out)
      have HL2c := hide (cl HLE2.out)
      have hsf := fun (g : Nat) (w : World) => run_slice_arr (P := Tryz.prog) under384 size8 g 0 .i64 f hf1 w
      simp only [Nat.zero_add, ← hm] at hsf
      have hs64 : ∀ g w, Sem.run Tryz.prog (Instr.sliceAt 78 (.pointer (some ⟨g, 0, none⟩)) (some (.int .i64 64)) none none) w = .ok (.slice (some ⟨g, 64, none⟩) 320 320) w := fun g w => by
        have := run_slice_arr (P := Tryz.prog) under384 size8 g 0 .i64 64 (by decide) w
        rw [Nat.zero_add] at this
        exact this
      have hcf : ∀ g w, Sem.run Tryz.prog (Instr.sliceAt 46 (.slice (some ⟨g, 0, none⟩) 384 384) (some (.int .i64 (f : Int))) none none) w = .ok (.slice (some ⟨g, f, none⟩) m m) w := fun g w => by
        have := run_cut1 (some ⟨g, 0, none⟩) 384 384 f (by omega) w
        rw [if_neg (by omega), ← hm] at this
        rw [this]
        simp [addr_add]
      have har320 := fun (g c : Nat) (w : World) => run_arr under320 (some ⟨g, 64, none⟩) 320 c (Nat.le_refl _) w
      have HFM := hide hfm
      have HXL := hide hxl
      have HWl := hide hwl
      have HXX := hide (fun (W : World) (A B : Option Addr) (a b : Nat) (hA : Rds W A m (cellsB (WD.drop f))) (hB : Rds W B m (cellsB (hd.drop f))) => xor_n A B m m a b (WD.drop f) (hd.drop f) m W hA hB (by omega) (by omega))
      clear hwl hzl hxl hfm hm hf
      go_wp2_with (first
        | (with_reducible refine at_op (op := ⟨some 14, _, _, _, _, _⟩) ?_; refine wpl_held (op := ⟨some 14, _, _, _, _, _⟩) (.agg (hopC h).toArray) (held_loadH _ rfl (p.add (k * 54)) rfl _ HO.out HC.out) rfl ?_)
        | ((with_reducible refine wpl_alloca (op := ⟨some 5, _, _, _, _, _⟩) rfl _ rfl _ zeroH ?_); intro g5 V5 hB1 hg1 hF1)
        | ((with_reducible refine wpl_storea aggH rfl (.tmp 5) (.tmp 14) rfl g5 (hopC h) rfl rfl _ _ hB1 HHL.out hop0_len (hopC_one _) ?_); intro W5 hB2 hF2; replace H := hide (H.out.var hg1 hF1 hF2 hB2); clear hB1 hg1 hF1 hB2 hF2)
        | (with_reducible refine at_op (op := ⟨some 15, _, _, _, _, _⟩) ?_; refine wpl_held (op := ⟨some 15, _, _, _, _, _⟩) (.agg (cellsB L).toArray) (held_loadf agg320 _ rfl g3 rfl _ (cellsB L) (H.out.get 1 rfl) HLc.out) rfl ?_)
        | (go_at_call 27; with_reducible refine (HWD.out _ H.out.tb).mono ?_; rintro e W16 ⟨rfl, hbc⟩; replace H := hide (H.out.call hbc); clear hbc)
        | ((with_reducible refine wpl_alloca (op := ⟨some 6, _, _, _, _, _⟩) rfl _ rfl _ zero384 ?_); intro g6 V6 hB1 hg1 hF1)
        | ((with_reducible refine wpl_storea agg384 rfl (.tmp 6) (.tmp 16) rfl g6 (cellsB WD) rfl rfl _ _ hB1 HWc.out zl_384 (cellsB_one _) ?_); intro W6 hB2 hF2; replace H := hide (H.out.var hg1 hF1 hF2 hB2); clear hB1 hg1 hF1 hB2 hF2))
      refine wp_region_held_drew (S := fun W' => Blk W' g5 63 (hopC h).toArray) (by kernel_rfl) (H.out.drew.get 2 rfl) ?_
      intro hHeld
      obtain ⟨W17, hW17⟩ : ∃ W17, W17 = W6.drew := ⟨_, rfl⟩
      replace H := hide (by rw [hW17]; exact H.out.drew : OAt w _ W17)
      rw [← hW17] at hHeld ⊢
      clear hW17
      refine tkH 0 (v := ?v1) rfl ?hy1 ?rest1
      case hy1 => (intro w hSw; (try go_simp); try with_reducible rfl)
      try simp only [Act.put, PTs]
      refine tkH 1 (v := ?v2) rfl ?hy2 ?rest2
      case hy2 => (intro w hSw; (try go_simp); try with_reducible rfl)
      try simp only [Act.put, PTs]
      refine tkH 2 (v := ?v3) rfl ?hy3 ?rest3
      case hy3 => (intro w hSw; (try go_simp); try with_reducible rfl)
      try simp only [Act.put, PTs]
      refine tkH 3 (v := ?v4) rfl ?hy4 ?rest4
      case hy4 => (intro w hSw; (try go_simp); try with_reducible rfl)
      try simp only [Act.put, PTs]
      refine tkH 4 (v := ?v5) rfl ?hy5 ?rest5
      case hy5 => (intro w hSw; (try go_simp); try with_reducible rfl)
      try simp only [Act.put, PTs]
      refine tkH 5 (v := ?v6) rfl ?hy6 ?rest6
      case hy6 => (intro w hSw; refine held_loada aggK (.tmp 25) ?_ g5 2 ?_ _ (hopC h) (cellsB h.key) hSw HHK.out (by rw [HHL.out]; decide) <;> rfl)
      try simp only [Act.put, PTs]
      refine tkH 6 (v := ?v7) rfl ?hy7 ?rest7
      case hy7 => (intro w hSw; (try go_simp); try with_reducible rfl)
      try simp only [Act.put, PTs]
      refine tkH 7 (v := ?v8) rfl ?hy8 ?rest8
      case hy8 => (intro w hSw; refine held_load1 Tryz.underlying28 rfl one32 (.tmp 27) ?_ g5 34 ?_ _ _ (.int .u32 (h.epoch : Int)) hSw HHE.out <;> rfl)
      try simp only [Act.put, PTs]
      refine tkH 8 (v := ?v9) rfl ?hy9 ?rest9
      case hy9 => (intro w hSw; (try go_simp); try with_reducible rfl)
      try simp only [Act.put, PTs]
      refine tkH 9 (v := ?v10) rfl ?hy10 ?rest10
      case hy10 => (intro w hSw; refine held_loada aggN (.tmp 29) ?_ g5 35 ?_ _ (hopC h) (cellsB h.nonce) hSw HHN.out (by rw [HHL.out]; decide) <;> rfl)
      try simp only [Act.put, PTs]
      refine tkH 11 (v := ?v11) rfl ?hy11 ?rest11
      case hy11 => (intro w hSw; (try go_simp); try with_reducible rfl)
      try simp only [Act.put, PTs]
      refine rdH 10 rfl (by kernel_rfl) (fun K hK => ?_)
      go_simp
      refine (HHS.out _ H.out.tb).mono ?_
      rintro e W18 ⟨gs, rfl, hb, hg, hbc⟩
      replace H := hide (H.out.box hg (Frm.of_below hbc) hb)
      clear hb hg hbc
      refine hK.out _ _ (H.out.get 2 rfl) (fun hHeld => ?_)
      clear hK K
      refine tkH 12 (v := ?v12) rfl ?hy12 ?rest12
      case hy12 => (intro w hSw; (try go_simp); try with_reducible rfl)
      try simp only [Act.put, PTs]
      refine rdH 13 rfl (by kernel_rfl) (fun K hK => ?_)
      go_simp
      refine (HXX.out _ (some ⟨g6, f, none⟩) (some ⟨gs, f, none⟩) m m ((H.out.get 3 rfl).mid f m (WD.drop f) (by rw [cellsB_drop, List.take_of_length_le (by rw [cellsB_length, List.length_drop, HWl.out]; have := HFM.out; omega)]) (by rw [List.length_drop, HWl.out]; have := HFM.out; omega)) ((H.out.get 4 rfl).mid f m (hd.drop f) (by rw [cellsB_drop, List.take_of_length_le (by rw [cellsB_length, List.length_drop, HHSL.out]; have := HFM.out; omega)]) (by rw [List.length_drop, HHSL.out]; have := HFM.out; omega)) (by rw [HXQ.out]; exact HXL.out)).mono ?_
      rw [HXQ.out]
      rintro e W19 ⟨gx, rfl, hb, hg, hbc⟩
      replace H := hide (H.out.box hg (Frm.of_below hbc) hb)
      clear hb hg hbc
      refine hK.out _ _ (H.out.get 2 rfl) (fun hHeld => ?_)
      clear hK K
      refine rdH 14 rfl (by kernel_rfl) (fun K hK => ?_)
      refine step_copyM rfl (.tmp 22) (.tmp 34) rfl g6 f m m gx m m rfl rfl (cellsB WD) _ (H.out.get 3 rfl) XX ((H.out.get 5 rfl).rdsn HXL.out) rfl hm0 (by rw [HWc.out]; exact Nat.le_of_eq HFM.out) (cellsB Z) HSP.out ?_
      intro W20 hB20 hF20
      replace H := hide (H.out.store 3 rfl hF20 hB20)
      clear hB20 hF20
      refine hK.out _ _ (H.out.get 2 rfl) (fun hHeld => ?_)
      clear hK K
      refine wpAnyH_done (by kernel_rfl) ?_ _
      clear hHeld
      go_wp2_with (first
        | (with_reducible refine at_op (op := ⟨some 38, _, _, _, _, _⟩) ?_; refine wpl_held (op := ⟨some 38, _, _, _, _, _⟩) (.agg (cellsB L2).toArray) (held_loada agg320 _ rfl g6 64 rfl _ (cellsB Z) (cellsB L2) (H.out.get 3 rfl) HT2.out (by rw [HZc.out]; decide)) rfl ?_)
        | ((with_reducible refine wpl_storea agg320 rfl (.tmp 3) (.tmp 38) rfl g3 (cellsB L2) rfl rfl _ _ (H.out.get 1 rfl) HL2c.out (cls HLE.out) (cellsB_one _) ?_); intro W22 hB1 hF1; replace H := hide (H.out.store 1 rfl hF1 hB1); clear hB1 hF1))
      replace H := hide (H.out.pre 2)
      go_roundw
      case rel => exact ⟨k + 1, by omega, by go_num, by rw [HL2E.out]; exact H.out⟩
      case measure => simp [intOf]; omega

    · obtain rfl : k = n := by omega
      have HLc := hide (cl (HLL.out k))
      go_wp2_with (first
        | (with_reducible refine at_op (op := ⟨some 40, _, _, _, _, _⟩) ?_; refine wpl_held (op := ⟨some 40, _, _, _, _, _⟩) (.agg (cellsB (leftH hs k)).toArray) (held_loadf agg320 _ rfl g3 rfl _ (cellsB (leftH hs k)) (H.out.get 1 rfl) HLc.out) rfl ?_)
        | ((with_reducible refine wpl_storea agg320 rfl (.tmp 2) (.tmp 40) rfl g2 (cellsB (leftH hs k)) rfl rfl _ _ (H.out.get 0 rfl) HLc.out (zl_320) (cellsB_one _) ?_); intro W40 hB1 hF1; replace H := hide (H.out.store 0 rfl hF1 hB1); clear hB1 hF1))
      exact ret_agg agg320 rfl rfl g2 _ _ rfl (H.out.get 0 rfl) HLc.out ⟨rfl, H.out.bel⟩

end Go.Proofs.YtoiiiflnnhkjbaaGreatDoor
