/-
  Tags in memory: Expire.
-/
import Derived.Test.YtdilfiojfjgejaaRp3
namespace Go.Proofs.Ytdilfiojfjgejaa
set_option linter.unusedVariables false
set_option linter.unusedSimpArgs false
open Go.RowKit

theorem wpl_box1 {P : Program} {ops : Array Oper} {rest : List Oper} {op : Oper} {a : Act} {w : World} {Q : Exit → Act → World → Prop} (hgd : op.guard = none) (t : TypeId) (x : Operand) (ho : op.op = .box t x)
    (v : Value) (hx : a.eval x = v) (hv : v.cells = #[v])
    (h : ∀ g w', Blk w' g t #[v] → w.heap.size ≤ g → Frm (fun _ => False) w w' → wpList P ops Q rest (a.put op.dst (.pointer (some ⟨g, 0, none⟩))) w') : wpList P ops Q (op :: rest) a w := by
  refine wpList_plain hgd fun K hK => ?_
  unfold Oper.wp execOp
  simp [ho, hx, Instr.box, newVar, newRow, hv, Oper.upon, Result.andThen]
  exact hK _ _ (h _ _ (Blk.new _ _ _) (Nat.le_refl _) (Frm.alloc _ _ _))
theorem CntOk.cut {C : List Cn} {t : T} {b : Nat} (h : CntOk C t.l) (hb : t.floor ≤ b) : CntOk (C.filter fun c => !decide (c.e < b)) (t.keep b) := by
  refine ⟨(List.filter_sublist.map _).nodup h.apart, fun c hc => ?_, fun s hs => ?_⟩
  · have h1 := List.mem_filter.1 hc
    have h2 : b ≤ c.e := by simpa using h1.2
    rw [cnt_keep, if_pos (by omega)]
    exact h.says c h1.1
  · have h1 := List.mem_filter.1 hs
    obtain ⟨c, hc, he⟩ := h.all s h1.1
    refine ⟨c, List.mem_filter.2 ⟨hc, ?_⟩, he⟩
    have h2 : max t.floor b ≤ s.e := by simpa using h1.2
    rw [he]
    simp
    omega
set_option maxHeartbeats 8000000 in
set_option maxRecDepth 100000 in
theorem exp_any (B g bs bc : Nat) (t : T) (b : Nat) (hb : b < 4294967296) (hn : t.l.length ≤ 1000000) (w : World) (h : TAt w B g t bs bc) :
    Calls Try.prog 13 #[.pointer (some ⟨g, 0, none⟩), .int .u32 (b : Int)] w fun r w' => r = .returned (.int .i64 (t.gone b : Int)) ∧ TAt w' B g (t.exp b) bs bc ∧ Frm (Of g bs bc) w w' := by
  have HT := hide h
  have HC3 : Hid (∀ W, Frm (fun _ => False) w W → W.cell? ⟨g, 3, none⟩ = some (.int .u32 (t.floor : Int))) := fun W f => (h.frm0 f).blk.cell 3
  obtain ⟨flo, hflo⟩ : ∃ n, n = t.floor := ⟨_, rfl⟩
  rw [← hflo] at HC3
  by_cases h1 : b ≤ flo
  · obtain ⟨e1, e2⟩ := h.ok.exp_low (b := b) (by rw [← hflo]; exact h1)
    rw [e1, e2]
    have h1' : (b : Int) ≤ (flo : Int) := by omega
    clear e1 e2 h hflo
    go_enter Try.func13, Try.ntmps13
    go_wp2_with ((refine wpl_box1 (op := ⟨some 3, _, _, _, _, _⟩) rfl _ (.tmp 1) rfl (.int .u32 (b : Int)) rfl rfl ?_); intro gx wx hX hgx fx; have hc3 := HC3.out wx fx; have hcx : wx.cell? ⟨gx, 0, none⟩ = some (.int .u32 (b : Int)) := hX.cell 0; have HF := hide fx; clear hX hgx fx)
    go_quiet (fail)
    go_wp2_with fail
    go_ret
    exact ⟨rfl, HT.out.frm0 (HF.out.drewN _), (frm_any HF.out).drewN _⟩
  · have h1' : ¬ (b : Int) ≤ (flo : Int) := by omega
    have hle : t.floor ≤ b := by omega
    have hok := h.ok.exp hb
    have hkl := keep_length t b
    have hkp := T.keep_high hle
    obtain ⟨m, hm⟩ : ∃ m, m = (t.keep b).length := ⟨_, rfl⟩
    obtain ⟨n, hnn⟩ : ∃ n, n = t.l.length := ⟨_, rfl⟩
    have hg : (t.gone b : Int) = (n : Int) - (m : Int) := by unfold T.gone; omega
    rw [← hm, ← hnn] at hkl
    rw [← hnn] at hn
    have HKP := hide hkp
    have HLE := hide hle
    have HOK := hide hok
    have HMM := hide hm
    have HNN := hide hnn
    have HFE : Hid (t.exp b = ⟨t.most, b, t.keep b⟩) := by show _ = _; unfold T.exp; rw [Nat.max_eq_right hle]
    rw [hg]
    clear h hflo hle hok hkp hm hnn hg
    go_enter Try.func13, Try.ntmps13
    go_wp2_with ((refine wpl_box1 (op := ⟨some 3, _, _, _, _, _⟩) rfl _ (.tmp 1) rfl (.int .u32 (b : Int)) rfl rfl ?_); intro gx wx hX hgx fx; have hc3 := HC3.out wx fx; have hcx : wx.cell? ⟨gx, 0, none⟩ = some (.int .u32 (b : Int)) := hX.cell 0; have HX := hide hX; have HGX := hide hgx; have HF := hide fx; clear hX hgx fx)
    go_quiet (fail)
    rename_i nq
    have hfr : Frm (fun _ => False) w (wx.drewN nq) := HF.out.drewN _
    have hXr : Blk (wx.drewN nq) gx 28 #[.int .u32 (b : Int)] := HX.out
    generalize wx.drewN nq = wr at hfr hXr ⊢
    have HFR := hide hfr
    have HXR := hide hXr
    clear hc3 hcx HX HF hfr hXr
    have hT := HT.out.frm0 HFR.out
    have hgxg : gx ≠ g := by have := HT.out.lt; have := HGX.out; omega
    have hgxs : gx ≠ bs := by have := HT.out.lt; have := HGX.out; omega
    have hgxc : gx ≠ bc := by have := HT.out.lt; have := HGX.out; omega
    have z3 : wr.frozen? ⟨g, 3, none⟩ = false := hT.blk.frozen 3
    have d3 : wr.cell? ⟨g, 3, none⟩ = some (.int .u32 (t.floor : Int)) := hT.blk.cell 3
    have dx : wr.cell? ⟨gx, 0, none⟩ = some (.int .u32 (b : Int)) := HXR.out.cell 0
    have f1 : Frm (fun k => k = g) wr (wr.setCell ⟨g, 3, none⟩ (.int .u32 (b : Int))) := Frm.setCell _ _ _ _ rfl
    have hb1 : Blk (wr.setCell ⟨g, 3, none⟩ (.int .u32 (b : Int))) g 48 #[.map (some bs), .map (some bc), .int .i64 (t.most : Int), .int .u32 (b : Int)] := hT.blk.set 3 _
    have hs1 := hT.seen.frm f1 hT.neg.1
    obtain ⟨C, hC, hCk⟩ := hT.count
    have hc1 := hC.frm f1 hT.neg.2
    have x1 : (wr.setCell ⟨g, 3, none⟩ (.int .u32 (b : Int))).cell? ⟨gx, 0, none⟩ = some (.int .u32 (b : Int)) := cell_frm f1 dx hgxg
    have y1 : (wr.setCell ⟨g, 3, none⟩ (.int .u32 (b : Int))).cell? ⟨g, 0, none⟩ = some (.map (some bs)) := hb1.cell 0
    have HF1 := hide f1
    have HB1 := hide hb1
    have HS1 := hide hs1
    have HCM1 := hide hc1
    have HX1 := hide x1
    have HCK := hide (hCk.cut HLE.out)
    have HGG := hide hgxg
    have HGS := hide hgxs
    have HGC := hide hgxc
    clear hT f1 hb1 hs1 hc1 hC hCk x1 hgxg hgxs hgxc
    go_wp2_with (first
      | ((with_reducible refine wpl_mlen (K := KS) (op := ⟨some 20, _, _, _, _, _⟩) rfl (.tmp 19) rfl rfl HS1.out ?_); rw [← HNN.out])
      | (go_at_call 20; refine (drop1_any bs gx b t.l _ HS1.out HX1.out HGS.out).mono ?_; rintro r w2 ⟨rfl, hm2, hf2⟩; have y2 : w2.cell? ⟨g, 1, none⟩ = some (.map (some bc)) := (HB1.out.frm hf2 (fun e => HT.out.neg.1 e.symm)).cell 1; have HM2 := hide hm2; have HF2 := hide hf2; have HB2 := hide (HB1.out.frm hf2 (fun e => HT.out.neg.1 e.symm)); have HCM2 := hide (HCM1.out.frm hf2 (fun e => HT.out.ne e.symm)); have HX2 := hide (cell_frm hf2 HX1.out HGS.out); clear hm2 hf2)
      | (go_at_call 22; refine (drop2_any bc gx b C w2 HCM2.out HX2.out HGC.out).mono ?_; rintro r w3 ⟨rfl, hm3, hf3⟩; have y3 : w3.cell? ⟨g, 0, none⟩ = some (.map (some bs)) := (HB2.out.frm hf3 (fun e => HT.out.neg.2 e.symm)).cell 0; have HM3 := hide hm3; have HF3 := hide hf3; have HB3 := hide (HB2.out.frm hf3 (fun e => HT.out.neg.2 e.symm)); have HS3 := hide (HM2.out.frm hf3 HT.out.ne); clear hm3 hf3)
      | ((with_reducible refine wpl_mlen (K := KS) (op := ⟨some 38, _, _, _, _, _⟩) rfl (.tmp 37) rfl rfl HS3.out ?_); rw [← HKP.out, ← HMM.out]))
    go_ret
    refine ⟨?_, ⟨HT.out.base, ?_, ?_, ⟨_, HM3.out, ?_⟩, HT.out.ne, HOK.out⟩, (frm_any HFR.out).trans (((HF1.out.mono (T := Of g bs bc) (fun _ _ h => .inl h)).trans HF2.out (fun _ _ h => .inr (.inl h))).trans HF3.out (fun _ _ h => .inr (.inr h))) (fun _ _ h => h)⟩
    · go_num
    · rw [HFE.out]
      exact HB3.out
    · rw [HFE.out]
      show MapAt KS w3 bs (t.keep b)
      rw [HKP.out]
      exact HS3.out
    · rw [HFE.out]
      exact HCK.out
end Go.Proofs.Ytdilfiojfjgejaa
