/-
  What must be in any case.
-/
import Derived.Test.YtedodbejbkdplaaSlA
namespace Go.Proofs.Ytedodbejbkdplaa
set_option linter.unusedVariables false
set_option linter.unusedSimpArgs false
open Go.RowKit

theorem oneBool : (Try.prog.info? 4).map (·.size) = some 1 := by kernel_rfl
def sh0 : Slot := ⟨true, 0, 5, 0, 0, Z16, Z16, 1, 2, 3⟩
def sh1 : Slot := ⟨true, 0, 5, 1, 0, Z16, Z16, 1, 2, 3⟩
def shp : Pkt := ⟨258, 0, Z16, Z16, zeros 320, zeros 256⟩
theorem sh0_ok : sh0.ok := ⟨by decide, by decide, by decide, by decide, by decide, by decide, by decide, rfl, rfl⟩
theorem sh1_ok : sh1.ok := ⟨by decide, by decide, by decide, by decide, by decide, by decide, by decide, rfl, rfl⟩
theorem shp_ok : shp.ok := ⟨by decide, by decide, rfl, rfl, zeros_length _, zeros_length _⟩
theorem sh_e0 : errR sh0 = 0 := by kernel_rfl
theorem sh_e1 : errR sh1 = 1 := by kernel_rfl
theorem sh_e2 : errR slot0 = 0 := by kernel_rfl
theorem sh_a0 : ansM (outM sh0) = sh0 := by kernel_rfl
theorem sh_d0 : errD (outM sh0) = 0 := by kernel_rfl
theorem sh_d2 : errD ((outM sh0).set 63 1) = 3 := by kernel_rfl
theorem sh_p0 : (packM shp).getD 0 0 = 1 := by kernel_rfl
theorem sh_p1 : (packM shp).getD 1 0 = 2 := by kernel_rfl
theorem build_sh0 (w : World) : Sem.run Try.prog (Instr.build 32 #[(0, .bool true), (2, .int .u16 5), (7, .int .u64 1), (8, .int .u64 2), (9, .int .u32 3)]) w = .ok (.agg (slotC sh0).toArray) w := build_last 5 1 2 3 w
theorem build_shp (w : World) : Sem.run Try.prog (Instr.build 50 #[(0, .int .u16 258)]) w = .ok (.agg (pktC shp).toArray) w := run_build w _ _ _ (by kernel_rfl)
theorem take_at {cs : List Value} {n : Nat} {l : List UInt8} (h : cs.take n = cellsB l) (k : Nat) (hk : k < n) (hl : k < l.length) : cs[k]? = some (.int .u8 ((l.getD k 0).toNat : Int)) := by
  have h1 := getD_byte l k hl
  rw [← h, List.getElem?_take, if_pos hk] at h1
  exact h1

set_option maxHeartbeats 16000000 in
set_option maxRecDepth 100000 in
theorem shown_any (w : World) : Calls Try.prog 12 #[] w fun e w' => e = .returned (.bool true) ∧ Below w.heap.size w w' := by
  have hE0 : ∀ w, Calls Try.prog 15 #[.agg (slotC sh0).toArray] w fun e w' => e = .returned (.tuple #[.agg (cellsB (outM sh0)).toArray, .int .i64 0]) ∧ Below w.heap.size w w' := fun w => by
    have h := encode_any sh0 sh0_ok w
    rw [sh_e0] at h
    exact h
  have hE1 : ∀ w, Calls Try.prog 15 #[.agg (slotC sh1).toArray] w fun e w' => e = .returned (.tuple #[.agg (cellsB (outM sh1)).toArray, .int .i64 1]) ∧ Below w.heap.size w w' := fun w => by
    have h := encode_any sh1 sh1_ok w
    rw [sh_e1] at h
    exact h
  have hO0 := outM_length sh0_ok
  have hO1 := outM_length sh1_ok
  have hD0 : ∀ w, Calls Try.prog 17 #[.agg (cellsB (outM sh0)).toArray] w fun e w' => e = .returned (.tuple #[.agg (slotC sh0).toArray, .int .i64 0]) ∧ Below w.heap.size w w' := fun w => by
    have h := decode_any (outM sh0) hO0 w
    rw [sh_d0, sh_a0] at h
    exact h
  obtain ⟨O2, hO2⟩ : ∃ l, l = (outM sh0).set 63 1 := ⟨_, rfl⟩
  have hl2 : O2.length = 64 := by rw [hO2, List.length_set]; exact hO0
  obtain ⟨A2, hA2⟩ : ∃ s, s = ansM O2 := ⟨_, rfl⟩
  have hA2ok : A2.ok := by rw [hA2]; exact ansM_ok hl2
  have hD2 : ∀ w, Calls Try.prog 17 #[.agg (cellsB O2).toArray] w fun e w' => e = .returned (.tuple #[.agg (slotC A2).toArray, .int .i64 3]) ∧ Below w.heap.size w w' := fun w => by
    have h := decode_any O2 hl2 w
    rw [show errD O2 = 3 by rw [hO2]; exact sh_d2, ← hA2] at h
    exact h
  have hR0 : ∀ w, Calls Try.prog 14 #[.agg (slotC slot0).toArray] w fun e w' => e = .returned (.int .i64 0) ∧ Below w.heap.size w w' := fun w => by
    have h := right_any slot0 slot0_ok w
    rw [sh_e2] at h
    exact h
  have hset : (cellsB (outM sh0)).set 63 (.int .u8 1) = cellsB O2 := by rw [hO2]; exact cellsB_set (outM sh0) 63 1
  have hP := pack_any shp shp_ok
  have hpl0 := packM_length shp_ok
  obtain ⟨PK, hPK⟩ : ∃ l, l = packM shp := ⟨_, rfl⟩
  rw [← hPK] at hP hpl0
  have hpl : (cellsB PK).length = 614 := by rw [cellsB_length]; exact hpl0
  have hp0 : ∀ cs : List Value, cs.take 614 = cellsB PK → cs[0]? = some (.int .u8 1) := fun cs h => by
    have h1 := take_at h 0 (by decide) (by rw [hpl0]; decide)
    rw [hPK, sh_p0] at h1
    exact h1
  have hp1 : ∀ cs : List Value, cs.take 614 = cellsB PK → cs[1]? = some (.int .u8 2) := fun cs h => by
    have h1 := take_at h 1 (by decide) (by rw [hpl0]; decide)
    rw [hPK, sh_p1] at h1
    exact h1
  have herU : errU (PK.take 1) = 2 := by unfold errU; rw [if_pos (by rw [List.length_take]; omega)]
  have h610 := pktC_length (upM_ok (PK.take 1))
  have h40a := slotC_length sh0 sh0_ok.nonce sh0_ok.mac
  have h40b := slotC_length sh1 sh1_ok.nonce sh1_ok.mac
  have h40c := slotC_length A2 hA2ok.nonce hA2ok.mac
  have h64a : (cellsB (outM sh0)).length = 64 := by rw [cellsB_length]; exact hO0
  have h64b : (cellsB (outM sh1)).length = 64 := by rw [cellsB_length]; exact hO1
  have h64c : (cellsB O2).length = 64 := by rw [cellsB_length]; exact hl2
  have hbd0 := build_sh0
  have hbdp := build_shp
  have hset1 : (slotC sh0).set 3 (.int .u16 1) = slotC sh1 := rfl
  have hc0 : (slotC sh0)[0]? = some (.bool true) := rfl
  have hc2 : (slotC sh0)[2]? = some (.int .u16 5) := rfl
  have hc39 : (slotC sh0)[39]? = some (.int .u32 3) := rfl
  replace hset1 := hide hset1
  replace hc0 := hide hc0
  replace hc2 := hide hc2
  replace hc39 := hide hc39
  generalize outM sh0 = O0 at *
  generalize outM sh1 = O1 at *
  have H := hide (At.start w)
  replace hE0 := hide hE0
  replace hE1 := hide hE1
  replace hD0 := hide hD0
  replace hD2 := hide hD2
  replace hR0 := hide hR0
  replace hP := hide hP
  replace hset := hide hset
  replace hpl := hide hpl
  replace hpl0 := hide hpl0
  replace hp0 := hide hp0
  replace hp1 := hide hp1
  replace herU := hide herU
  replace h610 := hide h610
  replace h40a := hide h40a
  replace h40b := hide h40b
  replace h40c := hide h40c
  replace h64a := hide h64a
  replace h64b := hide h64b
  replace h64c := hide h64c
  replace hbd0 := hide hbd0
  replace hbdp := hide hbdp
  clear hO0 hO1 hO2 hl2 hA2 hA2ok hPK
  generalize sh0 = sh0 at *
  generalize sh1 = sh1 at *
  generalize shp = shp at *
  go_enter Try.func12, Try.ntmps12
  go_wp2_with (first
    | (with_reducible refine at_op (op := ⟨some 13, _, _, _, _, _⟩) ?_; refine wpl_held (op := ⟨some 13, _, _, _, _, _⟩) (.agg (slotC sh0).toArray) (held_build _ _ rfl _ _ (hbd0.out _) rfl) rfl ?_)
    | ((with_reducible refine wpl_alloca (op := ⟨some 1, _, _, _, _, _⟩) rfl _ rfl _ zeroS ?_); intro g1 W1 hB1 hg1 hF1)
    | ((with_reducible refine wpl_storea aggS rfl (.tmp 1) (.tmp 13) rfl g1 (slotC sh0) rfl rfl _ _ hB1 h40a.out slot0_len (slotC_one _) ?_); intro W2 hB2 hF2; replace H := hide (H.out.var hg1 hF1 hF2 hB2); clear hB1 hg1 hF1 hB2 hF2)
    | (with_reducible refine at_op (op := ⟨some 15, _, _, _, _, _⟩) ?_; refine wpl_held (op := ⟨some 15, _, _, _, _, _⟩) (.agg (slotC sh0).toArray) (held_loadf aggS _ rfl g1 rfl _ (slotC sh0) (H.out.get 0 rfl) h40a.out) rfl ?_)
    | (go_at_call 15; with_reducible refine (hE0.out _).mono ?_; rintro e Wc ⟨rfl, hbc⟩; replace H := hide (H.out.call hbc); clear hbc)
    | ((with_reducible refine wpl_alloca (op := ⟨some 2, _, _, _, _, _⟩) rfl _ rfl _ zero64 ?_); intro g2 W1 hB1 hg1 hF1)
    | ((with_reducible refine wpl_storea agg64b rfl (.tmp 2) (.tmp 17) rfl g2 (cellsB O0) rfl rfl _ _ hB1 h64a.out z64_len (cellsB_one _) ?_); intro W2 hB2 hF2; replace H := hide (H.out.var hg1 hF1 hF2 hB2); clear hB1 hg1 hF1 hB2 hF2)
    | (with_reducible refine at_op (op := ⟨some 20, _, _, _, _, _⟩) ?_; refine wpl_held (op := ⟨some 20, _, _, _, _, _⟩) (.agg (cellsB O0).toArray) (held_loadf agg64b _ rfl g2 rfl _ (cellsB O0) (H.out.get 1 rfl) h64a.out) rfl ?_)
    | (go_at_call 17; with_reducible refine (hD0.out _).mono ?_; rintro e Wc ⟨rfl, hbc⟩; replace H := hide (H.out.call hbc); clear hbc)
    | ((with_reducible refine wpl_alloca (op := ⟨some 4, _, _, _, _, _⟩) rfl _ rfl _ zeroS ?_); intro g4 W1 hB1 hg1 hF1)
    | ((with_reducible refine wpl_storea aggS rfl (.tmp 4) (.tmp 22) rfl g4 (slotC sh0) rfl rfl _ _ hB1 h40a.out slot0_len (slotC_one _) ?_); intro W2 hB2 hF2; replace H := hide (H.out.var hg1 hF1 hF2 hB2); clear hB1 hg1 hF1 hB2 hF2)
    | (with_reducible refine at_op (op := ⟨none, .store _ (.tmp 24) _, _, _, _, _⟩) ?_; (refine wpl_store1 (op := ⟨none, _, _, _, _, _⟩) one16w rfl (.tmp 24) (.const (.int .u16 1)) rfl g1 3 (.int .u16 1) (slotC sh0) (slotC sh1) rfl rfl rfl _ (H.out.get 0 rfl) (by rw [h40a.out]; decide) hset1.out ?_); intro W1 hB1 hF1; replace H := hide (H.out.store 0 rfl hF1 hB1); clear hB1 hF1)
    | (with_reducible refine at_op (op := ⟨some 26, _, _, _, _, _⟩) ?_; refine wpl_held (op := ⟨some 26, _, _, _, _, _⟩) (.agg (slotC sh1).toArray) (held_loadf aggS _ rfl g1 rfl _ (slotC sh1) (H.out.get 0 rfl) h40b.out) rfl ?_)
    | (go_at_call 15; with_reducible refine (hE1.out _).mono ?_; rintro e Wc ⟨rfl, hbc⟩; replace H := hide (H.out.call hbc); clear hbc)
    | ((with_reducible refine wpl_alloca (op := ⟨some 6, _, _, _, _, _⟩) rfl _ rfl _ zero64 ?_); intro g6 W1 hB1 hg1 hF1)
    | ((with_reducible refine wpl_storea agg64b rfl (.tmp 6) (.tmp 28) rfl g6 (cellsB O1) rfl rfl _ _ hB1 h64b.out z64_len (cellsB_one _) ?_); intro W2 hB2 hF2; replace H := hide (H.out.var hg1 hF1 hF2 hB2); clear hB1 hg1 hF1 hB2 hF2)
    | (with_reducible refine at_op (op := ⟨none, .store _ (.tmp 30) _, _, _, _, _⟩) ?_; (refine wpl_store1 (op := ⟨none, _, _, _, _, _⟩) one8 rfl (.tmp 30) (.const (.int .u8 1)) rfl g2 63 (.int .u8 1) (cellsB O0) (cellsB O2) rfl rfl rfl _ (H.out.get 1 rfl) (by rw [h64a.out]; decide) hset.out ?_); intro W1 hB1 hF1; replace H := hide (H.out.store 1 rfl hF1 hB1); clear hB1 hF1)
    | (with_reducible refine at_op (op := ⟨some 32, _, _, _, _, _⟩) ?_; refine wpl_held (op := ⟨some 32, _, _, _, _, _⟩) (.agg (cellsB O2).toArray) (held_loadf agg64b _ rfl g2 rfl _ (cellsB O2) (H.out.get 1 rfl) h64c.out) rfl ?_)
    | (go_at_call 17; with_reducible refine (hD2.out _).mono ?_; rintro e Wc ⟨rfl, hbc⟩; replace H := hide (H.out.call hbc); clear hbc)
    | ((with_reducible refine wpl_alloca (op := ⟨some 8, _, _, _, _, _⟩) rfl _ rfl _ zeroS ?_); intro g8 W1 hB1 hg1 hF1)
    | ((with_reducible refine wpl_storea aggS rfl (.tmp 8) (.tmp 34) rfl g8 (slotC A2) rfl rfl _ _ hB1 h40c.out slot0_len (slotC_one _) ?_); intro W2 hB2 hF2; replace H := hide (H.out.var hg1 hF1 hF2 hB2); clear hB1 hg1 hF1 hB2 hF2)
    | (with_reducible refine at_op (op := ⟨some 36, _, _, _, _, _⟩) ?_; refine wpl_held (op := ⟨some 36, _, _, _, _, _⟩) (.agg (pktC shp).toArray) (held_build _ _ rfl _ _ (hbdp.out _) rfl) rfl ?_)
    | (go_at_call 19; refine (hP.out _).mono ?_; rintro e Wc ⟨Ap, cp, rfl, hop, hbc⟩; rw [hpl.out] at hop ⊢; obtain ⟨gp, curp, rfl, hgp, hbp, hsp, htp, hcp⟩ := own_block hop (by decide); rw [← Array.toArray_toList (xs := curp)] at hbp; replace H := hide (H.out.box hgp (Frm.of_below hbc) hbp); have HTP := hide htp; have hcp1 : 1 ≤ cp := (by omega); clear hbc hop hgp hbp htp)
    | (with_reducible refine at_op (op := ⟨some 43, _, _, _, _, _⟩) ?_; refine wpl_held (op := ⟨some 43, _, _, _, _, _⟩) (.slice (some ⟨gp, 0, none⟩) 1 cp) (held_cut0 _ _ rfl _ 614 cp 1 rfl rfl hcp1) rfl ?_)
    | (go_at_call 20; (with_reducible refine (unpack_any (some ⟨gp, 0, none⟩) 1 cp (PK.take 1) _ (by have h := (H.out.get 5 rfl).mid 0 614 PK (by rw [List.drop_zero]; exact HTP.out) hpl0.out; have h2 := h.take 1 (by decide); rwa [cellsB_take] at h2) (by decide)).mono ?_; rintro e Wc ⟨rfl, hbc⟩; replace H := hide (H.out.call hbc); clear hbc; rw [herU.out]))
    | ((with_reducible refine wpl_alloca (op := ⟨some 11, _, _, _, _, _⟩) rfl _ rfl _ zeroP ?_); intro g11 W1 hB1 hg1 hF1)
    | ((with_reducible refine wpl_storea aggP rfl (.tmp 11) (.tmp 45) rfl g11 (pktC (upM (PK.take 1))) rfl rfl _ _ hB1 h610.out pkt0_len (pktC_one _) ?_); intro W2 hB2 hF2; replace H := hide (H.out.var hg1 hF1 hF2 hB2); clear hB1 hg1 hF1 hB2 hF2)
    | (with_reducible refine at_op (op := ⟨some 55, _, _, _, _, _⟩) ?_; refine wpl_held (op := ⟨some 55, _, _, _, _, _⟩) (.int .u16 5) (held_load1 Try.underlying24 rfl one16b _ rfl g4 2 rfl _ _ (.int .u16 5) (H.out.get 2 rfl) hc2.out) rfl ?_)
    | (with_reducible refine at_op (op := ⟨some 60, _, _, _, _, _⟩) ?_; refine wpl_held (op := ⟨some 60, _, _, _, _, _⟩) (.bool true) (held_load1 Try.underlying4 rfl oneBool _ rfl g4 0 rfl _ _ (.bool true) (H.out.get 2 rfl) hc0.out) rfl ?_)
    | (with_reducible refine at_op (op := ⟨some 64, _, _, _, _, _⟩) ?_; refine wpl_held (op := ⟨some 64, _, _, _, _, _⟩) (.int .u32 3) (held_load1 Try.underlying26 rfl one32 _ rfl g4 39 rfl _ _ (.int .u32 3) (H.out.get 2 rfl) hc39.out) rfl ?_)
    | (with_reducible refine at_op (op := ⟨some 83, _, _, _, _, _⟩) ?_; refine wpl_held (op := ⟨some 83, _, _, _, _, _⟩) (.int .u8 1) (held_load1 Try.underlying5 rfl one8 _ rfl gp 0 rfl _ _ (.int .u8 1) (H.out.get 5 rfl) (hp0.out _ HTP.out)) rfl ?_)
    | (with_reducible refine at_op (op := ⟨some 89, _, _, _, _, _⟩) ?_; refine wpl_held (op := ⟨some 89, _, _, _, _, _⟩) (.int .u8 2) (held_load1 Try.underlying5 rfl one8 _ rfl gp 1 rfl _ _ (.int .u8 2) (H.out.get 5 rfl) (hp1.out _ HTP.out)) rfl ?_)
    | (with_reducible refine at_op (op := ⟨some 97, _, _, _, _, _⟩) ?_; refine wpl_held (op := ⟨some 97, _, _, _, _, _⟩) (.agg (slotC slot0).toArray) (held_build _ _ rfl _ _ (build_slot0 _) rfl) rfl ?_)
    | (go_at_call 14; with_reducible refine (hR0.out _).mono ?_; rintro e Wc ⟨rfl, hbc⟩; replace H := hide (H.out.call hbc); clear hbc))
  go_ret
  exact ⟨rfl, H.out.bel⟩
end Go.Proofs.Ytedodbejbkdplaa
