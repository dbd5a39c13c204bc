/-
  Tags and streams.
-/
import Derived.Test.YtoiiiflnnhkjbaaGreatDoorOnB
namespace Go.Proofs.YtoiiiflnnhkjbaaGreatDoor
set_option linter.unusedVariables false
set_option linter.unusedSimpArgs false
open Go.RowKit

/-- A row of bytes that a call made, in a block of its own. -/
def MadeN (w : World) (l : List UInt8) (n : Nat) (e : Ending) (w' : World) : Prop := ∃ g, e = .returned (.slice (some ⟨g, 0, none⟩) n n) ∧ Blk w' g 5 (cellsB l).toArray ∧ w.heap.size ≤ g ∧ Below w.heap.size w w'
theorem Made.n {w : World} {l : List UInt8} {n : Nat} (hl : l.length = n) {e : Ending} {w' : World} (h : Made w l e w') : MadeN w l n e w' := by
  obtain ⟨g, h1, h2⟩ := h
  rw [hl] at h1
  exact ⟨g, h1, h2⟩
theorem stream_tb (key nonce : List UInt8) (n : Nat) (hk : key.length = 32) (hno : nonce.length = 12) (hn : n ≤ 1000000) (w : World) (hT : Tb w) :
    Calls Tryz.prog 48 #[.agg (cellsB key).toArray, .agg (cellsB nonce).toArray, .int .i64 (n : Int)] w (MadeN w (streamL key nonce n) n) :=
  (stream_any key nonce n w hT.gc (by have := hT.four; omega) hk hno hn).mono fun _ _ h => h.n (streamL_length _ _ _)
theorem xor_n (A B : Option Addr) (n m c d : Nat) (a b : List UInt8) (k : Nat) (w : World) (hA : Rds w A n (cellsB a)) (hB : Rds w B m (cellsB b)) (hn : n ≤ 1000000) (hm : m ≤ 1000000) (hk : (xorB a b).length = k) :
    Calls Tryz.prog 28 #[.slice A n c, .slice B m d] w (MadeN w (xorB a b) k) :=
  (xor_any A B n m c d a b w hA hB hn hm).mono fun _ _ h => h.n hk
theorem build12 (w : World) : Sem.run Tryz.prog (Instr.build 103 #[]) w = .ok (.agg (cellsB (zeros 12)).toArray) w := run_build w _ _ _ (by kernel_rfl)

set_option maxHeartbeats 2000000 in
set_option maxRecDepth 100000 in
theorem head_any (key : List UInt8) (ep : Nat) (nonce : List UInt8) (hk : key.length = 32) (hn : nonce.length = 16) (he : ep < 4294967296) (w : World) (hT : Tb w) :
    Calls Tryz.prog 29 #[.agg (cellsB key).toArray, .int .u32 (ep : Int), .agg (cellsB nonce).toArray] w (MadeN w (headS key ep nonce) 384) := by
  have H := hide (OAt.start hT)
  have HK := hide (cl hk)
  have HN := hide (cl hn)
  have HM := hide (fun (W : World) (h : Tb W) => made_any key headT ep nonce hk hn he (by decide) W h)
  have hbd := build12
  have hml := madeL_length key headT ep nonce
  have HS : Hid (headS key ep nonce = streamL (madeL key headT ep nonce) (zeros 12) 384) := rfl
  generalize headS key ep nonce = SS at *
  generalize madeL key headT ep nonce = mk at *
  have HSC : Hid (∀ W, Tb W → Calls Tryz.prog 48 #[.agg (cellsB mk).toArray, .agg (cellsB (zeros 12)).toArray, .int .i64 384] W (MadeN W (streamL mk (zeros 12) 384) 384)) := fun W h => stream_tb mk (zeros 12) 384 hml rfl (by decide) W h
  clear hml hT hk hn he
  go_enter Tryz.func29, Tryz.ntmps29
  go_wp2_with (first
    | (with_reducible refine at_op (op := ⟨some 3, _, _, _, _, _⟩) ?_; (refine wpl_boxa (op := ⟨some 3, _, _, _, _, _⟩) rfl _ _ rfl (cellsB key) rfl ?_); intro g3 W3 hB1 hg1 hF1; replace H := hide (H.out.box hg1 hF1 hB1); clear hB1 hg1 hF1)
    | (with_reducible refine at_op (op := ⟨some 5, _, _, _, _, _⟩) ?_; (refine wpl_boxa (op := ⟨some 5, _, _, _, _, _⟩) rfl _ _ rfl (cellsB nonce) rfl ?_); intro g5 W5 hB1 hg1 hF1; replace H := hide (H.out.box hg1 hF1 hB1); clear hB1 hg1 hF1)
    | (with_reducible refine at_op (op := ⟨some 7, _, _, _, _, _⟩) ?_; refine wpl_held (op := ⟨some 7, _, _, _, _, _⟩) (.agg (cellsB key).toArray) (held_loadf aggK _ rfl g3 rfl _ (cellsB key) (H.out.get 0 rfl) HK.out) rfl ?_)
    | (with_reducible refine at_op (op := ⟨some 9, _, _, _, _, _⟩) ?_; refine wpl_held (op := ⟨some 9, _, _, _, _, _⟩) (.agg (cellsB nonce).toArray) (held_loadf aggN _ rfl g5 rfl _ (cellsB nonce) (H.out.get 1 rfl) HN.out) rfl ?_)
    | (go_at_call 33; refine (HM.out _ H.out.tb).mono ?_; rintro e W10 ⟨rfl, hbc⟩; replace H := hide (H.out.call hbc); clear hbc)
    | (with_reducible refine at_op (op := ⟨some 11, _, _, _, _, _⟩) ?_; refine wpl_held (op := ⟨some 11, _, _, _, _, _⟩) (.agg (cellsB (zeros 12)).toArray) (held_build _ _ rfl _ _ (hbd _) rfl) rfl ?_)
    | (go_at_call 48; refine (HSC.out _ H.out.tb).mono ?_; rintro e W12 ⟨g, rfl, hb, hg, hbc⟩))
  go_ret
  have h0 := H.out.bel.size
  rw [HS.out]
  exact ⟨g, rfl, hb, by omega, H.out.bel.trans (hbc.mono h0)⟩

set_option maxHeartbeats 2000000 in
set_option maxRecDepth 100000 in
theorem body_any (key : List UInt8) (ep : Nat) (nonce : List UInt8) (hk : key.length = 32) (hn : nonce.length = 16) (he : ep < 4294967296) (w : World) (hT : Tb w) :
    Calls Tryz.prog 31 #[.agg (cellsB key).toArray, .int .u32 (ep : Int), .agg (cellsB nonce).toArray] w (MadeN w (bodyS key ep nonce) 256) := by
  have H := hide (OAt.start hT)
  have HK := hide (cl hk)
  have HN := hide (cl hn)
  have HM := hide (fun (W : World) (h : Tb W) => made_any key bodyT ep nonce hk hn he (by decide) W h)
  have hbd := build12
  have hml := madeL_length key bodyT ep nonce
  have HS : Hid (bodyS key ep nonce = streamL (madeL key bodyT ep nonce) (zeros 12) 256) := rfl
  generalize bodyS key ep nonce = SS at *
  generalize madeL key bodyT ep nonce = mk at *
  have HSC : Hid (∀ W, Tb W → Calls Tryz.prog 48 #[.agg (cellsB mk).toArray, .agg (cellsB (zeros 12)).toArray, .int .i64 256] W (MadeN W (streamL mk (zeros 12) 256) 256)) := fun W h => stream_tb mk (zeros 12) 256 hml rfl (by decide) W h
  clear hml hT hk hn he
  go_enter Tryz.func31, Tryz.ntmps31
  go_wp2_with (first
    | (with_reducible refine at_op (op := ⟨some 3, _, _, _, _, _⟩) ?_; (refine wpl_boxa (op := ⟨some 3, _, _, _, _, _⟩) rfl _ _ rfl (cellsB key) rfl ?_); intro g3 W3 hB1 hg1 hF1; replace H := hide (H.out.box hg1 hF1 hB1); clear hB1 hg1 hF1)
    | (with_reducible refine at_op (op := ⟨some 5, _, _, _, _, _⟩) ?_; (refine wpl_boxa (op := ⟨some 5, _, _, _, _, _⟩) rfl _ _ rfl (cellsB nonce) rfl ?_); intro g5 W5 hB1 hg1 hF1; replace H := hide (H.out.box hg1 hF1 hB1); clear hB1 hg1 hF1)
    | (with_reducible refine at_op (op := ⟨some 7, _, _, _, _, _⟩) ?_; refine wpl_held (op := ⟨some 7, _, _, _, _, _⟩) (.agg (cellsB key).toArray) (held_loadf aggK _ rfl g3 rfl _ (cellsB key) (H.out.get 0 rfl) HK.out) rfl ?_)
    | (with_reducible refine at_op (op := ⟨some 9, _, _, _, _, _⟩) ?_; refine wpl_held (op := ⟨some 9, _, _, _, _, _⟩) (.agg (cellsB nonce).toArray) (held_loadf aggN _ rfl g5 rfl _ (cellsB nonce) (H.out.get 1 rfl) HN.out) rfl ?_)
    | (go_at_call 33; refine (HM.out _ H.out.tb).mono ?_; rintro e W10 ⟨rfl, hbc⟩; replace H := hide (H.out.call hbc); clear hbc)
    | (with_reducible refine at_op (op := ⟨some 11, _, _, _, _, _⟩) ?_; refine wpl_held (op := ⟨some 11, _, _, _, _, _⟩) (.agg (cellsB (zeros 12)).toArray) (held_build _ _ rfl _ _ (hbd _) rfl) rfl ?_)
    | (go_at_call 48; refine (HSC.out _ H.out.tb).mono ?_; rintro e W12 ⟨g, rfl, hb, hg, hbc⟩))
  go_ret
  have h0 := H.out.bel.size
  rw [HS.out]
  exact ⟨g, rfl, hb, by omega, H.out.bel.trans (hbc.mono h0)⟩

set_option maxHeartbeats 2000000 in
set_option maxRecDepth 100000 in
theorem tag_any (key : List UInt8) (ep : Nat) (nonce : List UInt8) (hk : key.length = 32) (hn : nonce.length = 16) (he : ep < 4294967296) (w : World) (hT : Tb w) :
    Calls Tryz.prog 11 #[.agg (cellsB key).toArray, .int .u32 (ep : Int), .agg (cellsB nonce).toArray] w fun e w' => e = .returned (.agg (cellsB (tagO key ep nonce)).toArray) ∧ Below w.heap.size w w' := by
  have H := hide (OAt.start hT)
  have HK := hide (cl hk)
  have HN := hide (cl hn)
  have HM := hide (fun (W : World) (h : Tb W) => made_any key tagT ep nonce hk hn he (by decide) W h)
  have hml := madeL_length key tagT ep nonce
  have HS : Hid (tagO key ep nonce = (madeL key tagT ep nonce).take 16) := rfl
  have HSL := hide (cl (tagO_length key ep nonce))
  generalize tagO key ep nonce = SS at *
  generalize madeL key tagT ep nonce = mk at *
  have HML := hide (cl hml)
  have HX : Hid (((cellsB mk).drop 0).take 16 = cellsB SS) := by show _ = _; rw [List.drop_zero, cellsB_take, HS.out]
  have hst : ∀ g w, Sem.run Tryz.prog (Instr.sliceAt 26 (.pointer (some ⟨g, 0, none⟩)) none (some (.int .i64 16)) none) w = .ok (.slice (some ⟨g, 0, none⟩) 16 32) w := fun g w => slice_arr_to underK32 g 16 (by decide) w
  have har := fun (g c : Nat) (w : World) => run_arr underT (some ⟨g, 0, none⟩) 16 c (Nat.le_refl _) w
  clear hml hT hk hn he
  go_enter Tryz.func11, Tryz.ntmps11
  go_wp2_with (first
    | (with_reducible refine at_op (op := ⟨some 3, _, _, _, _, _⟩) ?_; (refine wpl_boxa (op := ⟨some 3, _, _, _, _, _⟩) rfl _ _ rfl (cellsB key) rfl ?_); intro g3 W3 hB1 hg1 hF1; replace H := hide (H.out.box hg1 hF1 hB1); clear hB1 hg1 hF1)
    | (with_reducible refine at_op (op := ⟨some 5, _, _, _, _, _⟩) ?_; (refine wpl_boxa (op := ⟨some 5, _, _, _, _, _⟩) rfl _ _ rfl (cellsB nonce) rfl ?_); intro g5 W5 hB1 hg1 hF1; replace H := hide (H.out.box hg1 hF1 hB1); clear hB1 hg1 hF1)
    | (with_reducible refine at_op (op := ⟨some 6, _, _, _, _, _⟩) ?_; (with_reducible refine wpl_alloca (op := ⟨some 6, _, _, _, _, _⟩) rfl _ rfl _ zeroT ?_); intro g6 W6 hB1 hg1 hF1; replace H := hide (H.out.box hg1 hF1 hB1); clear hB1 hg1 hF1)
    | (with_reducible refine at_op (op := ⟨some 8, _, _, _, _, _⟩) ?_; refine wpl_held (op := ⟨some 8, _, _, _, _, _⟩) (.agg (cellsB key).toArray) (held_loadf aggK _ rfl g3 rfl _ (cellsB key) (H.out.get 0 rfl) HK.out) rfl ?_)
    | (with_reducible refine at_op (op := ⟨some 10, _, _, _, _, _⟩) ?_; refine wpl_held (op := ⟨some 10, _, _, _, _, _⟩) (.agg (cellsB nonce).toArray) (held_loadf aggN _ rfl g5 rfl _ (cellsB nonce) (H.out.get 1 rfl) HN.out) rfl ?_)
    | (go_at_call 33; refine (HM.out _ H.out.tb).mono ?_; rintro e W10 ⟨rfl, hbc⟩; replace H := hide (H.out.call hbc); clear hbc)
    | ((with_reducible refine wpl_alloca (op := ⟨some 7, _, _, _, _, _⟩) rfl _ rfl _ zeroK ?_); intro g7 V7 hB1 hg1 hF1)
    | ((with_reducible refine wpl_storea aggK rfl (.tmp 7) (.tmp 11) rfl g7 (cellsB mk) rfl rfl _ _ hB1 HML.out zl_K (cellsB_one _) ?_); intro W7 hB2 hF2; replace H := hide (H.out.var hg1 hF1 hF2 hB2); clear hB1 hg1 hF1 hB2 hF2)
    | (with_reducible refine at_op (op := ⟨some 14, _, _, _, _, _⟩) ?_; refine wpl_held (op := ⟨some 14, _, _, _, _, _⟩) (.agg (cellsB SS).toArray) (held_loada aggT _ rfl g7 0 rfl _ (cellsB mk) (cellsB SS) (H.out.get 3 rfl) HX.out (by rw [HML.out]; decide)) rfl ?_)
    | ((with_reducible refine wpl_storea aggT rfl (.tmp 6) (.tmp 14) rfl g6 (cellsB SS) rfl rfl _ _ (H.out.get 2 rfl) HSL.out (Z16_len) (cellsB_one _) ?_); intro W14 hB1 hF1; replace H := hide (H.out.store 2 rfl hF1 hB1); clear hB1 hF1))
  exact ret_agg aggT rfl rfl g6 _ _ rfl (H.out.get 2 rfl) HSL.out ⟨rfl, H.out.bel⟩
end Go.Proofs.YtoiiiflnnhkjbaaGreatDoor
