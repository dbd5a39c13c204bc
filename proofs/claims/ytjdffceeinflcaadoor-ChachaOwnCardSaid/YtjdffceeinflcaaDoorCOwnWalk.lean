/-
  ChachaOwn, walked.
-/
import Derived.Test.YtjdffceeinflcaaDoorCh9
namespace Go.Proofs.YtjdffceeinflcaaDoor
set_option linter.unusedVariables false
open Go.RowKit

set_option maxHeartbeats 4000000 in
theorem cown_walk (key nonce : List UInt8) (n : Int) (w : World) (hG : Gc w) (hg0 : 2 ≤ w.heap.size) (hk : key.length = 32) (hno : nonce.length = 12) :
    Calls Tryd.prog 8 #[.agg (cellsB key).toArray, .agg (cellsB nonce).toArray, .int .i64 n] w fun e w' => e = .returned (.bool true) ∧ Below w.heap.size w w' := by
  obtain ⟨hbx, hrun⟩ := boxed_start w key nonce hG hg0
  obtain ⟨x, hx, _⟩ := mask_nat n
  obtain ⟨m, hm, hm5⟩ := mod_nat x 501 (by omega)
  have hm' : Int.tmod (x : Int) 501 = (m : Int) := hm
  have HKL : Hid ((cellsB key).length = 32) := by show _ = _; rw [cellsB_length, hk]
  have HNL : Hid ((cellsB nonce).length = 12) := by show _ = _; rw [cellsB_length, hno]
  have HSR := hide (fun w' (hR : CRun w w') => stream_run w w' key nonce m hR hk hno (by omega))
  have HTL : Hid ((streamL key nonce m).length = m) := streamL_length _ _ _
  obtain ⟨T, hT⟩ : ∃ T, T = streamL key nonce m := ⟨_, rfl⟩
  rw [← hT] at HSR HTL
  have HS : Hid ((⟨T.toArray⟩ : ByteArray).size = m) := by show T.toArray.size = m; rw [List.size_toArray, HTL.out]
  have HBX := hide hbx
  have HRUN := hide hrun
  clear hbx hrun hm hk hno hT hG
  go_enter Tryd.func8, Tryd.ntmps8
  go_wp2_with fail
  refine (cshown_run w _ HRUN.out).mono ?_
  rintro e w1 ⟨rfl, hF1, hR1⟩
  have hb1 := HBX.out.frm0 hF1
  obtain ⟨gn, hgn⟩ : ∃ gn, gn = w.heap.size + 1 := ⟨_, rfl⟩
  rw [← hgn] at hb1 ⊢
  obtain ⟨gk, hgk⟩ : ∃ gk, gk = w.heap.size := ⟨_, rfl⟩
  rw [← hgk] at hb1 ⊢
  have HG1 := hide hgk
  have HG2 := hide hgn
  clear hgk hgn HBX HRUN hF1
  have hbk := hb1.key
  have hbn := hb1.nonce
  go_wp2_with (first
    | (with_reducible refine wpl_loadg (op := ⟨some 15, _, _, _, _, _⟩) aggK _ rfl gk rfl _ _ hbk HKL.out rfl ?_)
    | (with_reducible refine wpl_loadg (op := ⟨some 16, _, _, _, _, _⟩) agg12 _ rfl gn rfl _ _ hbn HNL.out rfl ?_))
  refine (HSR.out w1 hR1).mono ?_
  rintro e w2 ⟨g, rfl, hrow, hge, hF2, hR2⟩
  have hb2 := hb1.frm0 hF2
  have hcv := hrow.rds.conv m
  rw [HTL.out] at hcv
  have hnk : gk ≠ g := by have := hb1.key.lt; omega
  have hnn : gn ≠ g := by have := hb1.nonce.lt; omega
  have hg0' : w.heap.size ≤ g := by have := hR1.size; omega
  have HST : Hid (∃ l : List UInt8, l.length = m ∧ Row w2 g l ∧ Boxed w2 gk gn key nonce ∧ CRun w w2) := ⟨T, HTL.out, hrow, hb2, hR2⟩
  clear hbk hbn hb1 hrow hF2 hR1 hR2 hb2 hge
  go_wp2_with fail
  clear hcv
  go_loopw [10] (fun i wr => ∃ k : Nat, k ≤ m ∧ i = .int .i64 k ∧ ∃ l : List UInt8, l.length = m ∧ Row wr g l ∧ Boxed wr gk gn key nonce ∧ CRun w wr) (fun i _ => m - (intOf i).toNat)
  case atStart => exact ⟨0, by omega, rfl, HST.out⟩
  case round =>
    clear HST
    obtain ⟨k, hk, rfl, l, hl, hrow, hbx, hR⟩ := hrel
    by_cases hlt : k < m
    · have hf1 := hrow.blk.frozen k
      obtain ⟨vo, hvo⟩ : ∃ v, wr.cell? ⟨g, k, none⟩ = some v := ⟨_, by rw [hrow.blk.cell, List.getElem?_toArray]; exact getD_byte _ _ (by omega)⟩
      have FIN : Hid (∃ l : List UInt8, l.length = m ∧ Row (wr.setCell ⟨g, k, none⟩ (.int .u8 63)) g l ∧ Boxed (wr.setCell ⟨g, k, none⟩ (.int .u8 63)) gk gn key nonce ∧ CRun w (wr.setCell ⟨g, k, none⟩ (.int .u8 63))) := by
        have hb := hrow.blk.set k (.int .u8 ((63 : UInt8).toNat : Int))
        rw [List.setIfInBounds_toArray, cellsB_set] at hb
        have f : Frm (fun i => i = g) wr (wr.setCell ⟨g, k, none⟩ (.int .u8 63)) := Frm.setCell _ _ _ (fun i => i = g) rfl
        exact ⟨l.set k 63, by rw [List.length_set, hl], ⟨hb⟩, hbx.frm f hnk hnn, hR.frm f (fun i hi => by omega)⟩
      clear hrow hbx hR hl
      go_wp2_with fail
      go_roundw
      case rel => first | exact ⟨k + 1, by omega, by go_num, FIN.out⟩ | ((repeat apply Exists.intro); exact ⟨⟨k + 1, by omega, by go_num, FIN.out⟩, rfl⟩)
      case measure => simp [intOf]; omega
    · obtain rfl : k = m := by omega
      have hbk := hbx.key
      have hbn := hbx.nonce
      go_wp2_with (first
        | (with_reducible refine wpl_loadg (op := ⟨some 32, _, _, _, _, _⟩) aggK _ rfl gk rfl _ _ hbk HKL.out rfl ?_)
        | (with_reducible refine wpl_loadg (op := ⟨some 33, _, _, _, _, _⟩) agg12 _ rfl gn rfl _ _ hbn HNL.out rfl ?_))
      refine (HSR.out wr hR).mono ?_
      rintro e w3 ⟨g3, rfl, hrow3, hge3, hF3, hR3⟩
      have hcv := hrow3.rds.conv k
      rw [HTL.out] at hcv
      have hs := HS.out
      have HB := hide hR3.below
      clear hrow hbx hR hbk hbn hrow3 hF3 hR3 hl
      generalize (⟨T.toArray⟩ : ByteArray) = st at *
      go_wp2_with fail
      go_ret
      exact ⟨rfl, HB.out⟩
end Go.Proofs.YtjdffceeinflcaaDoor
