/-
  ChachaStreams, walked.
-/
import Derived.Test.YtjdffceeinflcaaDoorCh9
namespace Go.Proofs.YtjdffceeinflcaaDoor
set_option linter.unusedVariables false
open Go.RowKit

theorem blocks_pre (key nonce : List UInt8) (c d : Nat) (h : c ≤ d) : (blocksL key nonce d).take (64 * c) = blocksL key nonce c := by
  induction d with
  | zero =>
    obtain rfl : c = 0 := by omega
    rfl
  | succ d ih =>
    by_cases hc : c ≤ d
    · rw [blocksL, List.take_append_of_le_length (by rw [blocksL_length]; omega), ih hc]
    · obtain rfl : c = d + 1 := by omega
      exact List.take_of_length_le (by rw [blocksL_length]; exact Nat.le_refl _)
theorem stream_pre (key nonce : List UInt8) (n m : Nat) (h : m ≤ n) : (streamL key nonce n).take m = streamL key nonce m := by
  rw [streamL, streamL, List.take_take, ← blocks_pre key nonce ((m + 63) / 64) ((n + 63) / 64) (by omega), List.take_take]
  congr 1
  omega

structure SInv (w : World) (gk gn gs : Nat) (key nonce T : List UInt8) (wr : World) : Prop where
  row : Row wr gs T
  box : Boxed wr gk gn key nonce
  run : CRun w wr
theorem SInv.frm0 {w : World} {gk gn gs : Nat} {key nonce T : List UInt8} {wr wr' : World} (h : SInv w gk gn gs key nonce T wr) (f : Frm (fun _ => False) wr wr') : SInv w gk gn gs key nonce T wr' := ⟨h.row.frm0 f, h.box.frm0 f, h.run.frm0 f⟩

set_option maxHeartbeats 8000000 in
theorem cstreams_walk (key nonce : List UInt8) (n m : Int) (w : World) (hG : Gc w) (hg0 : 2 ≤ w.heap.size) (hk : key.length = 32) (hno : nonce.length = 12) :
    Calls Tryd.prog 4 #[.agg (cellsB key).toArray, .agg (cellsB nonce).toArray, .int .i64 n, .int .i64 m] w fun e w' => e = .returned (.bool true) ∧ Below w.heap.size w w' := by
  obtain ⟨hbx, hrun⟩ := boxed_start w key nonce hG hg0
  obtain ⟨x, hx, _⟩ := mask_nat n
  obtain ⟨N, hN, hN5⟩ := mod_nat x 1001 (by omega)
  have hN' : Int.tmod (x : Int) 1001 = (N : Int) := hN
  obtain ⟨y, hy, _⟩ := mask_nat m
  obtain ⟨M, hM, hM5⟩ := mod_nat y (N + 1) (by omega)
  have hM' : Int.tmod (y : Int) ((N : Int) + 1) = (M : Int) := by rw [← hM]; rfl
  have hMN : M ≤ N := by omega
  have hwN : IntKind.i64.wrap ((N : Int) + 1) = (N : Int) + 1 := IntWalk.i64_in _ (by omega)
  have HKL : Hid ((cellsB key).length = 32) := by show _ = _; rw [cellsB_length, hk]
  have HNL : Hid ((cellsB nonce).length = 12) := by show _ = _; rw [cellsB_length, hno]
  have HS1 := hide (fun w' (hR : CRun w w') => stream_run w w' key nonce N hR hk hno (by omega))
  have HS2 := hide (fun w' (hR : CRun w w') => stream_run w w' key nonce M hR hk hno (by omega))
  have HBA := hide (fun w' (i : Nat) (hR : CRun w w') (hi : i < 4294967296) => block_run w w' key nonce i hR hk hno hi)
  have HTL : Hid ((streamL key nonce N).length = N) := streamL_length _ _ _
  have HUL : Hid ((streamL key nonce M).length = M) := streamL_length _ _ _
  have HPR : Hid ((streamL key nonce N).take M = streamL key nonce M) := stream_pre key nonce N M hMN
  have HMD : Hid (∀ i k, 64 * i + k ≤ N → k ≤ 64 → 64 * i < N → ((streamL key nonce N).drop (64 * i)).take k = (chaL key i nonce).take k) := fun i k h1 h2 h3 => stream_mid key nonce N i k h1 h2 h3
  obtain ⟨CH, hCH⟩ : ∃ CH : Nat → List UInt8, CH = fun i => chaL key i nonce := ⟨_, rfl⟩
  have HCL : Hid (∀ i, (CH i).length = 64) := by rw [hCH]; exact fun i => chaL_length _ _ _
  have HBA2 : Hid (∀ (w' : World) (i : Nat), CRun w w' → i < 4294967296 → Calls Tryd.prog 11 #[.agg (cellsB key).toArray, .int .u32 (i : Int), .agg (cellsB nonce).toArray] w' fun e w'' => e = .returned (.agg (cellsB (CH i)).toArray) ∧ Frm (fun _ => False) w' w'' ∧ CRun w w'') := by rw [hCH]; exact HBA.out
  obtain ⟨T, hT⟩ : ∃ T, T = streamL key nonce N := ⟨_, rfl⟩
  obtain ⟨U, hU⟩ : ∃ U, U = streamL key nonce M := ⟨_, rfl⟩
  rw [← hT] at HS1 HTL HPR HMD
  rw [← hU] at HS2 HUL HPR
  have HMD2 : Hid (∀ i k, 64 * i + k ≤ N → k ≤ 64 → 64 * i < N → (T.drop (64 * i)).take k = (CH i).take k) := by rw [hCH]; exact HMD.out
  have HBX := hide hbx
  have HRUN := hide hrun
  have hcut0 : ∀ g w, _ := fun g w => run_cut0 (some ⟨g, 0, none⟩) N N M hMN w
  clear hbx hrun hN hM hk hno hT hU hG hCH HBA HMD
  go_enter Tryd.func4, Tryd.ntmps4
  go_wp2_with fail
  refine (cshown_run w _ HRUN.out).mono ?_
  rintro e w1 ⟨rfl, hF1, hR1⟩
  have hb1 := HBX.out.frm0 hF1
  obtain ⟨gn, hgn⟩ : ∃ gn, gn = w.heap.size + 1 := ⟨_, rfl⟩
  rw [← hgn] at hb1 ⊢
  obtain ⟨gk, hgk⟩ : ∃ gk, gk = w.heap.size := ⟨_, rfl⟩
  rw [← hgk] at hb1 ⊢
  clear hgk hgn HBX HRUN hF1
  have hbk := hb1.key
  have hbn := hb1.nonce
  go_wp2_with (first
    | (with_reducible refine wpl_loadg (op := ⟨some 23, _, _, _, _, _⟩) aggK _ rfl gk rfl _ _ hbk HKL.out rfl ?_)
    | (with_reducible refine wpl_loadg (op := ⟨some 24, _, _, _, _, _⟩) agg12 _ rfl gn rfl _ _ hbn HNL.out rfl ?_))
  refine (HS1.out w1 hR1).mono ?_
  rintro e w2 ⟨gs, rfl, hrow, hge, hF2, hR2⟩
  have hb2 := hb1.frm0 hF2
  have hbk2 := hb2.key
  have hbn2 := hb2.nonce
  clear hbk hbn HS1
  go_wp2_with (first
    | (with_reducible refine wpl_loadg (op := ⟨some 27, _, _, _, _, _⟩) aggK _ rfl gk rfl _ _ hbk2 HKL.out rfl ?_)
    | (with_reducible refine wpl_loadg (op := ⟨some 28, _, _, _, _, _⟩) agg12 _ rfl gn rfl _ _ hbn2 HNL.out rfl ?_))
  refine (HS2.out w2 hR2).mono ?_
  rintro e w3 ⟨gt, rfl, hrow2, hge2, hF3, hR3⟩
  have hD : ∀ q, Frm (fun _ => False) w3 (w3.drewN q) := fun q => (Frm.refl _ _).drewN q
  have c1 : ∀ q, Sem.run Tryd.prog (convert 29 9 (.slice (some ⟨gt, 0, none⟩) M M)) (w3.drewN q) = .ok (.string ⟨U.toArray⟩) (w3.drewN q) := fun q => by
    have := (hrow2.frm0 (hD q)).rds.conv M
    rwa [HUL.out] at this
  have c2 : ∀ q, Sem.run Tryd.prog (convert 29 9 (.slice (some ⟨gs, 0, none⟩) M N)) (w3.drewN q) = .ok (.string ⟨U.toArray⟩) (w3.drewN q) := fun q => by
    have := ((hrow.frm0 hF3).frm0 (hD q)).blk.conv M N (by rw [HTL.out]; exact hMN)
    rwa [HPR.out] at this
  have HST : Hid (∀ q, SInv w gk gn gs key nonce T (w3.drewN q)) := fun q => ⟨(hrow.frm0 hF3).frm0 (hD q), (hb2.frm0 hF3).frm0 (hD q), hR3.frm0 (hD q)⟩
  clear hbk2 hbn2 HS2 hb1 hb2 hF2 hF3 hR1 hR2 hR3 hrow hrow2 hge2 hD HPR
  generalize (⟨U.toArray⟩ : ByteArray) = su at *
  go_wp2_with fail
  go_quiet (fail)
  go_wp2_with fail
  clear c1 c2
  have hst := HST.out nq
  have HST1 := hide hst
  clear hst HST
  generalize w3.drewN nq = w4 at *
  go_loopw [12] (fun i wr => ∃ k : Nat, k ≤ 16 ∧ i = .int .i64 k ∧ SInv w gk gn gs key nonce T wr) (fun i _ => 16 - (intOf i).toNat)
  case atStart => exact ⟨0, by omega, rfl, HST1.out⟩
  case round =>
    clear HST1
    obtain ⟨k, hk, rfl, hi⟩ := hrel
    by_cases hlt : 64 * k < N
    · have hbk := hi.box.key
      have hbn := hi.box.nonce
      have hu : IntKind.u32.wrap (k : Int) = (k : Int) := by rw [IntKind.wrap_u32']; omega
      have hw1 : IntKind.i64.wrap (64 * (k : Int)) = 64 * (k : Int) := IntWalk.i64_in _ (by omega)
      have hw2 : IntKind.i64.wrap (64 * (k : Int) + 64) = 64 * (k : Int) + 64 := IntWalk.i64_in _ (by omega)
      have hw3 : IntKind.i64.wrap ((N : Int) - 64 * (k : Int)) = (N : Int) - 64 * (k : Int) := IntWalk.i64_in _ (by omega)
      have hlt' : 64 * (k : Int) < (N : Int) := by omega
      have HI := hide hi
      clear hi
      go_wp2_with (first
        | (with_reducible refine wpl_loadg (op := ⟨some 56, _, _, _, _, _⟩) aggK _ rfl gk rfl _ _ hbk HKL.out rfl ?_)
        | (with_reducible refine wpl_loadg (op := ⟨some 59, _, _, _, _, _⟩) agg12 _ rfl gn rfl _ _ hbn HNL.out rfl ?_))
      refine (HBA2.out wr k HI.out.run (by omega)).mono ?_
      rintro e w5 ⟨rfl, hF5, hR5⟩
      have HCI := hide (HCL.out k)
      have HCC : Hid ((cellsB (CH k)).length = 64) := by show _ = _; rw [cellsB_length, HCI.out]
      have HZB : Hid ((cellsB (List.replicate 64 0)).toArray.size = 64) := rfl
      have HMK := hide (fun c h1 h2 => HMD2.out k c h1 h2 hlt)
      generalize CH k = ch at *
      clear hbk hbn
      go_wp2_with (first
        | ((with_reducible refine wpl_alloca (op := ⟨some 13, _, _, _, _, _⟩) rfl _ rfl _ zero64b ?_); intro g13 w6 hB6 hs6 hF6)
        | ((with_reducible refine wpl_storea agg64b rfl (.tmp 13) (.tmp 60) rfl g13 (cellsB ch) rfl rfl _ _ hB6 HCC.out HZB.out (cellsB_one _) ?_); intro w7 hB7 hF7))
      have hI6 := (HI.out.frm0 hF5).frm0 hF6
      have hs13 : wr.heap.size ≤ g13 := by have := hF5.size; omega
      have hI7 : SInv w gk gn gs key nonce T w7 := by
        have h1 := HI.out.row.lt
        have h2 := HI.out.box.key.lt
        have h3 := HI.out.box.nonce.lt
        have h4 := HI.out.run.size
        exact ⟨hI6.row.frm hF7 (by omega), hI6.box.frm hF7 (by omega) (by omega), hI6.run.frm hF7 (fun i hi => by omega)⟩
      have hD : ∀ q, Frm (fun _ => False) w7 (w7.drewN q) := fun q => (Frm.refl _ _).drewN q
      have HI7 : Hid (∀ q, SInv w gk gn gs key nonce T (w7.drewN q)) := fun q => hI7.frm0 (hD q)
      obtain ⟨A2, hA2⟩ : ∃ A2, A2 = if N = 64 * k then some (⟨gs, 0, none⟩ : Addr) else (some (⟨gs, 0, none⟩ : Addr)).map (·.add (64 * k)) := ⟨_, rfl⟩
      have hcutA : ∀ (j : Nat), 64 * k ≤ j → j ≤ N → ∀ w, _ := fun j h1 h2 w => run_cut2 (some ⟨gs, 0, none⟩) N N (64 * k) j h1 h2 w
      rw [← hA2] at hcutA
      have hmidA : ∀ (j : Nat), 64 * k ≤ j → j ≤ N → ∀ q, Rds (w7.drewN q) A2 (j - 64 * k) (cellsB ((T.drop (64 * k)).take (j - 64 * k))) := fun j h1 h2 q => by
        have hr := (HI7.out q).row.rds
        rw [HTL.out] at hr
        have := hr.mid N (64 * k) j h1 h2 (Nat.le_refl _)
        rw [hA2]
        exact this
      clear hI6 hF5 hF6 hF7 hB6 hI7 hA2 HI hR5
      by_cases hfull : 64 * k + 64 ≤ N
      · have hmn1 : ¬ ((N : Int) < 64 * (k : Int) + 64) := by omega
        have hmn2 : ¬ ((N : Int) - 64 * (k : Int) < 64) := by omega
        have s1 : ∀ w, Sem.run Tryd.prog (Instr.sliceAt 29 (.slice (some ⟨gs, 0, none⟩) N N) (some (.int .i64 (64 * (k : Int)))) (some (.int .i64 (64 * (k : Int) + 64))) none) w = .ok (.slice A2 64 (N - 64 * k)) w := fun w => by
          have := hcutA (64 * k + 64) (by omega) hfull w
          rw [show 64 * k + 64 - 64 * k = 64 by omega] at this
          exact this
        have s2 : ∀ w, Sem.run Tryd.prog (Instr.sliceAt 27 (.pointer (some ⟨g13, 0, none⟩)) none (some (.int .i64 64)) none) w = .ok (.slice (some ⟨g13, 0, none⟩) 64 64) w := fun w => slice_arr_to under64b g13 64 (by omega) w
        have t1 : ∀ q, Sem.run Tryd.prog (convert 29 9 (.slice A2 64 (N - 64 * k))) (w7.drewN q) = .ok (.string ⟨(ch.take 64).toArray⟩) (w7.drewN q) := fun q => by
          have := hmidA (64 * k + 64) (by omega) hfull q
          rw [show 64 * k + 64 - 64 * k = 64 by omega, HMK.out 64 (by omega) (by omega)] at this
          exact this.conv _
        have t2 : ∀ q, Sem.run Tryd.prog (convert 29 9 (.slice (some ⟨g13, 0, none⟩) 64 64)) (w7.drewN q) = .ok (.string ⟨(ch.take 64).toArray⟩) (w7.drewN q) := fun q => (hB7.frm (hD q) (fun h => h)).conv 64 64 (by rw [HCI.out]; omega)
        clear hcutA hmidA hB7 hD
        generalize (⟨(ch.take 64).toArray⟩ : ByteArray) = sc at *
        obtain ⟨cN, hcN⟩ : ∃ cN, cN = N - 64 * k := ⟨_, rfl⟩
        rw [← hcN] at s1 t1
        clear hcN
        go_wp2_with fail
        go_quiet (fail)
        go_wp2_with fail
        have FIN := hide (HI7.out nq)
        go_roundw
        case rel => first | exact ⟨k + 1, by omega, by go_num, FIN.out⟩ | ((repeat apply Exists.intro); exact ⟨⟨k + 1, by omega, by go_num, FIN.out⟩, rfl⟩)
        case measure => simp [intOf]; omega
      · have hmn1 : (N : Int) < 64 * (k : Int) + 64 := by omega
        have hmn2 : (N : Int) - 64 * (k : Int) < 64 := by omega
        obtain ⟨cN, hcN⟩ : ∃ cN, cN = N - 64 * k := ⟨_, rfl⟩
        have hci : (N : Int) - 64 * (k : Int) = (cN : Int) := by omega
        have s1 : ∀ w, Sem.run Tryd.prog (Instr.sliceAt 29 (.slice (some ⟨gs, 0, none⟩) N N) (some (.int .i64 (64 * (k : Int)))) (some (.int .i64 (N : Int))) none) w = .ok (.slice A2 cN cN) w := fun w => by
          have := hcutA N (by omega) (Nat.le_refl _) w
          rw [← hcN] at this
          exact this
        have s2 : ∀ w, Sem.run Tryd.prog (Instr.sliceAt 27 (.pointer (some ⟨g13, 0, none⟩)) none (some (.int .i64 (cN : Int))) none) w = .ok (.slice (some ⟨g13, 0, none⟩) cN 64) w := fun w => slice_arr_to under64b g13 cN (by omega) w
        have t1 : ∀ q, Sem.run Tryd.prog (convert 29 9 (.slice A2 cN cN)) (w7.drewN q) = .ok (.string ⟨(ch.take cN).toArray⟩) (w7.drewN q) := fun q => by
          have := hmidA N (by omega) (Nat.le_refl _) q
          rw [← hcN, HMK.out cN (by omega) (by omega)] at this
          exact this.conv _
        have t2 : ∀ q, Sem.run Tryd.prog (convert 29 9 (.slice (some ⟨g13, 0, none⟩) cN 64)) (w7.drewN q) = .ok (.string ⟨(ch.take cN).toArray⟩) (w7.drewN q) := fun q => (hB7.frm (hD q) (fun h => h)).conv cN 64 (by rw [HCI.out]; omega)
        rw [hci] at hw3 hmn2
        clear hcutA hmidA hB7 hD hcN
        generalize (⟨(ch.take cN).toArray⟩ : ByteArray) = sc at *
        go_wp2_with fail
        go_quiet (fail)
        go_wp2_with fail
        have FIN := hide (HI7.out nq)
        go_roundw
        case rel => first | exact ⟨k + 1, by omega, by go_num, FIN.out⟩ | ((repeat apply Exists.intro); exact ⟨⟨k + 1, by omega, by go_num, FIN.out⟩, rfl⟩)
        case measure => simp [intOf]; omega
    · have hlt' : ¬ (64 * (k : Int) < (N : Int)) := by omega
      have hw1 : IntKind.i64.wrap (64 * (k : Int)) = 64 * (k : Int) := IntWalk.i64_in _ (by omega)
      have HB := hide hi.run.below
      clear hi
      go_wp2_with fail
      go_ret
      exact ⟨rfl, HB.out⟩
end Go.Proofs.YtjdffceeinflcaaDoor
