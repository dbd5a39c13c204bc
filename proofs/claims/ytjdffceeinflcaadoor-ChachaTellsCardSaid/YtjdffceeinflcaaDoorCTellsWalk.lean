/-
  ChachaTells, walked.
-/
import Derived.Test.YtjdffceeinflcaaDoorCT4
namespace Go.Proofs.YtjdffceeinflcaaDoor
set_option linter.unusedVariables false
open Go.RowKit

structure TInv (w0 : World) (gk gn gb : Nat) (key nonce ch : List UInt8) (W : World) : Prop where
  key : Blk W gk 23 (cellsB key).toArray
  nonce : Blk W gn 25 (cellsB nonce).toArray
  blk : Blk W gb 27 (cellsB ch).toArray
  run : CRun w0 W
theorem TInv.frm0 {w0 : World} {gk gn gb : Nat} {key nonce ch : List UInt8} {W W' : World} (h : TInv w0 gk gn gb key nonce ch W) (f : Frm (fun _ => False) W W') : TInv w0 gk gn gb key nonce ch W' :=
  ⟨h.key.frm f (fun h => h), h.nonce.frm f (fun h => h), h.blk.frm f (fun h => h), h.run.frm0 f⟩

set_option maxHeartbeats 8000000 in
theorem ctells_walk (key : List UInt8) (ctr : Int) (nonce : List UInt8) (n : Int) (w : World) (hG : Gc w) (hg0 : 2 ≤ w.heap.size) (hk : key.length = 32) (hctr : 0 ≤ ctr ∧ ctr < 4294967296) (hno : nonce.length = 12) :
    Calls Tryd.prog 3 #[.agg (cellsB key).toArray, .int .u32 ctr, .agg (cellsB nonce).toArray, .int .i64 n] w fun e w' => e = .returned (.bool true) ∧ Below w.heap.size w w' := by
  obtain ⟨ct, rfl⟩ := Int.eq_ofNat_of_zero_le hctr.1
  have hct : ct < 4294967296 := by omega
  obtain ⟨hbx, hrun⟩ := boxed_start w key nonce hG hg0
  obtain ⟨n1, hn1⟩ : ∃ n1 : Int, n1 = if (1000 : Int) < n then 1000 else n := ⟨_, rfl⟩
  have HN1 := hide hn1
  have hn1k : n1 ≤ 1000 := by rw [hn1]; split <;> omega
  have HKC : Hid ((cellsB key).length = 32) := by show _ = _; rw [cellsB_length, hk]
  have HNC : Hid ((cellsB nonce).length = 12) := by show _ = _; rw [cellsB_length, hno]
  have HK0 := hide hk
  have HN0 := hide hno
  obtain ⟨ch, hch⟩ : ∃ ch, ch = chaL key ct nonce := ⟨_, rfl⟩
  obtain ⟨T, hT⟩ : ∃ T, T = streamL key nonce n1.toNat := ⟨_, rfl⟩
  have HCL : Hid (ch.length = 64) := by rw [hch]; exact chaL_length _ _ _
  have HCC : Hid ((cellsB ch).length = 64) := by show _ = _; rw [cellsB_length, HCL.out]
  have HBA : Hid (∀ W, CRun w W → Calls Tryd.prog 11 #[.agg (cellsB key).toArray, .int .u32 (ct : Int), .agg (cellsB nonce).toArray] W fun e w' => e = .returned (.agg (cellsB ch).toArray) ∧ Frm (fun _ => False) W w' ∧ CRun w w') := by rw [hch]; exact fun W hR => block_run w W key nonce ct hR hk hno hct
  have HRB : Hid (∀ W, Calls Tryd.prog 12 #[.string ⟨key.toArray⟩, .int .u32 (ct : Int), .string ⟨nonce.toArray⟩] W fun e w' => e = .returned (.string ⟨ch.toArray⟩) ∧ Below W.heap.size W w') := by rw [hch]; exact fun W => rblock_any key nonce ct W hk hno hct
  have HRS : Hid (∀ W, Calls Tryd.prog 14 #[.string ⟨key.toArray⟩, .string ⟨nonce.toArray⟩, .int .i64 n1] W fun e w' => e = .returned (.string ⟨T.toArray⟩) ∧ Below W.heap.size W w') := by rw [hT]; exact fun W => rstream_any key nonce n1 W hk hno hn1k
  have HSR : Hid (∀ W, CRun w W → Calls Tryd.prog 13 #[.agg (cellsB key).toArray, .agg (cellsB nonce).toArray, .int .i64 n1] W fun e w' => ∃ A N c, e = .returned (.slice A N c) ∧ Rds w' A N (cellsB T) ∧ Frm (fun _ => False) W w' ∧ CRun w w') := by
    intro W hR
    by_cases h0 : n1 < 0
    · refine (stream_neg key nonce n1 W h0).mono fun e w' ⟨he, hb⟩ => ⟨none, 0, 0, he, ?_, Frm.of_below hb, hR.frm0 (Frm.of_below hb)⟩
      have : T = [] := List.eq_nil_of_length_eq_zero (by rw [hT, streamL_length]; omega)
      rw [this]
      exact ⟨rfl, fun h => absurd h (by omega)⟩
    · obtain ⟨N, hN⟩ := Int.eq_ofNat_of_zero_le (show 0 ≤ n1 by omega)
      have hTN : T = streamL key nonce N := by rw [hT, hN]; rfl
      rw [hTN, hN]
      refine (stream_run w W key nonce N hR hk hno (by omega)).mono fun e w' ⟨g, he, hrow, _, hF, hR'⟩ => ⟨_, N, N, he, ?_, hF, hR'⟩
      have := hrow.rds
      rwa [streamL_length] at this
  have hsl64 : ∀ g w, Sem.run Tryd.prog (Instr.sliceAt 27 (.pointer (some ⟨g, 0, none⟩)) none none none) w = .ok (.slice (some ⟨g, 0, none⟩) 64 64) w := fun g w => run_slice_arr0 (P := Tryd.prog) (t := 27) (e := 5) (N := 64) under64b size8 g 0 (by omega) w
  have hslK := slK
  have hsl12 : ∀ g w, Sem.run Tryd.prog (Instr.sliceAt 25 (.pointer (some ⟨g, 0, none⟩)) none none none) w = .ok (.slice (some ⟨g, 0, none⟩) 12 12) w := fun g w => run_slice_arr0 (P := Tryd.prog) (t := 25) (e := 5) (N := 12) under12 size8 g 0 (by omega) w
  have HBX := hide hbx
  have HRUN := hide hrun
  have HZB : Hid ((cellsB (List.replicate 64 0)).toArray.size = 64) := rfl
  clear hbx hrun hk hno hT hG hch hn1 hctr hct
  go_enter Tryd.func3, Tryd.ntmps3
  go_wp2_with fail
  refine (cshown_run w _ HRUN.out).mono ?_
  rintro e w1 ⟨rfl, hF1, hR1⟩
  have hb1 := HBX.out.frm0 hF1
  obtain ⟨gn, hgn⟩ : ∃ gn, gn = w.heap.size + 1 := ⟨_, rfl⟩
  rw [← hgn] at hb1 ⊢
  obtain ⟨gk, hgk⟩ : ∃ gk, gk = w.heap.size := ⟨_, rfl⟩
  rw [← hgk] at hb1 ⊢
  clear hgk hgn HBX HRUN hF1
  have hbk := hb1.key
  have hbn := hb1.nonce
  go_wp2_with (first
    | (with_reducible refine wpl_min (op := ⟨some 13, _, _, _, _, _⟩) rfl _ _ _ _ rfl _ _ _ n1 rfl rfl HN1.out ?_)
    | (with_reducible refine wpl_loadg (op := ⟨some 14, _, _, _, _, _⟩) aggK _ rfl gk rfl _ _ hbk HKC.out rfl ?_)
    | (with_reducible refine wpl_loadg (op := ⟨some 16, _, _, _, _, _⟩) agg12 _ rfl gn rfl _ _ hbn HNC.out rfl ?_))
  refine (HBA.out w1 hR1).mono ?_
  rintro e w2 ⟨rfl, hF2, hR2⟩
  have hb2 := hb1.frm0 hF2
  clear hbk hbn HBA hb1 hR1 hF2
  go_wp2_with (first
    | ((with_reducible refine wpl_alloca (op := ⟨some 10, _, _, _, _, _⟩) rfl _ rfl _ zero64b ?_); intro g10 w3 hB3 hs3 hF3)
    | ((with_reducible refine wpl_storea agg64b rfl (.tmp 10) (.tmp 17) rfl g10 (cellsB ch) rfl rfl _ _ hB3 HCC.out HZB.out (cellsB_one _) ?_); intro w4 hB4 hF4))
  have H0 : TInv w gk gn g10 key nonce ch w4.drew := by
    have h1 := hb2.key.lt
    have h2 := hb2.nonce.lt
    have h3 := hR2.size
    have b3 := hb2.frm0 hF3
    have b4 := b3.frm hF4 (by omega) (by omega)
    exact TInv.frm0 ⟨b4.key, b4.nonce, hB4, (hR2.frm0 hF3).frm hF4 (fun i hi => by omega)⟩ ((Frm.refl _ _).drew)
  clear hb2 hR2 hB3 hF3 hB4 hF4 hs3
  refine wp_region_held_drew (S := TInv w gk gn g10 key nonce ch) (by kernel_rfl) H0 ?_
  intro hHeld
  obtain ⟨W0, hW0⟩ : ∃ W', W' = w4.drew := ⟨_, rfl⟩
  rw [← hW0] at H0 hHeld ⊢
  clear hW0
  refine wpAnyH_take (i := 0) (v := ?v1) rfl (by kernel_rfl) (by kernel_rfl) (by kernel_rfl) (fun _ _ _ h => h) (Or.inl ⟨by rfl, ?hy1⟩) (by assumption) ?rest1
  case hy1 => (intro w hSw; (try dsimp only at hSw); go_simp; try with_reducible rfl)
  try simp only [Act.put, List.getElem_toArray, List.getElem_cons_zero, List.setIfInBounds_toArray, List.set_cons_zero, List.set_cons_succ]
  refine wpAnyH_take (i := 1) (v := ?v2) rfl (by kernel_rfl) (by kernel_rfl) (by kernel_rfl) (fun _ _ _ h => h) (Or.inl ⟨by rfl, ?hy2⟩) (by assumption) ?rest2
  case hy2 => (intro w hSw; (try dsimp only at hSw); go_simp; try with_reducible rfl)
  try simp only [Act.put, List.getElem_toArray, List.getElem_cons_zero, List.getElem_cons_succ, List.setIfInBounds_toArray, List.set_cons_zero, List.set_cons_succ]
  refine wpAnyH_take (i := 2) (v := ?v3) rfl (by kernel_rfl) (by kernel_rfl) (by kernel_rfl) (fun _ _ _ h => h) (Or.inl ⟨by rfl, ?hy3⟩) (by assumption) ?rest3
  case hy3 => (intro w hSw; (try dsimp only at hSw); go_simp; try with_reducible rfl)
  try simp only [Act.put, List.getElem_toArray, List.getElem_cons_zero, List.getElem_cons_succ, List.setIfInBounds_toArray, List.set_cons_zero, List.set_cons_succ]
  refine wpAnyH_take (i := 3) (v := ?v4) rfl (by kernel_rfl) (by kernel_rfl) (by kernel_rfl) (fun _ _ _ h => h) (Or.inl ⟨by rfl, ?hy4⟩) (by assumption) ?rest4
  case hy4 => (intro w hSw; refine held_conv (.tmp 20) ?_ g10 64 64 ?_ ch ch _ hSw.blk (by rw [HCL.out]; exact Nat.le_refl _) (List.take_of_length_le (by rw [HCL.out]; exact Nat.le_refl _)) <;> rfl)
  try simp only [Act.put, List.getElem_toArray, List.getElem_cons_zero, List.getElem_cons_succ, List.setIfInBounds_toArray, List.set_cons_zero, List.set_cons_succ]
  refine wpAnyH_take (i := 4) (v := ?v5) rfl (by kernel_rfl) (by kernel_rfl) (by kernel_rfl) (fun _ _ _ h => h) (Or.inl ⟨by rfl, ?hy5⟩) (by assumption) ?rest5
  case hy5 => (intro w hSw; (try dsimp only at hSw); go_simp; try with_reducible rfl)
  try simp only [Act.put, List.getElem_toArray, List.getElem_cons_zero, List.getElem_cons_succ, List.setIfInBounds_toArray, List.set_cons_zero, List.set_cons_succ]
  refine wpAnyH_take (i := 5) (v := ?v6) rfl (by kernel_rfl) (by kernel_rfl) (by kernel_rfl) (fun _ _ _ h => h) (Or.inl ⟨by rfl, ?hy6⟩) (by assumption) ?rest6
  case hy6 => (intro w hSw; refine held_conv (.tmp 22) ?_ gk 32 32 ?_ key key _ hSw.key (by rw [HK0.out]; exact Nat.le_refl _) (List.take_of_length_le (by rw [HK0.out]; exact Nat.le_refl _)) <;> rfl)
  try simp only [Act.put, List.getElem_toArray, List.getElem_cons_zero, List.getElem_cons_succ, List.setIfInBounds_toArray, List.set_cons_zero, List.set_cons_succ]
  refine wpAnyH_take (i := 6) (v := ?v7) rfl (by kernel_rfl) (by kernel_rfl) (by kernel_rfl) (fun _ _ _ h => h) (Or.inl ⟨by rfl, ?hy7⟩) (by assumption) ?rest7
  case hy7 => (intro w hSw; (try dsimp only at hSw); go_simp; try with_reducible rfl)
  try simp only [Act.put, List.getElem_toArray, List.getElem_cons_zero, List.getElem_cons_succ, List.setIfInBounds_toArray, List.set_cons_zero, List.set_cons_succ]
  refine wpAnyH_take (i := 7) (v := ?v8) rfl (by kernel_rfl) (by kernel_rfl) (by kernel_rfl) (fun _ _ _ h => h) (Or.inl ⟨by rfl, ?hy8⟩) (by assumption) ?rest8
  case hy8 => (intro w hSw; (try dsimp only at hSw); go_simp; try with_reducible rfl)
  try simp only [Act.put, List.getElem_toArray, List.getElem_cons_zero, List.getElem_cons_succ, List.setIfInBounds_toArray, List.set_cons_zero, List.set_cons_succ]
  refine wpAnyH_take (i := 8) (v := ?v9) rfl (by kernel_rfl) (by kernel_rfl) (by kernel_rfl) (fun _ _ _ h => h) (Or.inl ⟨by rfl, ?hy9⟩) (by assumption) ?rest9
  case hy9 => (intro w hSw; refine held_conv (.tmp 25) ?_ gn 12 12 ?_ nonce nonce _ hSw.nonce (by rw [HN0.out]; exact Nat.le_refl _) (List.take_of_length_le (by rw [HN0.out]; exact Nat.le_refl _)) <;> rfl)
  try simp only [Act.put, List.getElem_toArray, List.getElem_cons_zero, List.getElem_cons_succ, List.setIfInBounds_toArray, List.set_cons_zero, List.set_cons_succ]
  refine wpAnyH_ready (rs := [9]) (by kernel_rfl) (by simp) ?_
  refine AllReadyH.cons rfl (fun K hK => ?_) AllReadyH.nil
  go_simp
  refine (HRB.out W0).mono ?_
  rintro e W1 ⟨rfl, hb1⟩
  have H1 := H0.frm0 (Frm.of_below hb1)
  refine hK.out _ _ (H1) (fun hHeld => ?_)
  clear hK K
  try simp only [Act.put, List.getElem_toArray, List.getElem_cons_zero, List.getElem_cons_succ, List.setIfInBounds_toArray, List.set_cons_zero, List.set_cons_succ]
  refine wpAnyH_take (i := 10) (v := ?v10) rfl (by kernel_rfl) (by kernel_rfl) (by kernel_rfl) (fun _ _ _ h => h) (Or.inl ⟨by rfl, ?hy10⟩) (by assumption) ?rest10
  case hy10 => (intro w hSw; (try dsimp only at hSw); go_simp; try with_reducible rfl)
  try simp only [Act.put, List.getElem_toArray, List.getElem_cons_zero, List.getElem_cons_succ, List.setIfInBounds_toArray, List.set_cons_zero, List.set_cons_succ]
  refine wpAnyH_take (i := 11) (v := ?v11) rfl (by kernel_rfl) (by kernel_rfl) (by kernel_rfl) (fun _ _ _ h => h) (Or.inl ⟨by rfl, ?hy11⟩) (by assumption) ?rest11
  case hy11 => (intro w hSw; (try dsimp only at hSw); go_simp; try with_reducible rfl)
  try simp only [Act.put, List.getElem_toArray, List.getElem_cons_zero, List.getElem_cons_succ, List.setIfInBounds_toArray, List.set_cons_zero, List.set_cons_succ]
  refine wpAnyH_take (i := 12) (v := ?v12) rfl (by kernel_rfl) (by kernel_rfl) (by kernel_rfl) (fun _ _ _ h => h) (Or.inl ⟨by rfl, ?hy12⟩) (by assumption) ?rest12
  case hy12 => (intro w hSw; (try dsimp only at hSw); go_simp; try with_reducible rfl)
  try simp only [Act.put, List.getElem_toArray, List.getElem_cons_zero, List.getElem_cons_succ, List.setIfInBounds_toArray, List.set_cons_zero, List.set_cons_succ]
  refine wpAnyH_take (i := 13) (v := ?v13) rfl (by kernel_rfl) (by kernel_rfl) (by kernel_rfl) (fun _ _ _ h => h) (Or.inl ⟨by rfl, ?hy13⟩) (by assumption) ?rest13
  case hy13 => (intro w hSw; refine held_loadG aggK (.tmp 4) ?_ gk ?_ key HK0.out _ hSw.key <;> rfl)
  try simp only [Act.put, List.getElem_toArray, List.getElem_cons_zero, List.getElem_cons_succ, List.setIfInBounds_toArray, List.set_cons_zero, List.set_cons_succ]
  refine wpAnyH_take (i := 14) (v := ?v14) rfl (by kernel_rfl) (by kernel_rfl) (by kernel_rfl) (fun _ _ _ h => h) (Or.inl ⟨by rfl, ?hy14⟩) (by assumption) ?rest14
  case hy14 => (intro w hSw; refine held_loadG agg12 (.tmp 6) ?_ gn ?_ nonce HN0.out _ hSw.nonce <;> rfl)
  try simp only [Act.put, List.getElem_toArray, List.getElem_cons_zero, List.getElem_cons_succ, List.setIfInBounds_toArray, List.set_cons_zero, List.set_cons_succ]
  refine wpAnyH_take (i := 15) (v := ?v15) rfl (by kernel_rfl) (by kernel_rfl) (by kernel_rfl) (fun _ _ _ h => h) (Or.inl ⟨by rfl, ?hy15⟩) (by assumption) ?rest15
  case hy15 => (intro w hSw; (try dsimp only at hSw); go_simp; try with_reducible rfl)
  try simp only [Act.put, List.getElem_toArray, List.getElem_cons_zero, List.getElem_cons_succ, List.setIfInBounds_toArray, List.set_cons_zero, List.set_cons_succ]
  refine wpAnyH_take (i := 18) (v := ?v16) rfl (by kernel_rfl) (by kernel_rfl) (by kernel_rfl) (fun _ _ _ h => h) (Or.inl ⟨by rfl, ?hy16⟩) (by assumption) ?rest16
  case hy16 => (intro w hSw; (try dsimp only at hSw); go_simp; try with_reducible rfl)
  try simp only [Act.put, List.getElem_toArray, List.getElem_cons_zero, List.getElem_cons_succ, List.setIfInBounds_toArray, List.set_cons_zero, List.set_cons_succ]
  refine wpAnyH_take (i := 19) (v := ?v17) rfl (by kernel_rfl) (by kernel_rfl) (by kernel_rfl) (fun _ _ _ h => h) (Or.inl ⟨by rfl, ?hy17⟩) (by assumption) ?rest17
  case hy17 => (intro w hSw; refine held_conv (.tmp 36) ?_ gk 32 32 ?_ key key _ hSw.key (by rw [HK0.out]; exact Nat.le_refl _) (List.take_of_length_le (by rw [HK0.out]; exact Nat.le_refl _)) <;> rfl)
  try simp only [Act.put, List.getElem_toArray, List.getElem_cons_zero, List.getElem_cons_succ, List.setIfInBounds_toArray, List.set_cons_zero, List.set_cons_succ]
  refine wpAnyH_take (i := 20) (v := ?v18) rfl (by kernel_rfl) (by kernel_rfl) (by kernel_rfl) (fun _ _ _ h => h) (Or.inl ⟨by rfl, ?hy18⟩) (by assumption) ?rest18
  case hy18 => (intro w hSw; (try dsimp only at hSw); go_simp; try with_reducible rfl)
  try simp only [Act.put, List.getElem_toArray, List.getElem_cons_zero, List.getElem_cons_succ, List.setIfInBounds_toArray, List.set_cons_zero, List.set_cons_succ]
  refine wpAnyH_take (i := 21) (v := ?v19) rfl (by kernel_rfl) (by kernel_rfl) (by kernel_rfl) (fun _ _ _ h => h) (Or.inl ⟨by rfl, ?hy19⟩) (by assumption) ?rest19
  case hy19 => (intro w hSw; refine held_conv (.tmp 38) ?_ gn 12 12 ?_ nonce nonce _ hSw.nonce (by rw [HN0.out]; exact Nat.le_refl _) (List.take_of_length_le (by rw [HN0.out]; exact Nat.le_refl _)) <;> rfl)
  try simp only [Act.put, List.getElem_toArray, List.getElem_cons_zero, List.getElem_cons_succ, List.setIfInBounds_toArray, List.set_cons_zero, List.set_cons_succ]
  refine wpAnyH_take (i := 22) (v := ?v20) rfl (by kernel_rfl) (by kernel_rfl) (by kernel_rfl) (fun _ _ _ h => h) (Or.inl ⟨by rfl, ?hy20⟩) (by assumption) ?rest20
  case hy20 => (intro w hSw; (try dsimp only at hSw); go_simp; try with_reducible rfl)
  try simp only [Act.put, List.getElem_toArray, List.getElem_cons_zero, List.getElem_cons_succ, List.setIfInBounds_toArray, List.set_cons_zero, List.set_cons_succ]
  refine wpAnyH_ready (rs := [16]) (by kernel_rfl) (by simp) ?_
  refine AllReadyH.cons rfl (fun K hK => ?_) AllReadyH.nil
  go_simp
  refine (HSR.out W1 H1.run).mono ?_
  rintro e W2 ⟨A, N, c, rfl, rd, F2, R2⟩
  have H2 := H1.frm0 F2
  refine hK.out _ _ (H2) (fun hHeld => ?_)
  clear hK K
  try simp only [Act.put, List.getElem_toArray, List.getElem_cons_zero, List.getElem_cons_succ, List.setIfInBounds_toArray, List.set_cons_zero, List.set_cons_succ]
  have cv2 := rd.conv c
  refine wpAnyH_ready (rs := [17, 23]) (by kernel_rfl) (by simp) ?_
  refine AllReadyH.cons rfl (fun K hK => ?_) ?_
  · go_simp
    refine hK.out _ _ (H2) (fun hHeld => ?_)
    clear hK K
    try simp only [Act.put, List.getElem_toArray, List.getElem_cons_zero, List.getElem_cons_succ, List.setIfInBounds_toArray, List.set_cons_zero, List.set_cons_succ]
    refine wpAnyH_ready (rs := [23]) (by kernel_rfl) (by simp) ?_
    refine AllReadyH.cons rfl (fun K hK => ?_) AllReadyH.nil
    go_simp
    refine (HRS.out W2).mono ?_
    rintro e W3 ⟨rfl, hb3⟩
    have F3 : Frm (fun _ => False) W2 W3 := Frm.of_below hb3
    have H3 := H2.frm0 F3
    have rd3 := rd.frm F3 (fun _ _ _ h => h)
    refine hK.out _ _ (H3) (fun hHeld => ?_)
    clear hK K
    try simp only [Act.put, List.getElem_toArray, List.getElem_cons_zero, List.getElem_cons_succ, List.setIfInBounds_toArray, List.set_cons_zero, List.set_cons_succ]
    refine wpAnyH_take (i := 24) (v := ?v21) rfl (by kernel_rfl) (by kernel_rfl) (by kernel_rfl) (fun _ _ _ h => h) (Or.inl ⟨by rfl, ?hy21⟩) (by assumption) ?rest21
    case hy21 => (intro w hSw; (try dsimp only at hSw); go_simp; try with_reducible rfl)
    try simp only [Act.put, List.getElem_toArray, List.getElem_cons_zero, List.getElem_cons_succ, List.setIfInBounds_toArray, List.set_cons_zero, List.set_cons_succ]
    refine wpAnyH_take (i := 25) (v := ?v22) rfl (by kernel_rfl) (by kernel_rfl) (by kernel_rfl) (fun _ _ _ h => h) (Or.inl ⟨by rfl, ?hy22⟩) (by assumption) ?rest22
    case hy22 => (intro w hSw; (try dsimp only at hSw); go_simp; try with_reducible rfl)
    try simp only [Act.put, List.getElem_toArray, List.getElem_cons_zero, List.getElem_cons_succ, List.setIfInBounds_toArray, List.set_cons_zero, List.set_cons_succ]
    refine wpAnyH_take (i := 26) (v := ?v23) rfl (by kernel_rfl) (by kernel_rfl) (by kernel_rfl) (fun _ _ _ h => h) (Or.inl ⟨by rfl, ?hy23⟩) (by assumption) ?rest23
    case hy23 => (intro w hSw; (try dsimp only at hSw); go_simp; try with_reducible rfl)
    try simp only [Act.put, List.getElem_toArray, List.getElem_cons_zero, List.getElem_cons_succ, List.setIfInBounds_toArray, List.set_cons_zero, List.set_cons_succ]
    refine wpAnyH_done (by kernel_rfl) ?_ _
    go_wp2
    go_ret
    exact ⟨rfl, H3.run.below⟩
  refine AllReadyH.cons rfl (fun K hK => ?_) AllReadyH.nil
  go_simp
  refine (HRS.out W2).mono ?_
  rintro e W3 ⟨rfl, hb3⟩
  have F3 : Frm (fun _ => False) W2 W3 := Frm.of_below hb3
  have H3 := H2.frm0 F3
  have rd3 := rd.frm F3 (fun _ _ _ h => h)
  refine hK.out _ _ (H3) (fun hHeld => ?_)
  clear hK K
  try simp only [Act.put, List.getElem_toArray, List.getElem_cons_zero, List.getElem_cons_succ, List.setIfInBounds_toArray, List.set_cons_zero, List.set_cons_succ]
  have cv3 := rd3.conv c
  refine wpAnyH_ready (rs := [17]) (by kernel_rfl) (by simp) ?_
  refine AllReadyH.cons rfl (fun K hK => ?_) AllReadyH.nil
  go_simp
  refine hK.out _ _ (H3) (fun hHeld => ?_)
  clear hK K
  try simp only [Act.put, List.getElem_toArray, List.getElem_cons_zero, List.getElem_cons_succ, List.setIfInBounds_toArray, List.set_cons_zero, List.set_cons_succ]
  refine wpAnyH_take (i := 24) (v := ?v24) rfl (by kernel_rfl) (by kernel_rfl) (by kernel_rfl) (fun _ _ _ h => h) (Or.inl ⟨by rfl, ?hy24⟩) (by assumption) ?rest24
  case hy24 => (intro w hSw; (try dsimp only at hSw); go_simp; try with_reducible rfl)
  try simp only [Act.put, List.getElem_toArray, List.getElem_cons_zero, List.getElem_cons_succ, List.setIfInBounds_toArray, List.set_cons_zero, List.set_cons_succ]
  refine wpAnyH_take (i := 25) (v := ?v25) rfl (by kernel_rfl) (by kernel_rfl) (by kernel_rfl) (fun _ _ _ h => h) (Or.inl ⟨by rfl, ?hy25⟩) (by assumption) ?rest25
  case hy25 => (intro w hSw; (try dsimp only at hSw); go_simp; try with_reducible rfl)
  try simp only [Act.put, List.getElem_toArray, List.getElem_cons_zero, List.getElem_cons_succ, List.setIfInBounds_toArray, List.set_cons_zero, List.set_cons_succ]
  refine wpAnyH_take (i := 26) (v := ?v26) rfl (by kernel_rfl) (by kernel_rfl) (by kernel_rfl) (fun _ _ _ h => h) (Or.inl ⟨by rfl, ?hy26⟩) (by assumption) ?rest26
  case hy26 => (intro w hSw; (try dsimp only at hSw); go_simp; try with_reducible rfl)
  try simp only [Act.put, List.getElem_toArray, List.getElem_cons_zero, List.getElem_cons_succ, List.setIfInBounds_toArray, List.set_cons_zero, List.set_cons_succ]
  refine wpAnyH_done (by kernel_rfl) ?_ _
  go_wp2
  go_ret
  exact ⟨rfl, H3.run.below⟩
end Go.Proofs.YtjdffceeinflcaaDoor
