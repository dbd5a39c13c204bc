/-
  The document's keys of keys.
-/
import Derived.Test.YtbicjcpdcopbhaaDoorRHm
import Derived.Test.YtbicjcpdcopbhaaDoorJoined
namespace Go.Proofs.YtbicjcpdcopbhaaDoor
set_option linter.unusedVariables false
set_option linter.unusedSimpArgs false
open Go.RowKit

theorem measured_take (lab : List UInt8) (ps : List (List UInt8)) (k : Nat) (h : k < ps.length) : (measured (lab :: ps.take (k + 1))).flatten = (measured (lab :: ps.take k)).flatten ++ be 4 (ps.getD k []).length ++ ps.getD k [] := by
  have h1 : lab :: ps.take (k + 1) = (lab :: ps.take k) ++ [ps.getD k []] := by
    rw [List.take_succ_eq_append_getElem h, List.getD_eq_getElem?_getD, List.getElem?_eq_getElem h]
    rfl
  rw [h1, measured_snoc, List.flatten_append]
  simp
theorem measured_le (lab : List UInt8) (ps : List (List UInt8)) (k : Nat) : (measured (lab :: ps.take k)).flatten.length ≤ (measured (lab :: ps)).flatten.length := by
  rw [measured_flat, measured_flat]
  have h := flat_le ps k
  simp only [List.length_cons, List.flatten_cons, List.length_append, List.length_take]
  omega

set_option maxHeartbeats 8000000 in
set_option maxRecDepth 100000 in
theorem rderive_any (key lab : List UInt8) (TA : Option Addr) (tc : Nat) (ps : List (List UInt8)) (w : World) (hrow : Rds w TA ps.length (ps.map strV)) (hk : key.length ≤ 100000) (hl : (measured (lab :: ps)).flatten.length ≤ 50000) :
    Calls Tryd.prog 32 #[.string ⟨key.toArray⟩, .string ⟨lab.toArray⟩, .slice TA ps.length tc] w fun e w' => e = .returned (.string ⟨(deriveL key lab ps).toArray⟩) ∧ Below w.heap.size w w' := by
  have HROW := hide hrow
  obtain ⟨N, hN⟩ : ∃ n, n = ps.length := ⟨_, rfl⟩
  have HN := hide hN
  rw [← hN]
  obtain ⟨nl, hnl⟩ : ∃ n, n = lab.length := ⟨_, rfl⟩
  have z1 : (⟨lab.toArray⟩ : ByteArray).size = nl := by rw [txt_size, hnl]
  have z2 : lab.toArray.size = nl := by rw [hnl]; simp
  have z3 : lab.length = nl := hnl.symm
  have HML := hide (fun k => Nat.le_trans (measured_le lab ps k) hl)
  have hnl2 : nl ≤ 50000 := by
    have h1 : (measured (lab :: ps)).flatten.length = 4 * (lab :: ps).length + (lab :: ps).flatten.length := measured_flat _
    rw [List.flatten_cons, List.length_append, z3] at h1
    omega
  have hN2 : N ≤ 50000 := by
    have h1 : (measured (lab :: ps)).flatten.length = 4 * (lab :: ps).length + (lab :: ps).flatten.length := measured_flat _
    rw [List.length_cons, ← hN] at h1
    omega
  have e1 : IntKind.u64.wrap (nl : Int) = (nl : Int) := by rw [IntKind.wrap_u64]; omega
  have HM0 : Hid (be 4 nl ++ lab = (measured (lab :: ps.take 0)).flatten) := by show _ = _; rw [← z3]; simp [measured]
  have ap0 := txt_append (be 4 nl) lab
  rw [HM0.out] at ap0
  have zb : (⟨(be 4 nl).toArray⟩ : ByteArray).size = 4 := by rw [txt_size, be_length]
  have zb2 : (be 4 nl).length = 4 := be_length _ _
  have HT0 := hide (text_any nl 4 w (by omega) (by omega))
  clear hnl hN hrow hl
  go_enter Tryd.func32, Tryd.ntmps32
  go_wp2_with fail
  refine HT0.out.mono ?_
  rintro e w1 ⟨rfl, hb1⟩
  clear HT0
  generalize hBL : (⟨lab.toArray⟩ : ByteArray) = BL at *
  generalize hBT : (⟨(be 4 nl).toArray⟩ : ByteArray) = BT at *
  go_wp2_with fail
  clear ap0 zb zb2 e1 z1 z2 z3 hBT hBL
  go_loopw [7, 8] (fun s i wr => ∃ k : Nat, k ≤ N ∧ i = .int .i64 k ∧ s = .string ⟨((measured (lab :: ps.take k)).flatten).toArray⟩ ∧ Below w.heap.size w wr) (fun _ i _ => N - (intOf i).toNat)
  case atStart => exact ⟨0, by omega, rfl, rfl, hb1⟩
  case round =>
    clear hb1
    obtain ⟨k, hk', rfl, rfl, hbel⟩ := hrel
    by_cases hlt : k < N
    · have hkl : k < ps.length := by rw [← HN.out]; exact hlt
      obtain ⟨ta, rfl, hcell⟩ := HROW.out.2 (by omega)
      have hc0 := hcell k (strV (ps.getD k [])) (by rw [List.getElem?_map, List.getElem?_eq_getElem hkl, List.getD_eq_getElem?_getD, List.getElem?_eq_getElem hkl]; rfl)
      have hc1 : wr.cell? (ta.add k) = some (.string ⟨(ps.getD k []).toArray⟩) := by rw [hbel.cell (World.block_lt_of_cell? w _ hc0)]; exact hc0
      have hft := measured_take lab ps k hkl
      have hle := HML.out (k + 1)
      rw [hft, List.length_append, List.length_append, be_length] at hle
      obtain ⟨np, hnp⟩ : ∃ np, np = (ps.getD k []).length := ⟨_, rfl⟩
      have e1 : IntKind.u64.wrap (np : Int) = (np : Int) := by rw [IntKind.wrap_u64]; omega
      have HTX := hide (fun W => text_any np 4 W (by omega) (by omega))
      have ap1 := txt_append ((measured (lab :: ps.take k)).flatten) (be 4 np)
      have ap2 := txt_append ((measured (lab :: ps.take k)).flatten ++ be 4 np) (ps.getD k [])
      have hz0 : (⟨((measured (lab :: ps.take k)).flatten).toArray⟩ : ByteArray).size ≤ 50000 := by rw [txt_size]; omega
      have hz1 : (⟨((measured (lab :: ps.take k)).flatten ++ be 4 np).toArray⟩ : ByteArray).size ≤ 50010 := by rw [txt_size, List.length_append, be_length]; omega
      have hz2 : (⟨(be 4 np).toArray⟩ : ByteArray).size = 4 := by rw [txt_size, be_length]
      have hz3 : (⟨(ps.getD k []).toArray⟩ : ByteArray).size = np := by rw [txt_size, hnp]
      have hnp2 : np ≤ 50000 := by omega
      rw [hnp] at ap2
      rw [← hft] at ap2
      rw [← hnp] at ap2
      have HC0 : Hid (wr.drew.cell? (ta.add k) = some (.string ⟨(ps.getD k []).toArray⟩)) := hc1
      have HB0 : Hid (Below w.heap.size w wr.drew) := ⟨hbel.os, hbel.tape, hbel.output, hbel.size, hbel.block⟩
      have hpb : (ta.add k).block < w.heap.size := World.block_lt_of_cell? w _ hc0
      have hki : (k : Int) < (N : Int) := by omega
      clear hft hle hnp hc0 hc1 hcell hbel
      generalize (⟨(ps.getD k []).toArray⟩ : ByteArray) = Bp at *
      generalize (⟨((measured (lab :: ps.take k)).flatten ++ be 4 np).toArray⟩ : ByteArray) = B1 at *
      generalize (⟨((measured (lab :: ps.take k)).flatten).toArray⟩ : ByteArray) = B0 at *
      generalize (⟨(be 4 np).toArray⟩ : ByteArray) = Bt at *
      generalize hB2 : (⟨((measured (lab :: ps.take (k + 1))).flatten).toArray⟩ : ByteArray) = B2 at *
      have HB2 := hide hB2
      have hq1 : ¬ (9223372036854775807 < B0.size + 4) := by omega
      have hq2 : ¬ (9223372036854775807 < B1.size + np) := by omega
      clear hB2
      go_wp2_with fail
      refine wp_region_held_drew (S := fun W => W.cell? (ta.add k) = some (.string Bp)) (by kernel_rfl) (HC0.out) ?_
      intro hHeld
      obtain ⟨W0, hW0⟩ : ∃ W0, W0 = wr.drew := ⟨_, rfl⟩
      rw [← hW0] at HC0 HB0 hHeld ⊢
      clear hW0
      refine wpAnyH_take (i := 0) (v := ?v1) rfl (by kernel_rfl) (by kernel_rfl) (by kernel_rfl) (fun _ _ _ h => h) (Or.inl ⟨by rfl, ?hy1⟩) (by assumption) ?rest1
      case hy1 => (intro w hSw; (try dsimp only at hSw); go_simp; try with_reducible rfl)
      try simp only [Act.put, List.getElem_toArray, List.getElem_cons_zero, List.setIfInBounds_toArray, List.set_cons_zero, List.set_cons_succ]
      refine wpAnyH_take (i := 1) (v := ?v2) rfl (by kernel_rfl) (by kernel_rfl) (by kernel_rfl) (fun _ _ _ h => h) (Or.inl ⟨by rfl, ?hy2⟩) (by assumption) ?rest2
      case hy2 => (intro w hSw; (try dsimp only at hSw); go_simp; try with_reducible rfl)
      try simp only [Act.put, List.getElem_toArray, List.getElem_cons_zero, List.getElem_cons_succ, List.setIfInBounds_toArray, List.set_cons_zero, List.set_cons_succ]
      refine wpAnyH_take (i := 2) (v := ?v3) rfl (by kernel_rfl) (by kernel_rfl) (by kernel_rfl) (fun _ _ _ h => h) (Or.inl ⟨by rfl, ?hy3⟩) (by assumption) ?rest3
      case hy3 => (intro w hSw; (try dsimp only at hSw); go_simp; try with_reducible rfl)
      try simp only [Act.put, List.getElem_toArray, List.getElem_cons_zero, List.getElem_cons_succ, List.setIfInBounds_toArray, List.set_cons_zero, List.set_cons_succ]
      refine wpAnyH_take (i := 3) (v := ?v4) rfl (by kernel_rfl) (by kernel_rfl) (by kernel_rfl) (fun _ _ _ h => h) (Or.inl ⟨by rfl, ?hy4⟩) (by assumption) ?rest4
      case hy4 => (intro w hSw; (try dsimp only at hSw); go_simp; try with_reducible rfl)
      try simp only [Act.put, List.getElem_toArray, List.getElem_cons_zero, List.getElem_cons_succ, List.setIfInBounds_toArray, List.set_cons_zero, List.set_cons_succ]
      refine wpAnyH_take (i := 4) (v := ?v5) rfl (by kernel_rfl) (by kernel_rfl) (by kernel_rfl) (fun _ _ _ h => h) (Or.inl ⟨by rfl, ?hy5⟩) (by assumption) ?rest5
      case hy5 => (intro w hSw; (try dsimp only at hSw); go_simp; try with_reducible rfl)
      try simp only [Act.put, List.getElem_toArray, List.getElem_cons_zero, List.getElem_cons_succ, List.setIfInBounds_toArray, List.set_cons_zero, List.set_cons_succ]
      refine wpAnyH_take (i := 5) (v := ?v6) rfl (by kernel_rfl) (by kernel_rfl) (by kernel_rfl) (fun _ _ _ h => h) (Or.inl ⟨by rfl, ?hy6⟩) (by assumption) ?rest6
      case hy6 => (intro w hSw; (try dsimp only at hSw); go_simp; try with_reducible rfl)
      try simp only [Act.put, List.getElem_toArray, List.getElem_cons_zero, List.getElem_cons_succ, List.setIfInBounds_toArray, List.set_cons_zero, List.set_cons_succ]
      refine wpAnyH_take (i := 6) (v := ?v7) rfl (by kernel_rfl) (by kernel_rfl) (by kernel_rfl) (fun _ _ _ h => h) (Or.inl ⟨by rfl, ?hy7⟩) (by assumption) ?rest7
      case hy7 => (intro w hSw; (try dsimp only at hSw); go_simp; try with_reducible rfl)
      try simp only [Act.put, List.getElem_toArray, List.getElem_cons_zero, List.getElem_cons_succ, List.setIfInBounds_toArray, List.set_cons_zero, List.set_cons_succ]
      refine wpAnyH_take (i := 9) (v := ?v8) rfl (by kernel_rfl) (by kernel_rfl) (by kernel_rfl) (fun _ _ _ h => h) (Or.inl ⟨by rfl, ?hy8⟩) (by assumption) ?rest8
      case hy8 => (intro w hSw; (try dsimp only at hSw); go_simp; try with_reducible rfl)
      try simp only [Act.put, List.getElem_toArray, List.getElem_cons_zero, List.getElem_cons_succ, List.setIfInBounds_toArray, List.set_cons_zero, List.set_cons_succ]
      refine wpAnyH_take (i := 10) (v := ?v9) rfl (by kernel_rfl) (by kernel_rfl) (by kernel_rfl) (fun _ _ _ h => h) (Or.inl ⟨by rfl, ?hy9⟩) (by assumption) ?rest9
      case hy9 => (intro w hSw; (try dsimp only at hSw); go_simp; try with_reducible rfl)
      try simp only [Act.put, List.getElem_toArray, List.getElem_cons_zero, List.getElem_cons_succ, List.setIfInBounds_toArray, List.set_cons_zero, List.set_cons_succ]
      refine wpAnyH_take (i := 11) (v := ?v10) rfl (by kernel_rfl) (by kernel_rfl) (by kernel_rfl) (fun _ _ _ h => h) (Or.inl ⟨by rfl, ?hy10⟩) (by assumption) ?rest10
      case hy10 => (intro w hSw; (try dsimp only at hSw); go_simp; try with_reducible rfl)
      try simp only [Act.put, List.getElem_toArray, List.getElem_cons_zero, List.getElem_cons_succ, List.setIfInBounds_toArray, List.set_cons_zero, List.set_cons_succ]
      refine wpAnyH_take (i := 12) (v := ?v11) rfl (by kernel_rfl) (by kernel_rfl) (by kernel_rfl) (fun _ _ _ h => h) (Or.inl ⟨by rfl, ?hy11⟩) (by assumption) ?rest11
      case hy11 => (intro w hSw; (try dsimp only at hSw); go_simp; try with_reducible rfl)
      try simp only [Act.put, List.getElem_toArray, List.getElem_cons_zero, List.getElem_cons_succ, List.setIfInBounds_toArray, List.set_cons_zero, List.set_cons_succ]
      refine wpAnyH_ready (rs := [7]) (by kernel_rfl) (by simp) ?_
      refine AllReadyH.cons rfl (fun K hK => ?_) AllReadyH.nil
      go_simp
      refine (HTX.out _).mono ?_
      rintro e W1 ⟨rfl, hb1⟩
      have HC1 := hide (show W1.cell? (ta.add k) = some (.string Bp) by rw [hb1.cell (World.block_lt_of_cell? _ _ HC0.out)]; exact HC0.out)
      have HB1 := hide (HB0.out.trans (hb1.mono HB0.out.size))
      clear hb1
      refine hK.out _ _ (HC1.out) (fun hHeld => ?_)
      clear hK K
      refine wpAnyH_take (i := 8) (v := ?v12) rfl (by kernel_rfl) (by kernel_rfl) (by kernel_rfl) (fun _ _ _ h => h) (Or.inl ⟨by rfl, ?hy12⟩) (by assumption) ?rest12
      case hy12 => (intro w hSw; (try dsimp only at hSw); go_simp; try with_reducible rfl)
      try simp only [Act.put, List.getElem_toArray, List.getElem_cons_zero, List.getElem_cons_succ, List.setIfInBounds_toArray, List.set_cons_zero, List.set_cons_succ]
      refine wpAnyH_take (i := 13) (v := ?v13) rfl (by kernel_rfl) (by kernel_rfl) (by kernel_rfl) (fun _ _ _ h => h) (Or.inl ⟨by rfl, ?hy13⟩) (by assumption) ?rest13
      case hy13 => (intro w hSw; (try dsimp only at hSw); go_simp; try with_reducible rfl)
      try simp only [Act.put, List.getElem_toArray, List.getElem_cons_zero, List.getElem_cons_succ, List.setIfInBounds_toArray, List.set_cons_zero, List.set_cons_succ]
      refine wpAnyH_take (i := 14) (v := ?v14) rfl (by kernel_rfl) (by kernel_rfl) (by kernel_rfl) (fun _ _ _ h => h) (Or.inl ⟨by rfl, ?hy14⟩) (by assumption) ?rest14
      case hy14 => (intro w hSw; (try dsimp only at hSw); go_simp; try with_reducible rfl)
      try simp only [Act.put, List.getElem_toArray, List.getElem_cons_zero, List.getElem_cons_succ, List.setIfInBounds_toArray, List.set_cons_zero, List.set_cons_succ]
      refine wpAnyH_done (by kernel_rfl) ?_ _
      go_wp2_with fail
      go_roundw
      case rel => first | exact ⟨k + 1, by omega, by go_num, by rw [HB2.out], HB1.out⟩ | ((repeat apply Exists.intro); exact ⟨⟨k + 1, by omega, by go_num, by rw [HB2.out], HB1.out⟩, rfl⟩)
      case measure => simp [intOf]; omega
    · obtain rfl : k = N := by omega
      have hall : ps.take k = ps := List.take_of_length_le (by rw [← HN.out]; exact Nat.le_refl _)
      rw [hall]
      have hmm := hide (rmac_any key (measured (lab :: ps)).flatten wr hk (by have := HML.out k; rw [hall] at this; exact this))
      have HDE : Hid (deriveL key lab ps = macL key (measured (lab :: ps)).flatten) := rfl
      clear hall
      go_wp2_with fail
      refine hmm.out.mono ?_
      rintro e w5 ⟨rfl, hb5⟩
      go_wp2_with fail
      go_ret
      exact ⟨by rw [HDE.out]; rfl, hbel.trans (hb5.mono hbel.size)⟩
end Go.Proofs.YtbicjcpdcopbhaaDoor
