/-
  ShaStreams, walked.
-/
import Derived.Test.YtbicjcpdcopbhaaDoorEdgesWalk
import Derived.Test.YtbicjcpdcopbhaaDoorHm11
namespace Go.Proofs.YtbicjcpdcopbhaaDoor
set_option linter.unusedVariables false
set_option linter.unusedSimpArgs false
open Go.RowKit

def otherL : List UInt8 := [111, 116, 104, 101, 114]
structure PInv (w : World) (g4 : Nat) (all : List UInt8) (A : Option Addr) (m : Nat) (wr : World) : Prop where
  st : St wr g4 all
  run : Run w wr
  row : 0 < m → ∃ g cur, A = some ⟨g, 0, none⟩ ∧ g ≠ g4 ∧ w.heap.size ≤ g ∧ Blk wr g 5 cur ∧ m ≤ cur.size
theorem PInv.set {w : World} {g4 : Nat} {all : List UInt8} {m : Nat} {wr : World} {g : Nat} {cur : Array Value} (h : PInv w g4 all (some ⟨g, 0, none⟩) m wr) (hne : g ≠ g4) (hg : w.heap.size ≤ g) (hb : Blk wr g 5 cur) (hm : m ≤ cur.size) (j : Nat) (v : Value) : PInv w g4 all (some ⟨g, 0, none⟩) m (wr.setCell ⟨g, j, none⟩ v) := by
  have hf : Frm (fun k => k = g) wr (wr.setCell ⟨g, j, none⟩ v) := Frm.setCell _ _ _ (fun k => k = g) rfl
  exact ⟨h.st.frm hf (fun e => hne e.symm), h.run.frm hf (fun k hk => by omega), fun _ => ⟨g, _, rfl, hne, hg, hb.set j v, by simpa using hm⟩⟩
structure SInv (w : World) (g4 : Nat) (all : List UInt8) (wr : World) : Prop where
  st : St wr g4 all
  run : Run w wr

set_option maxHeartbeats 16000000 in
set_option maxRecDepth 100000 in
theorem streams_walk (a0 : Option Addr) (len0 cap0 : Nat) (L : Nat → List UInt8) (w : World) (hG : Gl w) (hg0 : 2 ≤ w.heap.size) (h0 : Rows2 w a0 len0 L) (hl0 : len0 ≤ cap0) (hm0 : cap0 ≤ 9223372036854775807) :
    Calls Tryd.prog 4 #[.slice a0 len0 cap0] w fun e w' => e = .returned (.bool true) ∧ Below w.heap.size w w' := by
  obtain ⟨KK, hKK⟩ : ∃ K, K = Nat.min len0 10 := ⟨_, rfl⟩
  have hK1 : KK ≤ len0 := by rw [hKK]; exact Nat.min_le_left _ _
  have hK2 : KK ≤ 10 := by rw [hKK]; exact Nat.min_le_right _ _
  have HKK : Hid (KK = len0 ∨ KK = 10) := by show _ ∨ _; rw [hKK]; simp only [Nat.min_def]; split <;> omega
  have H0 := hide h0
  clear hKK h0
  go_enter Tryd.func4, Tryd.ntmps4
  go_wp2_with fail
  refine (shown_run w hG hg0).mono ?_
  rintro e w1 ⟨rfl, hR⟩
  go_wp2_with ((with_reducible refine wpl_alloca (op := ⟨some 4, _, _, _, _, _⟩) rfl _ rfl _ zeroS ?_); intro g4 w2 hB2 hs2 hF2)
  have hg4 : w.heap.size ≤ g4 := by have := hR.size; omega
  have HI : Hid (SInv w g4 [] w2) := ⟨St_nil hB2, hR.frm hF2 (fun _ h => h.elim)⟩
  clear hR hG hB2 hF2
  go_loopw [5, 6] (fun s i wr => ∃ (k : Nat) (all : List UInt8), k ≤ KK ∧ i = .int .i64 k ∧ s = .string ⟨all.toArray⟩ ∧ all.length ≤ 100 * k ∧ SInv w g4 all wr) (fun _ i _ => KK - (intOf i).toNat)
  case atStart => exact ⟨0, [], by omega, rfl, rfl, by simp, HI.out⟩
  case round =>
    clear HI
    obtain ⟨k, all, hk, rfl, rfl, hal, hi⟩ := hrel
    have HI := hide hi
    have HAL := hide hal
    clear hi hal
    by_cases hlt : k < KK
    · have hkl : k < len0 := by omega
      have hk6 : k < 10 := by omega
      obtain ⟨pa, rfl, hrow⟩ := H0.out (by omega)
      obtain ⟨Ar, cr, hcell, hcr1, hcr2, hrd⟩ := hrow k hkl
      obtain ⟨m, HM, hm1, hm2, hm3⟩ := nat_min (L k).length 100
      have HRM := hide (hrd.take m hm1)
      rw [cellsB_take] at HRM
      have HXM : Hid (((L k).take m).length = m) := by have := HRM.out.1; rwa [cellsB_length] at this
      obtain ⟨nr, hnr⟩ : ∃ nr, nr = (L k).length := ⟨_, rfl⟩
      rw [← hnr] at hcell hcr1 HM hm1
      generalize (L k).take m = x at *
      have hcw : wr.cell? (pa.add k) = some (.slice Ar nr cr) := by rw [HI.out.run.below.cell (World.block_lt_of_cell? w _ hcell)]; exact hcell
      have hpb : (pa.add k).block < w.heap.size := World.block_lt_of_cell? w _ hcell
      have HC0 : Hid (wr.drew.cell? (pa.add k) = some (.slice Ar nr cr)) := hcw
      have hnm : nr ≤ 9223372036854775807 := by omega
      have hmc : m ≤ cr := by omega
      have hki : (k : Int) < (len0 : Int) := by omega
      clear hcell hrd hrow hnr hm3 hcw
      go_wp2_with fail
      refine wp_region_held_drew (S := fun W => W.cell? (pa.add k) = some (.slice Ar nr cr)) (by kernel_rfl) (HC0.out) ?_
      intro hHeld
      obtain ⟨W0, hW0⟩ : ∃ W0, W0 = wr.drew := ⟨_, rfl⟩
      rw [← hW0] at HC0 hHeld ⊢
      have hFd : Frm (fun _ => False) wr W0 := by rw [hW0]; exact (Frm.refl _ _).drew
      clear hW0
      refine wpAnyH_take (i := 1) (v := ?v1) rfl (by kernel_rfl) (by kernel_rfl) (by kernel_rfl) (fun _ _ _ h => h) (Or.inl ⟨by rfl, ?hy1⟩) (by assumption) ?rest1
      case hy1 => (intro w hSw; (try dsimp only at hSw); go_simp; try with_reducible rfl)
      try simp only [Act.put, List.getElem_toArray, List.getElem_cons_zero, List.getElem_cons_succ, List.setIfInBounds_toArray, List.set_cons_zero, List.set_cons_succ]
      refine wpAnyH_take (i := 2) (v := ?v2) rfl (by kernel_rfl) (by kernel_rfl) (by kernel_rfl) (fun _ _ _ h => h) (Or.inl ⟨by rfl, ?hy2⟩) (by assumption) ?rest2
      case hy2 => (intro w hSw; (try dsimp only at hSw); go_simp; try with_reducible rfl)
      try simp only [Act.put, List.getElem_toArray, List.getElem_cons_zero, List.getElem_cons_succ, List.setIfInBounds_toArray, List.set_cons_zero, List.set_cons_succ]
      refine wpAnyH_take (i := 3) (v := ?v3) rfl (by kernel_rfl) (by kernel_rfl) (by kernel_rfl) (fun _ _ _ h => h) (Or.inl ⟨by rfl, ?hy3⟩) (by assumption) ?rest3
      case hy3 => (intro w hSw; (try dsimp only at hSw); go_simp; try with_reducible rfl)
      try simp only [Act.put, List.getElem_toArray, List.getElem_cons_zero, List.getElem_cons_succ, List.setIfInBounds_toArray, List.set_cons_zero, List.set_cons_succ]
      refine wpAnyH_take (i := 4) (v := ?v4) rfl (by kernel_rfl) (by kernel_rfl) (by kernel_rfl) (fun _ _ _ h => h) (Or.inl ⟨by rfl, ?hy4⟩) (by assumption) ?rest4
      case hy4 => (intro w hSw; (try dsimp only at hSw); go_simp; try with_reducible rfl)
      try simp only [Act.put, List.getElem_toArray, List.getElem_cons_zero, List.getElem_cons_succ, List.setIfInBounds_toArray, List.set_cons_zero, List.set_cons_succ]
      refine wpAnyH_take (i := 5) (v := ?v5) rfl (by kernel_rfl) (by kernel_rfl) (by kernel_rfl) (fun _ _ _ h => h) (Or.inl ⟨by rfl, ?hy5⟩) (by assumption) ?rest5
      case hy5 => (intro w hSw; (try dsimp only at hSw); go_simp; try with_reducible rfl)
      try simp only [Act.put, List.getElem_toArray, List.getElem_cons_zero, List.getElem_cons_succ, List.setIfInBounds_toArray, List.set_cons_zero, List.set_cons_succ]
      refine wpAnyH_take (i := 6) (v := ?v6) rfl (by kernel_rfl) (by kernel_rfl) (by kernel_rfl) (fun _ _ _ h => h) (Or.inl ⟨by rfl, ?hy6⟩) (by assumption) ?rest6
      case hy6 => (intro w hSw; (try dsimp only at hSw); go_simp; try with_reducible rfl)
      try simp only [Act.put, List.getElem_toArray, List.getElem_cons_zero, List.getElem_cons_succ, List.setIfInBounds_toArray, List.set_cons_zero, List.set_cons_succ]
      refine wpAnyH_take (i := 7) (v := ?v7) rfl (by kernel_rfl) (by kernel_rfl) (by kernel_rfl) (fun _ _ _ h => h) (Or.inl ⟨by rfl, ?hy7⟩) (by assumption) ?rest7
      case hy7 => (intro w hSw; (try dsimp only at hSw); go_simp; try with_reducible rfl)
      try simp only [Act.put, List.getElem_toArray, List.getElem_cons_zero, List.getElem_cons_succ, List.setIfInBounds_toArray, List.set_cons_zero, List.set_cons_succ]
      refine wpAnyH_take (i := 8) (v := ?v8) rfl (by kernel_rfl) (by kernel_rfl) (by kernel_rfl) (fun _ _ _ h => h) (Or.inl ⟨by rfl, ?hy8⟩) (by assumption) ?rest8
      case hy8 => (intro w hSw; (try dsimp only at hSw); go_simp; try with_reducible rfl)
      try simp only [Act.put, List.getElem_toArray, List.getElem_cons_zero, List.getElem_cons_succ, List.setIfInBounds_toArray, List.set_cons_zero, List.set_cons_succ]
      refine wpAnyH_take (i := 9) (v := ?v9) rfl (by kernel_rfl) (by kernel_rfl) (by kernel_rfl) (fun _ _ _ h => h) (Or.inl ⟨by rfl, ?hy9⟩) (by assumption) ?rest9
      case hy9 => (intro w hSw; (try dsimp only at hSw); go_simp; try with_reducible rfl)
      try simp only [Act.put, List.getElem_toArray, List.getElem_cons_zero, List.getElem_cons_succ, List.setIfInBounds_toArray, List.set_cons_zero, List.set_cons_succ]
      refine wpAnyH_take (i := 10) (v := ?v10) rfl (by kernel_rfl) (by kernel_rfl) (by kernel_rfl) (fun _ _ _ h => h) (Or.inl ⟨by rfl, ?hy10⟩) (by assumption) ?rest10
      case hy10 => (intro w hSw; refine held_min (.tmp 32) (.const (.int .i64 100)) 3 3 ?_ (nr : Int) 100 (m : Int) ?_ ?_ HM.out <;> rfl)
      try simp only [Act.put, List.getElem_toArray, List.getElem_cons_zero, List.getElem_cons_succ, List.setIfInBounds_toArray, List.set_cons_zero, List.set_cons_succ]
      refine wpAnyH_take (i := 11) (v := ?v11) rfl (by kernel_rfl) (by kernel_rfl) (by kernel_rfl) (fun _ _ _ h => h) (Or.inl ⟨by rfl, ?hy11⟩) (by assumption) ?rest11
      case hy11 => (intro w hSw; refine held_cut0 (.tmp 27) (.tmp 33) ?_ Ar nr cr m ?_ ?_ hmc <;> rfl)
      try simp only [Act.put, List.getElem_toArray, List.getElem_cons_zero, List.getElem_cons_succ, List.setIfInBounds_toArray, List.set_cons_zero, List.set_cons_succ]
      refine wpAnyH_ready (rs := [0]) (by kernel_rfl) (by simp) ?_
      refine AllReadyH.cons rfl (fun K hK => ?_) AllReadyH.nil
      go_simp
      have hFa : Frm (fun _ => False) W0 (W0.alloc (.cells #[] 5)) := Frm.alloc _ _ _
      have HC1 := hide (cell_frm hFa HC0.out (fun h => h))
      have hov := World.ownsRow_made (e := 5) (size := 1) (base := W0.heap.size) W0 #[] 0 (Nat.le_refl _) (by simp [maxLen]) (by simp)
      have hW0s : w.heap.size ≤ W0.heap.size := by have := HI.out.run.size; have := hFd.size; omega
      have HRW := hide (HRM.out.below (HI.out.run.below.trans ((hFd.trans hFa (fun _ _ h => h)).below (Nat.le_refl _) (fun _ h => h.elim) |>.mono HI.out.run.size)))
      refine hK.out _ _ (HC1.out) (fun hHeld => ?_)
      clear hK K
      refine wpAnyH_ready (rs := [12]) (by kernel_rfl) (by simp) ?_
      refine AllReadyH.cons rfl (fun K hK => ?_) AllReadyH.nil
      refine step_app one_u8 rfl (.tmp 23) (.tmp 34) rfl (W0.alloc (.cells #[] 5)) W0.heap.size (.slice (some ⟨W0.heap.size, 0, none⟩) 0 0) 0 _ rfl hov Ar m cr (cellsB x) rfl HRW.out (cellsB_one _) (by omega) (by omega) hFa.size ?_
      intro A7 c7 w7 hown7 hg7 hat7
      have hF7 := Frm.of_grown hg7
      have HC7 := hide (cell_frm hF7 HC1.out (fun h => by have h' : (pa.add k).block = W0.heap.size := by simpa [Value.ownBlock] using h
                                                          omega))
      refine hK.out _ _ (HC7.out) (fun hHeld => ?_)
      clear hK K
      refine wpAnyH_take (i := 13) (v := ?v12) rfl (by kernel_rfl) (by kernel_rfl) (by kernel_rfl) (fun _ _ _ h => h) (Or.inl ⟨by rfl, ?hy12⟩) (by assumption) ?rest12
      case hy12 => (intro w hSw; (try dsimp only at hSw); go_simp; try with_reducible rfl)
      try simp only [Act.put, List.getElem_toArray, List.getElem_cons_zero, List.getElem_cons_succ, List.setIfInBounds_toArray, List.set_cons_zero, List.set_cons_succ]
      refine wpAnyH_done (by kernel_rfl) ?_ _
      have F07 : Frm (fun j => j = W0.heap.size) W0 w7 := (hFa.mono (T := fun j => j = W0.heap.size) (fun _ _ h => h.elim)).trans hF7 (fun j _ h => (by simpa [Value.ownBlock] using h : j = W0.heap.size))
      rw [Nat.zero_add, List.nil_append] at hown7
      have S0 := HI.out.st.frm hFd (fun h => h)
      have hlt4 : g4 < W0.heap.size := S0.lt
      have S7 := S0.frm F07 (by omega)
      have hR7 := (HI.out.run.frm hFd (fun _ h => h.elim)).frm F07 (fun j hj => by omega)
      have hc7 : m ≤ c7 := by
        rcases hown7.2 with ⟨hv, h0⟩ | ⟨_, _, _, hv, _, _, hnc, _⟩
        · omega
        · injection hv with _ _ h3; omega
      have HAD : Hid (∀ a, A7 = some a → 0 < m → W0.heap.size ≤ a.block) := fun a ha hp => by
        obtain ⟨g, cur, hA, hb, _⟩ := own_block hown7 hp
        rw [hA] at ha
        injection ha with ha
        subst ha
        exact hb
      clear hov HRW HRM hg7 hat7 hF7 F07 HC7 HC1 HC0 hHeld HI S0
      have kc : ∀ (w : World) (C : Array Value) (n c g : Nat), g = w.heap.size → _ := fun (w : World) (C : Array Value) (n c g : Nat) (hg : g = w.heap.size) => hg ▸ Lib.run_convert_bytes_const (P := Tryd.prog) w 24 5 C n c under24 under5
      go_wp2_with (first
        | (with_reducible refine wpl_loada (op := ⟨some 36, _, _, _, _, _⟩) aggS rfl _ rfl g4 0 rfl _ (stL all) (stL all) S7.blk (stL_whole all) (stL_room all) ?_)
        | ((with_reducible refine wpl_alloca (op := ⟨some 8, _, _, _, _, _⟩) rfl _ rfl _ zeroS ?_); intro g8 w8 hB8 hs8 hF8)
        | ((with_reducible refine wpl_storea aggS rfl (.tmp 8) (.tmp 36) rfl g8 (stL all) rfl rfl _ _ hB8 (stL_length all) zeroS_size (stL_one all) ?_); intro w9 hB9 hF9))
      have hg8 : w.heap.size ≤ g8 := by have := hR7.size; omega
      have hn48 : g4 ≠ g8 := by have := S7.lt; omega
      have hlt8 : w7.heap.size ≤ g8 := hs8
      have F79 : Frm (fun j => j = g8) w7 w9 := (hF8.mono (T := fun j => j = g8) (fun _ _ h => h.elim)).trans hF9 (fun _ _ h => h)
      have S9 := S7.frm F79 hn48
      have C9 : St w9 g8 all := St.of hB9
      have R9 := hR7.frm F79 (fun j hj => by omega)
      have O9 := own_frm hown7 F79 (fun j hj => by have := (hown7.lt j hj).2; omega)
      have F910 : Frm (fun _ => False) w9 (w9.alloc (.cells (cellsB otherL).toArray 5 (5, 6))) := Frm.alloc _ _ _
      have hoth := alloc_rds w9 (cellsB otherL) 5 (5, 6)
      have hsrc : Src (w9.alloc (.cells (cellsB otherL).toArray 5 (5, 6))) g8 (some ⟨w9.heap.size, 0, none⟩) 5 otherL := ⟨hoth, fun _ a ha => by injection ha with ha; subst ha; have := C9.lt; show w9.heap.size ≠ g8; omega⟩
      have hale : all.length ≤ 1000 := by have := HAL.out; omega
      have HCP := hide (show Blk (w9.alloc (.cells (cellsB otherL).toArray 5 (5, 6))) g8 34 (stL all).toArray from C9.frm F910 (fun h => h))
      have HW8 := hide (write_src g8 all otherL (some ⟨w9.heap.size, 0, none⟩) 5 5 w _ hsrc rfl (Nat.le_refl _) (R9.frm F910 (fun _ h => h.elim)) hg8 (C9.frm F910 (fun h => h)) (by omega))
      have S10 := S9.frm F910 (fun h => h)
      have O10 := own_frm O9 F910 (fun _ _ h => h)
      clear hB8 hF8 hB9 hF9 F79 S7 S9 C9 R9 O9 F910 hoth hsrc hR7 hown7 kc
      refine HW8.out.mono ?_
      rintro e w11 ⟨rfl, _, F11, R11⟩
      have S11 := S10.frm F11 hn48
      have O11 := own_frm O10 F11 (fun j hj h => by
        obtain ⟨g, cap, cur, hv, hb, hg, _⟩ : ∃ g cap cur, Value.slice A7 m c7 = .slice (some ⟨g, 0, none⟩) m cap ∧ W0.heap.size ≤ g ∧ Blk _ g 5 cur ∧ True := by
          rcases O10.2 with ⟨hv, _⟩ | ⟨g, cap, cur, hv, hb, hg, _⟩
          · rw [hv] at hj; cases hj
          · exact ⟨g, cap, cur, hv, hb, hg, trivial⟩
        rw [hv] at hj
        have hjg : g = j := by simpa [Value.ownBlock] using hj
        have hg9 : Blk _ g8 34 _ := HCP.out
        exact Blk.ne hg hg9 (by decide) (hjg.trans h))
      have hsrc2 : Src w11 g4 A7 m x := ⟨(Seg.of_own O11).rds, fun hp a ha => by have := HAD.out a ha hp; omega⟩
      have HW4 := hide (write_src g4 all x A7 m c7 w w11 hsrc2 HXM.out hc7 R11 hg4 S11 (by omega))
      clear HW8 S10 O10 hsrc2
      go_wp2_with fail
      refine HW4.out.mono ?_
      rintro e w12 ⟨rfl, S12, F12, R12⟩
      have O12 := own_frm O11 F12 (fun j hj h => by
        rcases O11.2 with ⟨hv, _⟩ | ⟨g, cap, cur, hv, hb, hg, _⟩
        · rw [hv] at hj; cases hj
        · rw [hv] at hj
          have hjg : g = j := by simpa [Value.ownBlock] using hj
          omega)
      clear HW4 S11 O11 R11 F11 F12
      have hcv := conv_txt w12 A7 m c7 x (Seg.of_own O12).rds
      have hap := txt_append all x
      have hz1 : (⟨all.toArray⟩ : ByteArray).size ≤ 1000 := by rw [txt_size]; exact hale
      have hz2 : (⟨x.toArray⟩ : ByteArray).size = m := by rw [txt_size]; exact HXM.out
      have hal2 : (all ++ x).length ≤ 100 * (k + 1) := by rw [List.length_append, HXM.out]; have := HAL.out; omega
      have HAL2 := hide hal2
      obtain ⟨al2, hal2e⟩ : ∃ al2, al2 = all ++ x := ⟨_, rfl⟩
      rw [← hal2e] at S12 hap HAL2
      have HPI : Hid (PInv w g4 al2 A7 m w12) := ⟨S12, R12, fun hp => by
        obtain ⟨g, cur, hA, hb, hB, hn, _, _⟩ := own_block O12 hp
        exact ⟨g, cur, hA, by omega, by omega, hB, hn⟩⟩
      clear S12 R12 O12 hal2 hal2e HAD HAL
      generalize (⟨all.toArray⟩ : ByteArray) = B0 at *
      generalize (⟨x.toArray⟩ : ByteArray) = Bx at *
      generalize hB1 : (⟨al2.toArray⟩ : ByteArray) = B1 at *
      have HB1 := hide hB1
      clear hB1
      go_wp2_with fail
      clear hcv hap hz1 hz2
      go_loopw [9] (fun i wr => ∃ j : Nat, j ≤ m ∧ i = .int .i64 j ∧ PInv w g4 al2 A7 m wr) (fun i _ => m - (intOf i).toNat)
      case atStart => exact ⟨0, by omega, rfl, HPI.out⟩
      case round =>
        clear HPI
        obtain ⟨j, hj, rfl, hp⟩ := hrel
        by_cases hjm : j < m
        · obtain ⟨g, cur, rfl, hne, hg, hB, hmc2⟩ := hp.row (by omega)
          have c1 : wr.cell? ⟨g, j, none⟩ = some cur[j] := by rw [hB.cell]; simp
          have f1 := hB.frozen j
          have FIN := hide (hp.set hne hg hB hmc2 j (.int .u8 63))
          generalize cur[j] = cv at *
          have hji : (j : Int) < (m : Int) := by omega
          clear hp hB
          go_wp2_with fail
          go_roundw
          case rel => first | exact ⟨j + 1, by omega, by go_num, FIN.out⟩ | ((repeat apply Exists.intro); exact ⟨⟨j + 1, by omega, by go_num, FIN.out⟩, rfl⟩)
          case measure => simp [intOf]; omega
        · obtain rfl : j = m := by omega
          have hal3 : al2.length ≤ 1100 := by have := HAL2.out; omega
          have HS1 := hide (fun W (hR : Run w W) (hS : St W g4 al2) => sum_run g4 al2 w W hR hS (by omega))
          have hs1 := hp.st
          have hr1 := hp.run
          have HRF := hide (fun W (hR : Run w W) => rsum_run al2 w W hR (by omega))
          have q1 := eq_same (shaL al2) (shaL_length al2)
          have HSL := hide (shaL_length al2)
          have HSC := hide (shaC_length al2)
          have hgd := guard32
          have hsl32 := sl32
          clear hp
          rw [HB1.out] at HRF
          obtain ⟨sm, hsm⟩ : ∃ sm, sm = shaL al2 := ⟨_, rfl⟩
          rw [← hsm] at HS1 HRF q1 HSL HSC
          clear hsm
          go_wp2_with fail
          refine (HS1.out _ hr1 hs1).mono ?_
          rintro e w13 ⟨rfl, F13, R13⟩
          have S13 := hs1.frm F13 (fun h => h)
          clear hs1 hr1 F13
          go_wp2_with (first
            | ((with_reducible refine wpl_alloca (op := ⟨some 10, _, _, _, _, _⟩) rfl _ rfl _ zero32 ?_); intro g10 w14 hB14 hs14 hF14)
            | ((with_reducible refine wpl_storea agg32 rfl (.tmp 10) (.tmp 55) rfl g10 (cellsB sm) rfl rfl _ _ hB14 HSC.out zero32_size (cellsB_one _) ?_); intro w15 hB15 hF15))
          have hg10 : w.heap.size ≤ g10 := by have := R13.size; omega
          have hn10 : g4 ≠ g10 := by have := S13.lt; omega
          have S15 := (S13.frm hF14 (fun h => h)).frm hF15 hn10
          have R15 := (R13.frm hF14 (fun _ h => h.elim)).frm hF15 (fun j hj => by omega)
          clear S13 R13 hB14 hF14 hF15
          refine (HS1.out _ R15 S15).mono ?_
          rintro e w16 ⟨rfl, F16, R16⟩
          have S16 := S15.frm F16 (fun h => h)
          have X16 := hB15.frm F16 (fun h => h)
          clear S15 R15 hB15 F16 HS1
          go_wp2_with (first
            | ((with_reducible refine wpl_alloca (op := ⟨some 11, _, _, _, _, _⟩) rfl _ rfl _ zero32 ?_); intro g11 w17 hB17 hs17 hF17)
            | ((with_reducible refine wpl_storea agg32 rfl (.tmp 11) (.tmp 56) rfl g11 (cellsB sm) rfl rfl _ _ hB17 HSC.out zero32_size (cellsB_one _) ?_); intro w18 hB18 hF18))
          have hg11 : w.heap.size ≤ g11 := by have := R16.size; omega
          have hn11 : g4 ≠ g11 := by have := S16.lt; omega
          have hn12 : g10 ≠ g11 := by have := X16.lt; omega
          have FF : Frm (fun j => j = g11) w16 w18.drew := ((hF17.mono (T := fun j => j = g11) (fun _ _ h => h.elim)).trans hF18 (fun _ _ h => h)).drew
          have S0 := S16.frm FF hn11
          have X0 := X16.frm FF hn12
          have Y0 : Blk w18.drew g11 25 (cellsB sm).toArray := hB18
          have R0 := R16.frm FF (fun j hj => by omega)
          clear S16 X16 R16 hB17 hF17 hB18 hF18 FF
          refine wp_region_held_drew (S := fun W => Blk W g10 25 (cellsB sm).toArray ∧ Blk W g11 25 (cellsB sm).toArray) (by kernel_rfl) (⟨X0, Y0⟩) ?_
          intro hHeld
          obtain ⟨W0, hW0⟩ : ∃ W0, W0 = w18.drew := ⟨_, rfl⟩
          rw [← hW0] at S0 X0 Y0 R0 hHeld ⊢
          clear hW0
          refine wpAnyH_take (i := 0) (v := ?v13) rfl (by kernel_rfl) (by kernel_rfl) (by kernel_rfl) (fun _ _ _ h => h) (Or.inl ⟨by rfl, ?hy13⟩) (by assumption) ?rest13
          case hy13 => (intro w hSw; refine held_loadG agg32 (.tmp 10) ?_ g10 ?_ sm HSL.out _ hSw.1 <;> rfl)
          try simp only [Act.put, List.getElem_toArray, List.getElem_cons_zero, List.getElem_cons_succ, List.setIfInBounds_toArray, List.set_cons_zero, List.set_cons_succ]
          refine wpAnyH_take (i := 1) (v := ?v14) rfl (by kernel_rfl) (by kernel_rfl) (by kernel_rfl) (fun _ _ _ h => h) (Or.inl ⟨by rfl, ?hy14⟩) (by assumption) ?rest14
          case hy14 => (intro w hSw; refine held_loadG agg32 (.tmp 11) ?_ g11 ?_ sm HSL.out _ hSw.2 <;> rfl)
          try simp only [Act.put, List.getElem_toArray, List.getElem_cons_zero, List.getElem_cons_succ, List.setIfInBounds_toArray, List.set_cons_zero, List.set_cons_succ]
          refine wpAnyH_take (i := 2) (v := ?v15) rfl (by kernel_rfl) (by kernel_rfl) (by kernel_rfl) (fun _ _ _ h => h) (Or.inl ⟨by rfl, ?hy15⟩) (by assumption) ?rest15
          case hy15 => (intro w hSw; (try dsimp only at hSw); go_simp; try with_reducible rfl)
          try simp only [Act.put, List.getElem_toArray, List.getElem_cons_zero, List.getElem_cons_succ, List.setIfInBounds_toArray, List.set_cons_zero, List.set_cons_succ]
          refine wpAnyH_take (i := 3) (v := ?v16) rfl (by kernel_rfl) (by kernel_rfl) (by kernel_rfl) (fun _ _ _ h => h) (Or.inl ⟨by rfl, ?hy16⟩) (by assumption) ?rest16
          case hy16 => (intro w hSw; (try dsimp only at hSw); go_simp; try with_reducible rfl)
          try simp only [Act.put, List.getElem_toArray, List.getElem_cons_zero, List.getElem_cons_succ, List.setIfInBounds_toArray, List.set_cons_zero, List.set_cons_succ]
          refine wpAnyH_take (i := 4) (v := ?v17) rfl (by kernel_rfl) (by kernel_rfl) (by kernel_rfl) (fun _ _ _ h => h) (Or.inl ⟨by rfl, ?hy17⟩) (by assumption) ?rest17
          case hy17 => (intro w hSw; (try dsimp only at hSw); go_simp; try with_reducible rfl)
          try simp only [Act.put, List.getElem_toArray, List.getElem_cons_zero, List.getElem_cons_succ, List.setIfInBounds_toArray, List.set_cons_zero, List.set_cons_succ]
          refine wpAnyH_take (i := 5) (v := ?v18) rfl (by kernel_rfl) (by kernel_rfl) (by kernel_rfl) (fun _ _ _ h => h) (Or.inl ⟨by rfl, ?hy18⟩) (by assumption) ?rest18
          case hy18 => (intro w hSw; refine held_conv (.tmp 61) ?_ g10 32 32 ?_ sm sm _ hSw.1 (by rw [HSL.out]; exact Nat.le_refl _) (List.take_of_length_le (by rw [HSL.out]; exact Nat.le_refl _)) <;> rfl)
          try simp only [Act.put, List.getElem_toArray, List.getElem_cons_zero, List.getElem_cons_succ, List.setIfInBounds_toArray, List.set_cons_zero, List.set_cons_succ]
          refine wpAnyH_take (i := 6) (v := ?v19) rfl (by kernel_rfl) (by kernel_rfl) (by kernel_rfl) (fun _ _ _ h => h) (Or.inl ⟨by rfl, ?hy19⟩) (by assumption) ?rest19
          case hy19 => (intro w hSw; (try dsimp only at hSw); go_simp; try with_reducible rfl)
          try simp only [Act.put, List.getElem_toArray, List.getElem_cons_zero, List.getElem_cons_succ, List.setIfInBounds_toArray, List.set_cons_zero, List.set_cons_succ]
          refine wpAnyH_ready (rs := [7]) (by kernel_rfl) (by simp) ?_
          refine AllReadyH.cons rfl (fun K hK => ?_) AllReadyH.nil
          go_simp
          refine (HRF.out _ R0).mono ?_
          rintro e W1 ⟨rfl, F1, R1⟩
          have S1 := S0.frm F1 (fun h => h)
          have X1 := X0.frm F1 (fun h => h)
          have Y1 := Y0.frm F1 (fun h => h)
          refine hK.out _ _ (⟨X1, Y1⟩) (fun hHeld => ?_)
          clear hK K
          refine wpAnyH_take (i := 8) (v := ?v20) rfl (by kernel_rfl) (by kernel_rfl) (by kernel_rfl) (fun _ _ _ h => h) (Or.inl ⟨by rfl, ?hy20⟩) (by assumption) ?rest20
          case hy20 => (intro w hSw; (try dsimp only at hSw); go_simp; try with_reducible rfl)
          try simp only [Act.put, List.getElem_toArray, List.getElem_cons_zero, List.getElem_cons_succ, List.setIfInBounds_toArray, List.set_cons_zero, List.set_cons_succ]
          refine wpAnyH_take (i := 9) (v := ?v21) rfl (by kernel_rfl) (by kernel_rfl) (by kernel_rfl) (fun _ _ _ h => h) (Or.inl ⟨by rfl, ?hy21⟩) (by assumption) ?rest21
          case hy21 => (intro w hSw; (try dsimp only at hSw); go_simp; try with_reducible rfl)
          try simp only [Act.put, List.getElem_toArray, List.getElem_cons_zero, List.getElem_cons_succ, List.setIfInBounds_toArray, List.set_cons_zero, List.set_cons_succ]
          refine wpAnyH_done (by kernel_rfl) ?_ _
          have FIN : Hid (SInv w g4 al2 W1) := ⟨S1, R1⟩
          go_wp2_with fail
          go_roundw
          case rel => first | exact ⟨k + 1, al2, by omega, by go_num, by rw [HB1.out], HAL2.out, FIN.out⟩ | ((repeat apply Exists.intro); exact ⟨⟨k + 1, al2, by omega, by go_num, by rw [HB1.out], HAL2.out, FIN.out⟩, rfl⟩)
          case measure => simp [intOf]; omega
    · obtain rfl : k = KK := by omega
      rcases HKK.out with hlen | hlen
      · have hd : decide (k < len0) = false := by simp; omega
        clear hlen
        have hale : all.length ≤ 1000 := by have := HAL.out; omega
        obtain ⟨na, hna⟩ : ∃ na, na = all.length := ⟨_, rfl⟩
        have hcb := fun w => conv_bytes all na hna.symm w
        have HS1 := hide (sum_run g4 all w wr HI.out.run HI.out.st (by omega))
        have q1 := eq_same (shaL all) (shaL_length all)
        have hgd := guard32
        have HNA := hide hna
        clear hna
        go_wp2_with fail
        refine HS1.out.mono ?_
        rintro e w20 ⟨rfl, F20, R20⟩
        have F21 := bytes_frm w20 5 ⟨all.toArray⟩
        have R21 := R20.frm F21 (fun _ h => h.elim)
        have hp := (bytes_prt w20 all).1
        rw [← HNA.out] at hp
        have HSM := hide (sums_run w (Lib.bytesWorld w20 5 ⟨all.toArray⟩) [.slice (some ⟨w20.heap.size, 0, none⟩) na (grownCap w20 na 0 5)] [all] all (.cons hp .nil) (by simp) R21 (by omega) (by simp))
        clear hp HS1 F20 F21
        go_wp2_with fail
        refine HSM.out.mono ?_
        rintro e w22 ⟨rfl, _, R22⟩
        go_wp2_with fail
        go_ret
        exact ⟨rfl, R22.below⟩
      · by_cases hl6 : k < len0
        · have hki : (k : Int) < (len0 : Int) := by omega
          have hd : decide ((k : Int) < 10) = false := by simp; omega
          clear hlen
          have hale : all.length ≤ 1000 := by have := HAL.out; omega
          obtain ⟨na, hna⟩ : ∃ na, na = all.length := ⟨_, rfl⟩
          have hcb := fun w => conv_bytes all na hna.symm w
          have HS1 := hide (sum_run g4 all w wr HI.out.run HI.out.st (by omega))
          have q1 := eq_same (shaL all) (shaL_length all)
          have hgd := guard32
          have HNA := hide hna
          clear hna
          go_wp2_with fail
          refine HS1.out.mono ?_
          rintro e w20 ⟨rfl, F20, R20⟩
          have F21 := bytes_frm w20 5 ⟨all.toArray⟩
          have R21 := R20.frm F21 (fun _ h => h.elim)
          have hp := (bytes_prt w20 all).1
          rw [← HNA.out] at hp
          have HSM := hide (sums_run w (Lib.bytesWorld w20 5 ⟨all.toArray⟩) [.slice (some ⟨w20.heap.size, 0, none⟩) na (grownCap w20 na 0 5)] [all] all (.cons hp .nil) (by simp) R21 (by omega) (by simp))
          clear hp HS1 F20 F21
          go_wp2_with fail
          refine HSM.out.mono ?_
          rintro e w22 ⟨rfl, _, R22⟩
          go_wp2_with fail
          go_ret
          exact ⟨rfl, R22.below⟩
        · have hd : decide (k < len0) = false := by simp; omega
          clear hlen
          have hale : all.length ≤ 1000 := by have := HAL.out; omega
          obtain ⟨na, hna⟩ : ∃ na, na = all.length := ⟨_, rfl⟩
          have hcb := fun w => conv_bytes all na hna.symm w
          have HS1 := hide (sum_run g4 all w wr HI.out.run HI.out.st (by omega))
          have q1 := eq_same (shaL all) (shaL_length all)
          have hgd := guard32
          have HNA := hide hna
          clear hna
          go_wp2_with fail
          refine HS1.out.mono ?_
          rintro e w20 ⟨rfl, F20, R20⟩
          have F21 := bytes_frm w20 5 ⟨all.toArray⟩
          have R21 := R20.frm F21 (fun _ h => h.elim)
          have hp := (bytes_prt w20 all).1
          rw [← HNA.out] at hp
          have HSM := hide (sums_run w (Lib.bytesWorld w20 5 ⟨all.toArray⟩) [.slice (some ⟨w20.heap.size, 0, none⟩) na (grownCap w20 na 0 5)] [all] all (.cons hp .nil) (by simp) R21 (by omega) (by simp))
          clear hp HS1 F20 F21
          go_wp2_with fail
          refine HSM.out.mono ?_
          rintro e w22 ⟨rfl, _, R22⟩
          go_wp2_with fail
          go_ret
          exact ⟨rfl, R22.below⟩
end Go.Proofs.YtbicjcpdcopbhaaDoor
