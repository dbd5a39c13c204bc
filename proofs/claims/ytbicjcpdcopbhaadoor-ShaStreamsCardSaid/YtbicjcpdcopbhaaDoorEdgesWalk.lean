/-
  ShaEdges, walked.
-/
import Derived.Test.YtbicjcpdcopbhaaDoorRSum
namespace Go.Proofs.YtbicjcpdcopbhaaDoor
set_option linter.unusedVariables false
open Go.RowKit

theorem rsum_run (l : List UInt8) (w0 w : World) (hR : Run w0 w) (hl : l.length ≤ 100000) :
    Calls Tryd.prog 17 #[.string ⟨l.toArray⟩] w fun e w' => e = .returned (.string ⟨(shaL l).toArray⟩) ∧ Frm (fun _ => False) w w' ∧ Run w0 w' :=
  (rsum_any l w hl).mono fun e w' ⟨he, hb⟩ => ⟨he, Frm.of_below hb, hR.frm (Frm.of_below (S := fun _ => False) hb) (fun _ h => h.elim)⟩
/-- Bytes as a text. -/
theorem conv_txt (w : World) (A : Option Addr) (n c : Nat) (l : List UInt8) (hr : Rds w A n (cellsB l)) : Sem.run Tryd.prog (convert 24 9 (.slice A n c)) w = .ok (.string ⟨l.toArray⟩) w :=
  conv_rds w 24 9 5 under24 under5 under9 A n c l hr
theorem Blk.txt {w : World} {g : Nat} {t : TypeId} {l : List UInt8} (h : Blk w g t (cellsB l).toArray) (n c : Nat) (hn : n ≤ l.length) : Sem.run Tryd.prog (convert 24 9 (.slice (some ⟨g, 0, none⟩) n c)) w = .ok (.string ⟨(l.take n).toArray⟩) w := by
  refine conv_txt w _ n c (l.take n) ?_
  have := h.rds
  rw [cellsB_length] at this
  have h2 := this.take n hn
  rwa [cellsB_take] at h2

structure EInv (w : World) (ga : Nat) (l : List UInt8) (wr : World) : Prop where
  all : Blk wr ga 5 (cellsB l).toArray
  run : Run w wr

set_option maxHeartbeats 8000000 in
set_option maxRecDepth 100000 in
theorem edges_walk (c n : Int) (w : World) (hG : Gl w) (hg0 : 2 ≤ w.heap.size) (hc : 0 ≤ c ∧ c < 256) :
    Calls Tryd.prog 5 #[.int .u8 c, .int .i64 n] w fun e w' => e = .returned (.bool true) ∧ Below w.heap.size w w' := by
  obtain ⟨u, hu⟩ := byte_of c
  rw [Int.emod_eq_of_lt hc.1 hc.2] at hu
  subst hu
  obtain ⟨x, hx, hx6⟩ := mask_nat n
  obtain ⟨s, hs⟩ : ∃ s, s = x % 200 := ⟨_, rfl⟩
  have e1 : (x : Int) % 200 = (s : Int) := by omega
  have hs2 : s ≤ 199 := by omega
  clear hs hc
  go_enter Tryd.func5, Tryd.ntmps5
  go_wp2_with fail
  refine (shown_run w hG hg0).mono ?_
  rintro e w1 ⟨rfl, hR⟩
  go_wp2_with ((with_reducible refine wpl_make8 (op := ⟨some 17, _, _, _, _, _⟩) rfl _ rfl _ _ (s + 2) rfl (by omega) (by omega) ?_); intro ga w2 hB2 hsa hF2)
  try simp only [e1]
  have HI : Hid (EInv w ga (List.replicate (s + 2) 0) w2) := ⟨hB2, hR.frm hF2 (fun _ h => h.elim)⟩
  have hga : w.heap.size ≤ ga := by have := hR.size; omega
  clear hB2 hF2 hR hG
  go_loopw [7] (fun i wr => ∃ (k : Nat) (l : List UInt8), k ≤ s + 2 ∧ i = .int .i64 k ∧ l.length = s + 2 ∧ EInv w ga l wr) (fun i _ => s + 2 - (intOf i).toNat)
  case atStart => exact ⟨0, _, by omega, rfl, by simp, HI.out⟩
  case round =>
    clear HI
    obtain ⟨k, l, hk, rfl, hl, hi⟩ := hrel
    have HL := hide hl
    by_cases hlt : k < s + 2
    · have hcc : (wr.cell? ⟨ga, k, none⟩).isSome = true := by
        rw [hi.all.cell, List.getElem?_toArray, List.getElem?_eq_getElem (by rw [cellsB_length]; omega)]
        rfl
      obtain ⟨vo, hvo⟩ := Option.isSome_iff_exists.1 hcc
      have hfr := hi.all.frozen k
      have FIN : Hid (EInv w ga (l.set k u) (wr.setCell ⟨ga, k, none⟩ (.int .u8 (u.toNat : Int)))) := by
        have := hi.all.set k (.int .u8 (u.toNat : Int))
        rw [List.setIfInBounds_toArray, cellsB_set] at this
        exact ⟨this, hi.run.frm (Frm.setCell _ _ _ (fun i => i = ga) rfl) (fun i hi => by omega)⟩
      clear hcc hl hi
      go_wp2_with fail
      go_roundw
      case rel => exact ⟨k + 1, l.set k u, by omega, by go_num, by rw [List.length_set]; exact HL.out, FIN.out⟩
      case measure => simp [intOf]; omega
    · obtain rfl : k = s + 2 := by omega
      clear hl
      have HI := hide hi
      clear hi
      have e3 : 1 + (s : Int) - 1 = (s : Int) := by omega
      go_wp2_with fail
      try simp only [e3]
      go_loopw [8] (fun i wr => ∃ k : Nat, k ≤ s + 3 ∧ i = .int .i64 k ∧ EInv w ga l wr) (fun i _ => s + 3 - (intOf i).toNat)
      case atStart => exact ⟨s, by omega, by first | rfl | go_num, HI.out⟩
      case round =>
        clear HI
        obtain ⟨k, hk3, rfl, hi⟩ := hrel
        by_cases hltk : k ≤ s + 2
        · have hkl : k ≤ l.length := by rw [HL.out]; exact hltk
          obtain ⟨y, hy⟩ : ∃ y, y = l.take k := ⟨_, rfl⟩
          have hyl : y.length = k := by rw [hy, List.length_take]; omega
          have Hyl := hide hyl
          have hrk : ∀ w' : World, Blk w' ga 5 (cellsB l).toArray → Rds w' (some ⟨ga, 0, none⟩) k (cellsB y) := by
            intro w' hb
            have := hb.rds
            rw [cellsB_length] at this
            have h2 := this.take k hkl
            rwa [cellsB_take, ← hy] at h2
          have HRK := hide hrk
          have HI := hide hi
          clear hrk hi hyl hy hkl
          go_wp2_with fail
          refine (sums_run w wr [.slice (some ⟨ga, 0, none⟩) k (s + 2)] [y] y (All2.cons ⟨_, s + 2, by rw [Hyl.out], by rw [Hyl.out]; omega, by rw [Hyl.out]; exact HRK.out wr HI.out.all⟩ All2.nil) (by simp) HI.out.run (by rw [Hyl.out]; omega) (by simp)).mono ?_
          rintro e w3 ⟨rfl, hF3, hR3⟩
          have hA3 := HI.out.all.frm hF3 (fun h => h)
          go_wp2_with (first
            | ((with_reducible refine wpl_alloca (op := ⟨some 9, _, _, _, _, _⟩) rfl _ rfl _ zero32 ?_); intro g9 w4 hB4 hs4 hF4)
            | ((with_reducible refine wpl_storea agg32 rfl (.tmp 9) (.tmp 40) rfl g9 (cellsB (shaL y)) rfl rfl _ _ hB4 (shaC_length _) zero32_size (cellsB_one _) ?_); intro w5 hB5 hF5))
          have hg9 : w.heap.size ≤ g9 := by have := hR3.size; omega
          have hn9 : ga ≠ g9 := by have := hA3.lt; omega
          have hA5 := (hA3.frm hF4 (fun h => h)).frm hF5 hn9
          have hR5 := (hR3.frm hF4 (fun _ h => h.elim)).frm hF5 (fun k hk => by omega)
          have hsl : ∀ w, Sem.run Tryd.prog (Instr.sliceAt 25 (.pointer (some ⟨g9, 0, none⟩)) none none none) w = .ok (.slice (some ⟨g9, 0, none⟩) 32 32) w := fun w => run_slice_arr0 (P := Tryd.prog) (t := 25) (e := 5) (N := 32) under25 size8 g9 0 (by omega) w
          have F0 : Frm (fun _ => False) w5 w5.drew := (Frm.refl _ _).drew
          have A0 := hA5.frm F0 (fun h => h)
          have X0 := hB5.frm F0 (fun h => h)
          have R0 := hR5.frm F0 (fun _ h => h.elim)
          have HCV : Hid (∀ w', Blk w' ga 5 (cellsB l).toArray → Blk w' g9 25 (cellsB (shaL y)).toArray → Sem.run Tryd.prog (convert 24 9 (.slice (some ⟨g9, 0, none⟩) 32 32)) w' = .ok (.string ⟨(shaL y).toArray⟩) w' ∧ Sem.run Tryd.prog (convert 24 9 (.slice (some ⟨ga, 0, none⟩) k (s + 2))) w' = .ok (.string ⟨y.toArray⟩) w') := fun w' ha hb => by
            refine ⟨?_, conv_txt w' _ k _ y (HRK.out w' ha)⟩
            have := hb.txt 32 32 (by rw [shaL_length]; exact Nat.le_refl _)
            rwa [List.take_of_length_le (by rw [shaL_length]; exact Nat.le_refl _)] at this
          have hkc : k ≤ s + 2 := hltk
          have hki : (k : Int) ≤ (s : Int) + 2 := by omega
          clear hB4 hF4 hB5 hF5 hA3 hR3 hA5 hR5 hF3 F0 HI
          go_wp2_with fail
          refine wp_region_held_drew (S := fun W => Sem.run Tryd.prog (convert 24 9 (.slice (some ⟨g9, 0, none⟩) 32 32)) W = .ok (.string ⟨(shaL y).toArray⟩) W ∧ Sem.run Tryd.prog (convert 24 9 (.slice (some ⟨ga, 0, none⟩) k (s + 2))) W = .ok (.string ⟨y.toArray⟩) W) (by kernel_rfl) (HCV.out _ A0 X0) ?_
          intro hHeld
          obtain ⟨W0, hW0⟩ : ∃ W0, W0 = w5.drew := ⟨_, rfl⟩
          rw [← hW0] at A0 X0 R0 hHeld ⊢
          clear hW0
          refine wpAnyH_take (i := 0) (v := ?v1) rfl (by kernel_rfl) (by kernel_rfl) (by kernel_rfl) (fun _ _ _ h => h) (Or.inl ⟨by rfl, ?hy1⟩) (by assumption) ?rest1
          case hy1 => (intro w hSw; (try dsimp only at hSw); go_simp; try with_reducible rfl)
          try simp only [Act.put, List.getElem_toArray, List.getElem_cons_zero, List.setIfInBounds_toArray, List.set_cons_zero, List.set_cons_succ]
          refine wpAnyH_take (i := 1) (v := ?v2) rfl (by kernel_rfl) (by kernel_rfl) (by kernel_rfl) (fun _ _ _ h => h) (Or.inl ⟨by rfl, ?hy2⟩) (by assumption) ?rest2
          case hy2 => (intro w hSw; (try dsimp only at hSw); go_simp; try with_reducible rfl)
          try simp only [Act.put, List.getElem_toArray, List.getElem_cons_zero, List.getElem_cons_succ, List.setIfInBounds_toArray, List.set_cons_zero, List.set_cons_succ]
          refine wpAnyH_take (i := 2) (v := ?v3) rfl (by kernel_rfl) (by kernel_rfl) (by kernel_rfl) (fun _ _ _ h => h) (Or.inl ⟨by rfl, ?hy3⟩) (by assumption) ?rest3
          case hy3 => (intro w hSw; (try dsimp only at hSw); go_simp; try with_reducible rfl)
          try simp only [Act.put, List.getElem_toArray, List.getElem_cons_zero, List.getElem_cons_succ, List.setIfInBounds_toArray, List.set_cons_zero, List.set_cons_succ]
          refine wpAnyH_take (i := 3) (v := ?v4) rfl (by kernel_rfl) (by kernel_rfl) (by kernel_rfl) (fun _ _ _ h => h) (Or.inl ⟨by rfl, ?hy4⟩) (by assumption) ?rest4
          case hy4 => (intro w hSw; (try dsimp only at hSw); go_simp; try with_reducible rfl)
          try simp only [Act.put, List.getElem_toArray, List.getElem_cons_zero, List.getElem_cons_succ, List.setIfInBounds_toArray, List.set_cons_zero, List.set_cons_succ]
          refine wpAnyH_take (i := 4) (v := ?v5) rfl (by kernel_rfl) (by kernel_rfl) (by kernel_rfl) (fun _ _ _ h => h) (Or.inl ⟨by rfl, ?hy5⟩) (by assumption) ?rest5
          case hy5 => (intro w hSw; (try dsimp only at hSw); go_simp; try with_reducible rfl)
          try simp only [Act.put, List.getElem_toArray, List.getElem_cons_zero, List.getElem_cons_succ, List.setIfInBounds_toArray, List.set_cons_zero, List.set_cons_succ]
          refine wpAnyH_take (i := 5) (v := ?v6) rfl (by kernel_rfl) (by kernel_rfl) (by kernel_rfl) (fun _ _ _ h => h) (Or.inl ⟨by rfl, ?hy6⟩) (by assumption) ?rest6
          case hy6 => (intro w hSw; (try dsimp only at hSw); go_simp; try with_reducible rfl)
          try simp only [Act.put, List.getElem_toArray, List.getElem_cons_zero, List.getElem_cons_succ, List.setIfInBounds_toArray, List.set_cons_zero, List.set_cons_succ]
          refine wpAnyH_ready (rs := [6]) (by kernel_rfl) (by simp) ?_
          refine AllReadyH.cons rfl (fun K hK => ?_) AllReadyH.nil
          go_simp
          refine (rsum_run y w _ R0 (by rw [Hyl.out]; omega)).mono ?_
          rintro e W1 ⟨rfl, F1, R1⟩
          have A1 := A0.frm F1 (fun h => h)
          have X1 := X0.frm F1 (fun h => h)
          refine hK.out _ _ (HCV.out _ A1 X1) (fun hHeld => ?_)
          clear hK K
          refine wpAnyH_take (i := 7) (v := ?v7) rfl (by kernel_rfl) (by kernel_rfl) (by kernel_rfl) (fun _ _ _ h => h) (Or.inl ⟨by rfl, ?hy7⟩) (by assumption) ?rest7
          case hy7 => (intro w hSw; (try dsimp only at hSw); go_simp; try with_reducible rfl)
          try simp only [Act.put, List.getElem_toArray, List.getElem_cons_zero, List.getElem_cons_succ, List.setIfInBounds_toArray, List.set_cons_zero, List.set_cons_succ]
          refine wpAnyH_done (by kernel_rfl) ?_ _
          go_wp2
          go_roundw
          case rel => first | exact ⟨k + 1, by omega, by go_num, ⟨A1, R1⟩⟩ | ((repeat apply Exists.intro); exact ⟨⟨k + 1, by omega, by go_num, ⟨A1, R1⟩⟩, rfl⟩)
          case measure => simp [intOf]; omega
        · obtain rfl : k = s + 3 := by omega
          have HB := hide hi.run.below
          clear hi
          go_wp2_with fail
          go_ret
          exact ⟨rfl, HB.out⟩
end Go.Proofs.YtbicjcpdcopbhaaDoor
