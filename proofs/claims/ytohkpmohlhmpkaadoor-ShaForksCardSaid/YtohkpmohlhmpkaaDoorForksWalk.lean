/-
  ShaForks, walked.
-/
import Derived.Test.YtohkpmohlhmpkaaDoorSha10
namespace Go.Proofs.YtohkpmohlhmpkaaDoor
set_option linter.unusedVariables false
open Go.RowKit

set_option maxHeartbeats 8000000 in
set_option maxRecDepth 100000 in
theorem forks_walk (a0 : Option Addr) (len0 cap0 : Nat) (l0 : List UInt8) (a1 : Option Addr) (len1 cap1 : Nat) (l1 : List UInt8) (a2 : Option Addr) (len2 cap2 : Nat) (l2 : List UInt8) (w : World) (hG : Gl w) (hg0 : 2 ≤ w.heap.size)
    (h0 : Rds w a0 len0 (cellsB l0)) (hl0 : len0 ≤ cap0) (hm0 : cap0 ≤ 9223372036854775807) (h1 : Rds w a1 len1 (cellsB l1)) (hl1 : len1 ≤ cap1) (hm1 : cap1 ≤ 9223372036854775807) (h2 : Rds w a2 len2 (cellsB l2)) (hl2 : len2 ≤ cap2) (hm2 : cap2 ≤ 9223372036854775807) :
    Calls Tryd.prog 8 #[.slice a0 len0 cap0, .slice a1 len1 cap1, .slice a2 len2 cap2] w fun e w' => e = .returned (.bool true) ∧ Below w.heap.size w w' := by
  obtain ⟨m0, HM0, ml0, mr0, me0⟩ := nat_min len0 300
  clear me0
  have HR0 := hide (h0.take m0 ml0)
  rw [cellsB_take] at HR0
  have HX0 : Hid ((l0.take m0).length = m0) := by have := HR0.out.1; rwa [cellsB_length] at this
  generalize l0.take m0 = x0 at *
  have hy0 : x0.length ≤ 300 := by rw [HX0.out]; exact mr0
  have hc0 : m0 ≤ cap0 := by omega
  clear h0
  obtain ⟨m1, HM1, ml1, mr1, me1⟩ := nat_min len1 300
  clear me1
  have HR1 := hide (h1.take m1 ml1)
  rw [cellsB_take] at HR1
  have HX1 : Hid ((l1.take m1).length = m1) := by have := HR1.out.1; rwa [cellsB_length] at this
  generalize l1.take m1 = x1 at *
  have hy1 : x1.length ≤ 300 := by rw [HX1.out]; exact mr1
  have hc1 : m1 ≤ cap1 := by omega
  clear h1
  obtain ⟨m2, HM2, ml2, mr2, me2⟩ := nat_min len2 300
  clear me2
  have HR2 := hide (h2.take m2 ml2)
  rw [cellsB_take] at HR2
  have HX2 : Hid ((l2.take m2).length = m2) := by have := HR2.out.1; rwa [cellsB_length] at this
  generalize l2.take m2 = x2 at *
  have hy2 : x2.length ≤ 300 := by rw [HX2.out]; exact mr2
  have hc2 : m2 ≤ cap2 := by omega
  clear h2
  go_enter Tryd.func8, Tryd.ntmps8
  go_wp2_with fail
  refine (shown_run w hG hg0).mono ?_
  rintro e w1 ⟨rfl, hR⟩
  go_wp2_with (first
    | (refine wpl_min rfl (.tmp 15) (.const (.int .i64 300)) _ _ rfl _ (len0 : Int) 300 (m0 : Int) rfl rfl HM0.out ?_)
    | (refine wpl_min rfl (.tmp 20) (.const (.int .i64 300)) _ _ rfl _ (len1 : Int) 300 (m1 : Int) rfl rfl HM1.out ?_)
    | (refine wpl_min rfl (.tmp 25) (.const (.int .i64 300)) _ _ rfl _ (len2 : Int) 300 (m2 : Int) rfl rfl HM2.out ?_)
    | ((with_reducible refine wpl_alloca (op := ⟨some 8, _, _, _, _, _⟩) rfl _ rfl _ zeroS ?_); intro gs w2 hB2 hs2 hF2))
  have hS_gs : St w2 gs [] := St_nil hB2
  have hgs : w.heap.size ≤ gs := by have := hR.size; omega
  have hR2 := hR.frm hF2 (fun _ h => h.elim)
  clear hR hB2 hF2 hG
  have hR := hR2
  clear hR2
  refine (write_old gs [] x0 a0 m0 cap0 w w2 HR0.out HX0.out hc0 hR (hgs) hS_gs (by (try rw [List.length_nil]); (try simp only [List.length_append]); omega)).mono ?_
  rintro e w3 ⟨rfl, hN, hF, hRn⟩
  clear hR hS_gs
  have hR := hRn
  clear hRn
  have hS_gs := hN
  clear hN
  rw [List.nil_append] at hS_gs
  clear hF
  have hS_gt := hS_gs.blk
  have hltg := hS_gs.lt
  go_wp2_with (first
    | (with_reducible refine wpl_loada (op := ⟨some 30, _, _, _, _, _⟩) aggS rfl _ rfl gs 0 rfl _ (stL x0) (stL x0) hS_gt (stL_whole x0) (stL_room x0) ?_)
    | ((with_reducible refine wpl_alloca (op := ⟨some 9, _, _, _, _, _⟩) rfl _ rfl _ zeroS ?_); intro gt w4 hB4 hs4 hF4)
    | ((with_reducible refine wpl_storea aggS rfl (.tmp 9) (.tmp 30) rfl gt (stL x0) rfl rfl _ _ hB4 (stL_length x0) zeroS_size (stL_one x0) ?_); intro w5 hB5 hF5))
  clear hS_gt
  have hS_gt := St.of hB5
  have hgt : w.heap.size ≤ gt := by have := hR.size; omega
  have hne : gs ≠ gt := by omega
  have hO := (hS_gs.frm hF4 (fun h => h)).frm hF5 hne
  have hRn := (hR.frm hF4 (fun _ h => h.elim)).frm hF5 (fun k hk => by omega)
  clear hS_gs hR hB4 hF4 hB5 hF5
  have hR := hRn
  clear hRn
  have hS_gs := hO
  clear hO
  refine (write_old gs x0 x1 a1 m1 cap1 w w5 HR1.out HX1.out hc1 hR (hgs) hS_gs (by (try rw [List.length_nil]); (try simp only [List.length_append]); omega)).mono ?_
  rintro e w6 ⟨rfl, hN, hF, hRn⟩
  clear hR hS_gs
  have hR := hRn
  clear hRn
  have hS_gs := hN
  clear hN
  have hO := hS_gt.frm hF (by omega)
  clear hS_gt
  have hS_gt := hO
  clear hO
  clear hF
  go_wp2_with fail
  refine (sum_run gs (x0 ++ x1) w w6 hR hS_gs (by (try rw [List.length_nil]); (try simp only [List.length_append]); omega)).mono ?_
  rintro e w7 ⟨rfl, hF, hRn⟩
  have hO1 := hS_gs.frm hF (fun h => h)
  have hO2 := hS_gt.frm hF (fun h => h)
  clear hR hS_gs hS_gt hF
  have hR := hRn
  clear hRn
  have hS_gs := hO1
  clear hO1
  have hS_gt := hO2
  clear hO2
  go_wp2_with (first
    | ((with_reducible refine wpl_alloca (op := ⟨some 10, _, _, _, _, _⟩) rfl _ rfl _ zero32 ?_); intro gx w7a hB hs_gx hFa)
    | ((with_reducible refine wpl_storea agg32 rfl (.tmp 10) (.tmp 33) rfl gx (cellsB (shaL (x0 ++ x1))) rfl rfl _ _ hB (shaC_length _) zero32_size (cellsB_one _) ?_); intro w7b hBb hFb))
  have hg_gx : w.heap.size ≤ gx := by have := hR.size; omega
  have n1_gx : gs ≠ gx := by have := hS_gs.lt; omega
  have n2_gx : gt ≠ gx := by have := hS_gt.lt; omega
  have hO1 := (hS_gs.frm hFa (fun h => h)).frm hFb n1_gx
  have hO2 := (hS_gt.frm hFa (fun h => h)).frm hFb n2_gx
  have hRn := (hR.frm hFa (fun _ h => h.elim)).frm hFb (fun k hk => by omega)
  have hX := hBb
  clear hBb
  clear hR hS_gs hS_gt hB hFa hFb
  have hR := hRn
  clear hRn
  have hS_gs := hO1
  clear hO1
  have hS_gt := hO2
  clear hO2
  refine (write_old gt x0 x2 a2 m2 cap2 w w7b HR2.out HX2.out hc2 hR (hgt) hS_gt (by (try rw [List.length_nil]); (try simp only [List.length_append]); omega)).mono ?_
  rintro e w8 ⟨rfl, hN, hF, hRn⟩
  clear hR hS_gt
  have hR := hRn
  clear hRn
  have hS_gt := hN
  clear hN
  have hO := hS_gs.frm hF (by omega)
  clear hS_gs
  have hS_gs := hO
  clear hO
  have hX1 := hX.frm hF (by omega)
  clear hX
  have hX := hX1
  clear hX1
  clear hF
  go_wp2_with fail
  refine (sum_run gt (x0 ++ x2) w w8 hR hS_gt (by (try rw [List.length_nil]); (try simp only [List.length_append]); omega)).mono ?_
  rintro e w9 ⟨rfl, hF, hRn⟩
  have hO1 := hS_gs.frm hF (fun h => h)
  have hO2 := hS_gt.frm hF (fun h => h)
  have hX1 := hX.frm hF (fun h => h)
  clear hX
  have hX := hX1
  clear hX1
  clear hR hS_gs hS_gt hF
  have hR := hRn
  clear hRn
  have hS_gs := hO1
  clear hO1
  have hS_gt := hO2
  clear hO2
  go_wp2_with (first
    | ((with_reducible refine wpl_alloca (op := ⟨some 11, _, _, _, _, _⟩) rfl _ rfl _ zero32 ?_); intro gy w9a hB hs_gy hFa)
    | ((with_reducible refine wpl_storea agg32 rfl (.tmp 11) (.tmp 36) rfl gy (cellsB (shaL (x0 ++ x2))) rfl rfl _ _ hB (shaC_length _) zero32_size (cellsB_one _) ?_); intro w9b hBb hFb))
  have hg_gy : w.heap.size ≤ gy := by have := hR.size; omega
  have n1_gy : gs ≠ gy := by have := hS_gs.lt; omega
  have n2_gy : gt ≠ gy := by have := hS_gt.lt; omega
  have hO1 := (hS_gs.frm hFa (fun h => h)).frm hFb n1_gy
  have hO2 := (hS_gt.frm hFa (fun h => h)).frm hFb n2_gy
  have hRn := (hR.frm hFa (fun _ h => h.elim)).frm hFb (fun k hk => by omega)
  have n3 : gx ≠ gy := by have := hX.lt; omega
  have hX1 := (hX.frm hFa (fun h => h)).frm hFb n3
  clear hX
  have hX := hX1
  clear hX1
  have hY := hBb
  clear hBb
  clear hR hS_gs hS_gt hB hFa hFb
  have hR := hRn
  clear hRn
  have hS_gs := hO1
  clear hO1
  have hS_gt := hO2
  clear hO2
  refine (write_old gs (x0 ++ x1) x2 a2 m2 cap2 w w9b HR2.out HX2.out hc2 hR (hgs) hS_gs (by (try rw [List.length_nil]); (try simp only [List.length_append]); omega)).mono ?_
  rintro e w10 ⟨rfl, hN, hF, hRn⟩
  clear hR hS_gs
  have hR := hRn
  clear hRn
  have hS_gs := hN
  clear hN
  have hO := hS_gt.frm hF (by omega)
  clear hS_gt
  have hS_gt := hO
  clear hO
  have hX1 := hX.frm hF (by omega)
  clear hX
  have hX := hX1
  clear hX1
  have hY1 := hY.frm hF (by omega)
  clear hY
  have hY := hY1
  clear hY1
  clear hF
  go_wp2_with fail
  refine (write_old gt (x0 ++ x2) x1 a1 m1 cap1 w w10 HR1.out HX1.out hc1 hR (hgt) hS_gt (by (try rw [List.length_nil]); (try simp only [List.length_append]); omega)).mono ?_
  rintro e w11 ⟨rfl, hN, hF, hRn⟩
  clear hR hS_gt
  have hR := hRn
  clear hRn
  have hS_gt := hN
  clear hN
  have hO := hS_gs.frm hF (by omega)
  clear hS_gs
  have hS_gs := hO
  clear hO
  have hX1 := hX.frm hF (by omega)
  clear hX
  have hX := hX1
  clear hX1
  have hY1 := hY.frm hF (by omega)
  clear hY
  have hY := hY1
  clear hY1
  clear hF
  have q1 := eq_same (shaL (x0 ++ x1)) (shaL_length _)
  have q2 := eq_same (shaL (x0 ++ x2)) (shaL_length _)
  have q3 := eq_same (shaL (x0 ++ (x1 ++ x2))) (shaL_length _)
  have q4 := eq_same (shaL (x0 ++ (x2 ++ x1))) (shaL_length _)
  have hgd := guard32
  have F11 : Frm (fun _ => False) w11 w11.drew := (Frm.refl _ _).drew
  have hS1 := hS_gs.frm F11 (fun h => h)
  have hS2 := hS_gt.frm F11 (fun h => h)
  have hRd := hR.frm F11 (fun _ h => h.elim)
  have hXd := hX.frm F11 (fun h => h)
  have hYd := hY.frm F11 (fun h => h)
  clear hR hS_gs hS_gt hX hY F11
  go_wp2_with fail
  refine wp_region_held_drew (S := fun W => Blk W gx 25 (cellsB (shaL (x0 ++ x1))).toArray ∧ Blk W gy 25 (cellsB (shaL (x0 ++ x2))).toArray) (by kernel_rfl) (⟨hXd, hYd⟩) ?_
  intro hHeld
  obtain ⟨W0, hW0⟩ : ∃ W0, W0 = w11.drew := ⟨_, rfl⟩
  rw [← hW0] at hS1 hS2 hRd hXd hYd hHeld ⊢
  clear hW0
  have S10 := hS1
  clear hS1
  have S20 := hS2
  clear hS2
  have R0 := hRd
  clear hRd
  have X0 := hXd
  clear hXd
  have Y0 := hYd
  clear hYd
  refine wpAnyH_take (i := 0) (v := ?v1) rfl (by kernel_rfl) (by kernel_rfl) (by kernel_rfl) (fun _ _ _ h => h) (Or.inl ⟨by rfl, ?hy1⟩) (by assumption) ?rest1
  case hy1 => (intro w hSw; (try dsimp only at hSw); go_simp; try with_reducible rfl)
  try simp only [Act.put, List.getElem_toArray, List.getElem_cons_zero, List.setIfInBounds_toArray, List.set_cons_zero, List.set_cons_succ]
  refine wpAnyH_take (i := 1) (v := ?v2) rfl (by kernel_rfl) (by kernel_rfl) (by kernel_rfl) (fun _ _ _ h => h) (Or.inl ⟨by rfl, ?hy2⟩) (by assumption) ?rest2
  case hy2 => (intro w hSw; (try dsimp only at hSw); go_simp; try with_reducible rfl)
  try simp only [Act.put, List.getElem_toArray, List.getElem_cons_zero, List.getElem_cons_succ, List.setIfInBounds_toArray, List.set_cons_zero, List.set_cons_succ]
  refine wpAnyH_take (i := 2) (v := ?v3) rfl (by kernel_rfl) (by kernel_rfl) (by kernel_rfl) (fun _ _ _ h => h) (Or.inl ⟨by rfl, ?hy3⟩) (by assumption) ?rest3
  case hy3 => (intro w hSw; refine held_load (.tmp 10) ?_ gx ?_ (shaL (x0 ++ x1)) (shaL_length _) hSw.1 <;> rfl)
  try simp only [Act.put, List.getElem_toArray, List.getElem_cons_zero, List.getElem_cons_succ, List.setIfInBounds_toArray, List.set_cons_zero, List.set_cons_succ]
  refine wpAnyH_take (i := 3) (v := ?v4) rfl (by kernel_rfl) (by kernel_rfl) (by kernel_rfl) (fun _ _ _ h => h) (Or.inl ⟨by rfl, ?hy4⟩) (by assumption) ?rest4
  case hy4 => (intro w hSw; (try dsimp only at hSw); go_simp; try with_reducible rfl)
  try simp only [Act.put, List.getElem_toArray, List.getElem_cons_zero, List.getElem_cons_succ, List.setIfInBounds_toArray, List.set_cons_zero, List.set_cons_succ]
  refine wpAnyH_take (i := 4) (v := ?v5) rfl (by kernel_rfl) (by kernel_rfl) (by kernel_rfl) (fun _ _ _ h => h) (Or.inl ⟨by rfl, ?hy5⟩) (by assumption) ?rest5
  case hy5 => (intro w hSw; (try dsimp only at hSw); go_simp; try with_reducible rfl)
  try simp only [Act.put, List.getElem_toArray, List.getElem_cons_zero, List.getElem_cons_succ, List.setIfInBounds_toArray, List.set_cons_zero, List.set_cons_succ]
  refine wpAnyH_ready (rs := [5]) (by kernel_rfl) (by simp) ?_
  refine AllReadyH.cons rfl (fun K hK => ?_) AllReadyH.nil
  go_simp
  have F1 : Frm (fun _ => False) W0 (W0.alloc (.cells #[.slice a0 m0 cap0, .slice a1 m1 cap1] 24)) := Frm.alloc _ _ _
  have R1 := R0.frm F1 (fun _ h => h.elim)
  have S11 := S10.frm F1 (fun h => h)
  have S21 := S20.frm F1 (fun h => h)
  have X1 := X0.frm F1 (fun h => h)
  have Y1 := Y0.frm F1 (fun h => h)
  refine hK.out _ _ (⟨X1, Y1⟩) (fun hHeld => ?_)
  clear hK K
  refine wpAnyH_ready (rs := [6]) (by kernel_rfl) (by simp) ?_
  refine AllReadyH.cons rfl (fun K hK => ?_) AllReadyH.nil
  go_simp
  refine (sums_run w W0 [.slice a0 m0 cap0, .slice a1 m1 cap1] [x0, x1] (x0 ++ x1) (All2.cons (prt_old HR0.out HX0.out hc0 R0.below) (All2.cons (prt_old HR1.out HX1.out hc1 R0.below) All2.nil)) (by simp) R0 (by (try rw [List.length_nil]); (try simp only [List.length_append]); omega) (by simp)).mono ?_
  rintro e W2 ⟨rfl, F2, R2⟩
  have S12 := S10.frm F2 (fun h => h)
  have S22 := S20.frm F2 (fun h => h)
  have X2 := X0.frm F2 (fun h => h)
  have Y2 := Y0.frm F2 (fun h => h)
  refine hK.out _ _ (⟨X2, Y2⟩) (fun hHeld => ?_)
  clear hK K
  refine wpAnyH_take (i := 7) (v := ?v6) rfl (by kernel_rfl) (by kernel_rfl) (by kernel_rfl) (fun _ _ _ h => h) (Or.inl ⟨by rfl, ?hy6⟩) (by assumption) ?rest6
  case hy6 => (intro w hSw; (try dsimp only at hSw); go_simp; try with_reducible rfl)
  try simp only [Act.put, List.getElem_toArray, List.getElem_cons_zero, List.getElem_cons_succ, List.setIfInBounds_toArray, List.set_cons_zero, List.set_cons_succ]
  refine wpAnyH_take (i := 8) (v := ?v7) rfl (by kernel_rfl) (by kernel_rfl) (by kernel_rfl) (fun _ _ _ h => h) (Or.inl ⟨by rfl, ?hy7⟩) (by assumption) ?rest7
  case hy7 => (intro w hSw; (try dsimp only at hSw); go_simp; try with_reducible rfl)
  try simp only [Act.put, List.getElem_toArray, List.getElem_cons_zero, List.getElem_cons_succ, List.setIfInBounds_toArray, List.set_cons_zero, List.set_cons_succ]
  refine wpAnyH_take (i := 9) (v := ?v8) rfl (by kernel_rfl) (by kernel_rfl) (by kernel_rfl) (fun _ _ _ h => h) (Or.inl ⟨by rfl, ?hy8⟩) (by assumption) ?rest8
  case hy8 => (intro w hSw; (try dsimp only at hSw); go_simp; try with_reducible rfl)
  try simp only [Act.put, List.getElem_toArray, List.getElem_cons_zero, List.getElem_cons_succ, List.setIfInBounds_toArray, List.set_cons_zero, List.set_cons_succ]
  refine wpAnyH_take (i := 10) (v := ?v9) rfl (by kernel_rfl) (by kernel_rfl) (by kernel_rfl) (fun _ _ _ h => h) (Or.inl ⟨by rfl, ?hy9⟩) (by assumption) ?rest9
  case hy9 => (intro w hSw; refine held_load (.tmp 11) ?_ gy ?_ (shaL (x0 ++ x2)) (shaL_length _) hSw.2 <;> rfl)
  try simp only [Act.put, List.getElem_toArray, List.getElem_cons_zero, List.getElem_cons_succ, List.setIfInBounds_toArray, List.set_cons_zero, List.set_cons_succ]
  refine wpAnyH_take (i := 11) (v := ?v10) rfl (by kernel_rfl) (by kernel_rfl) (by kernel_rfl) (fun _ _ _ h => h) (Or.inl ⟨by rfl, ?hy10⟩) (by assumption) ?rest10
  case hy10 => (intro w hSw; (try dsimp only at hSw); go_simp; try with_reducible rfl)
  try simp only [Act.put, List.getElem_toArray, List.getElem_cons_zero, List.getElem_cons_succ, List.setIfInBounds_toArray, List.set_cons_zero, List.set_cons_succ]
  refine wpAnyH_take (i := 12) (v := ?v11) rfl (by kernel_rfl) (by kernel_rfl) (by kernel_rfl) (fun _ _ _ h => h) (Or.inl ⟨by rfl, ?hy11⟩) (by assumption) ?rest11
  case hy11 => (intro w hSw; (try dsimp only at hSw); go_simp; try with_reducible rfl)
  try simp only [Act.put, List.getElem_toArray, List.getElem_cons_zero, List.getElem_cons_succ, List.setIfInBounds_toArray, List.set_cons_zero, List.set_cons_succ]
  refine wpAnyH_ready (rs := [13]) (by kernel_rfl) (by simp) ?_
  refine AllReadyH.cons rfl (fun K hK => ?_) AllReadyH.nil
  go_simp
  have F3 : Frm (fun _ => False) W2 (W2.alloc (.cells #[.slice a0 m0 cap0, .slice a2 m2 cap2] 24)) := Frm.alloc _ _ _
  have R3 := R2.frm F3 (fun _ h => h.elim)
  have S13 := S12.frm F3 (fun h => h)
  have S23 := S22.frm F3 (fun h => h)
  have X3 := X2.frm F3 (fun h => h)
  have Y3 := Y2.frm F3 (fun h => h)
  refine hK.out _ _ (⟨X3, Y3⟩) (fun hHeld => ?_)
  clear hK K
  refine wpAnyH_ready (rs := [14]) (by kernel_rfl) (by simp) ?_
  refine AllReadyH.cons rfl (fun K hK => ?_) AllReadyH.nil
  go_simp
  refine (sums_run w W2 [.slice a0 m0 cap0, .slice a2 m2 cap2] [x0, x2] (x0 ++ x2) (All2.cons (prt_old HR0.out HX0.out hc0 R2.below) (All2.cons (prt_old HR2.out HX2.out hc2 R2.below) All2.nil)) (by simp) R2 (by (try rw [List.length_nil]); (try simp only [List.length_append]); omega) (by simp)).mono ?_
  rintro e W4 ⟨rfl, F4, R4⟩
  have S14 := S12.frm F4 (fun h => h)
  have S24 := S22.frm F4 (fun h => h)
  have X4 := X2.frm F4 (fun h => h)
  have Y4 := Y2.frm F4 (fun h => h)
  refine hK.out _ _ (⟨X4, Y4⟩) (fun hHeld => ?_)
  clear hK K
  refine wpAnyH_take (i := 15) (v := ?v12) rfl (by kernel_rfl) (by kernel_rfl) (by kernel_rfl) (fun _ _ _ h => h) (Or.inl ⟨by rfl, ?hy12⟩) (by assumption) ?rest12
  case hy12 => (intro w hSw; (try dsimp only at hSw); go_simp; try with_reducible rfl)
  try simp only [Act.put, List.getElem_toArray, List.getElem_cons_zero, List.getElem_cons_succ, List.setIfInBounds_toArray, List.set_cons_zero, List.set_cons_succ]
  refine wpAnyH_take (i := 16) (v := ?v13) rfl (by kernel_rfl) (by kernel_rfl) (by kernel_rfl) (fun _ _ _ h => h) (Or.inl ⟨by rfl, ?hy13⟩) (by assumption) ?rest13
  case hy13 => (intro w hSw; (try dsimp only at hSw); go_simp; try with_reducible rfl)
  try simp only [Act.put, List.getElem_toArray, List.getElem_cons_zero, List.getElem_cons_succ, List.setIfInBounds_toArray, List.set_cons_zero, List.set_cons_succ]
  refine wpAnyH_take (i := 17) (v := ?v14) rfl (by kernel_rfl) (by kernel_rfl) (by kernel_rfl) (fun _ _ _ h => h) (Or.inl ⟨by rfl, ?hy14⟩) (by assumption) ?rest14
  case hy14 => (intro w hSw; (try dsimp only at hSw); go_simp; try with_reducible rfl)
  try simp only [Act.put, List.getElem_toArray, List.getElem_cons_zero, List.getElem_cons_succ, List.setIfInBounds_toArray, List.set_cons_zero, List.set_cons_succ]
  refine wpAnyH_take (i := 19) (v := ?v15) rfl (by kernel_rfl) (by kernel_rfl) (by kernel_rfl) (fun _ _ _ h => h) (Or.inl ⟨by rfl, ?hy15⟩) (by assumption) ?rest15
  case hy15 => (intro w hSw; (try dsimp only at hSw); go_simp; try with_reducible rfl)
  try simp only [Act.put, List.getElem_toArray, List.getElem_cons_zero, List.getElem_cons_succ, List.setIfInBounds_toArray, List.set_cons_zero, List.set_cons_succ]
  refine wpAnyH_take (i := 20) (v := ?v16) rfl (by kernel_rfl) (by kernel_rfl) (by kernel_rfl) (fun _ _ _ h => h) (Or.inl ⟨by rfl, ?hy16⟩) (by assumption) ?rest16
  case hy16 => (intro w hSw; (try dsimp only at hSw); go_simp; try with_reducible rfl)
  try simp only [Act.put, List.getElem_toArray, List.getElem_cons_zero, List.getElem_cons_succ, List.setIfInBounds_toArray, List.set_cons_zero, List.set_cons_succ]
  refine wpAnyH_take (i := 21) (v := ?v17) rfl (by kernel_rfl) (by kernel_rfl) (by kernel_rfl) (fun _ _ _ h => h) (Or.inl ⟨by rfl, ?hy17⟩) (by assumption) ?rest17
  case hy17 => (intro w hSw; (try dsimp only at hSw); go_simp; try with_reducible rfl)
  try simp only [Act.put, List.getElem_toArray, List.getElem_cons_zero, List.getElem_cons_succ, List.setIfInBounds_toArray, List.set_cons_zero, List.set_cons_succ]
  refine wpAnyH_ready (rs := [18, 22]) (by kernel_rfl) (by simp) ?_
  refine AllReadyH.cons rfl (fun K hK => ?_) ?_
  · go_simp
    refine (sum_run gs (x0 ++ x1 ++ x2) w W4 R4 S14 (by (try rw [List.length_nil]); (try simp only [List.length_append]); omega)).mono ?_
    rintro e W5 ⟨rfl, F5, R5⟩
    have S15 := S14.frm F5 (fun h => h)
    have S25 := S24.frm F5 (fun h => h)
    have X5 := X4.frm F5 (fun h => h)
    have Y5 := Y4.frm F5 (fun h => h)
    refine hK.out _ _ (⟨X5, Y5⟩) (fun hHeld => ?_)
    clear hK K
    refine wpAnyH_ready (rs := [22]) (by kernel_rfl) (by simp) ?_
    refine AllReadyH.cons rfl (fun K hK => ?_) AllReadyH.nil
    go_simp
    have F6 : Frm (fun _ => False) W5 (W5.alloc (.cells #[.slice a0 m0 cap0, .slice a1 m1 cap1, .slice a2 m2 cap2] 24)) := Frm.alloc _ _ _
    have R6 := R5.frm F6 (fun _ h => h.elim)
    have S16 := S15.frm F6 (fun h => h)
    have S26 := S25.frm F6 (fun h => h)
    have X6 := X5.frm F6 (fun h => h)
    have Y6 := Y5.frm F6 (fun h => h)
    refine hK.out _ _ (⟨X6, Y6⟩) (fun hHeld => ?_)
    clear hK K
    refine wpAnyH_ready (rs := [23]) (by kernel_rfl) (by simp) ?_
    refine AllReadyH.cons rfl (fun K hK => ?_) AllReadyH.nil
    go_simp
    refine (sums_run w W5 [.slice a0 m0 cap0, .slice a1 m1 cap1, .slice a2 m2 cap2] [x0, x1, x2] (x0 ++ x1 ++ x2) (All2.cons (prt_old HR0.out HX0.out hc0 R5.below) (All2.cons (prt_old HR1.out HX1.out hc1 R5.below) (All2.cons (prt_old HR2.out HX2.out hc2 R5.below) All2.nil))) (by simp) R5 (by (try rw [List.length_nil]); (try simp only [List.length_append]); omega) (by simp)).mono ?_
    rintro e W7 ⟨rfl, F7, R7⟩
    have S17 := S15.frm F7 (fun h => h)
    have S27 := S25.frm F7 (fun h => h)
    have X7 := X5.frm F7 (fun h => h)
    have Y7 := Y5.frm F7 (fun h => h)
    refine hK.out _ _ (⟨X7, Y7⟩) (fun hHeld => ?_)
    clear hK K
    refine wpAnyH_take (i := 24) (v := ?v18) rfl (by kernel_rfl) (by kernel_rfl) (by kernel_rfl) (fun _ _ _ h => h) (Or.inl ⟨by rfl, ?hy18⟩) (by assumption) ?rest18
    case hy18 => (intro w hSw; (try dsimp only at hSw); go_simp; try with_reducible rfl)
    try simp only [Act.put, List.getElem_toArray, List.getElem_cons_zero, List.getElem_cons_succ, List.setIfInBounds_toArray, List.set_cons_zero, List.set_cons_succ]
    refine wpAnyH_take (i := 25) (v := ?v19) rfl (by kernel_rfl) (by kernel_rfl) (by kernel_rfl) (fun _ _ _ h => h) (Or.inl ⟨by rfl, ?hy19⟩) (by assumption) ?rest19
    case hy19 => (intro w hSw; (try dsimp only at hSw); go_simp; try with_reducible rfl)
    try simp only [Act.put, List.getElem_toArray, List.getElem_cons_zero, List.getElem_cons_succ, List.setIfInBounds_toArray, List.set_cons_zero, List.set_cons_succ]
    refine wpAnyH_take (i := 26) (v := ?v20) rfl (by kernel_rfl) (by kernel_rfl) (by kernel_rfl) (fun _ _ _ h => h) (Or.inl ⟨by rfl, ?hy20⟩) (by assumption) ?rest20
    case hy20 => (intro w hSw; (try dsimp only at hSw); go_simp; try with_reducible rfl)
    try simp only [Act.put, List.getElem_toArray, List.getElem_cons_zero, List.getElem_cons_succ, List.setIfInBounds_toArray, List.set_cons_zero, List.set_cons_succ]
    refine wpAnyH_take (i := 28) (v := ?v21) rfl (by kernel_rfl) (by kernel_rfl) (by kernel_rfl) (fun _ _ _ h => h) (Or.inl ⟨by rfl, ?hy21⟩) (by assumption) ?rest21
    case hy21 => (intro w hSw; (try dsimp only at hSw); go_simp; try with_reducible rfl)
    try simp only [Act.put, List.getElem_toArray, List.getElem_cons_zero, List.getElem_cons_succ, List.setIfInBounds_toArray, List.set_cons_zero, List.set_cons_succ]
    refine wpAnyH_take (i := 29) (v := ?v22) rfl (by kernel_rfl) (by kernel_rfl) (by kernel_rfl) (fun _ _ _ h => h) (Or.inl ⟨by rfl, ?hy22⟩) (by assumption) ?rest22
    case hy22 => (intro w hSw; (try dsimp only at hSw); go_simp; try with_reducible rfl)
    try simp only [Act.put, List.getElem_toArray, List.getElem_cons_zero, List.getElem_cons_succ, List.setIfInBounds_toArray, List.set_cons_zero, List.set_cons_succ]
    refine wpAnyH_take (i := 30) (v := ?v23) rfl (by kernel_rfl) (by kernel_rfl) (by kernel_rfl) (fun _ _ _ h => h) (Or.inl ⟨by rfl, ?hy23⟩) (by assumption) ?rest23
    case hy23 => (intro w hSw; (try dsimp only at hSw); go_simp; try with_reducible rfl)
    try simp only [Act.put, List.getElem_toArray, List.getElem_cons_zero, List.getElem_cons_succ, List.setIfInBounds_toArray, List.set_cons_zero, List.set_cons_succ]
    refine wpAnyH_ready (rs := [27, 31]) (by kernel_rfl) (by simp) ?_
    refine AllReadyH.cons rfl (fun K hK => ?_) ?_
    · go_simp
      refine (sum_run gt (x0 ++ x2 ++ x1) w W7 R7 S27 (by (try rw [List.length_nil]); (try simp only [List.length_append]); omega)).mono ?_
      rintro e W8 ⟨rfl, F8, R8⟩
      have S18 := S17.frm F8 (fun h => h)
      have S28 := S27.frm F8 (fun h => h)
      have X8 := X7.frm F8 (fun h => h)
      have Y8 := Y7.frm F8 (fun h => h)
      refine hK.out _ _ (⟨X8, Y8⟩) (fun hHeld => ?_)
      clear hK K
      refine wpAnyH_ready (rs := [31]) (by kernel_rfl) (by simp) ?_
      refine AllReadyH.cons rfl (fun K hK => ?_) AllReadyH.nil
      go_simp
      have F9 : Frm (fun _ => False) W8 (W8.alloc (.cells #[.slice a0 m0 cap0, .slice a2 m2 cap2, .slice a1 m1 cap1] 24)) := Frm.alloc _ _ _
      have R9 := R8.frm F9 (fun _ h => h.elim)
      have S19 := S18.frm F9 (fun h => h)
      have S29 := S28.frm F9 (fun h => h)
      have X9 := X8.frm F9 (fun h => h)
      have Y9 := Y8.frm F9 (fun h => h)
      refine hK.out _ _ (⟨X9, Y9⟩) (fun hHeld => ?_)
      clear hK K
      refine wpAnyH_ready (rs := [32]) (by kernel_rfl) (by simp) ?_
      refine AllReadyH.cons rfl (fun K hK => ?_) AllReadyH.nil
      go_simp
      refine (sums_run w W8 [.slice a0 m0 cap0, .slice a2 m2 cap2, .slice a1 m1 cap1] [x0, x2, x1] (x0 ++ x2 ++ x1) (All2.cons (prt_old HR0.out HX0.out hc0 R8.below) (All2.cons (prt_old HR2.out HX2.out hc2 R8.below) (All2.cons (prt_old HR1.out HX1.out hc1 R8.below) All2.nil))) (by simp) R8 (by (try rw [List.length_nil]); (try simp only [List.length_append]); omega) (by simp)).mono ?_
      rintro e W10 ⟨rfl, F10, R10⟩
      have S110 := S18.frm F10 (fun h => h)
      have S210 := S28.frm F10 (fun h => h)
      have X10 := X8.frm F10 (fun h => h)
      have Y10 := Y8.frm F10 (fun h => h)
      refine hK.out _ _ (⟨X10, Y10⟩) (fun hHeld => ?_)
      clear hK K
      refine wpAnyH_take (i := 33) (v := ?v24) rfl (by kernel_rfl) (by kernel_rfl) (by kernel_rfl) (fun _ _ _ h => h) (Or.inl ⟨by rfl, ?hy24⟩) (by assumption) ?rest24
      case hy24 => (intro w hSw; (try dsimp only at hSw); go_simp; try with_reducible rfl)
      try simp only [Act.put, List.getElem_toArray, List.getElem_cons_zero, List.getElem_cons_succ, List.setIfInBounds_toArray, List.set_cons_zero, List.set_cons_succ]
      refine wpAnyH_take (i := 34) (v := ?v25) rfl (by kernel_rfl) (by kernel_rfl) (by kernel_rfl) (fun _ _ _ h => h) (Or.inl ⟨by rfl, ?hy25⟩) (by assumption) ?rest25
      case hy25 => (intro w hSw; (try dsimp only at hSw); go_simp; try with_reducible rfl)
      try simp only [Act.put, List.getElem_toArray, List.getElem_cons_zero, List.getElem_cons_succ, List.setIfInBounds_toArray, List.set_cons_zero, List.set_cons_succ]
      refine wpAnyH_take (i := 35) (v := ?v26) rfl (by kernel_rfl) (by kernel_rfl) (by kernel_rfl) (fun _ _ _ h => h) (Or.inl ⟨by rfl, ?hy26⟩) (by assumption) ?rest26
      case hy26 => (intro w hSw; (try dsimp only at hSw); go_simp; try with_reducible rfl)
      try simp only [Act.put, List.getElem_toArray, List.getElem_cons_zero, List.getElem_cons_succ, List.setIfInBounds_toArray, List.set_cons_zero, List.set_cons_succ]
      refine wpAnyH_done (by kernel_rfl) ?_ _
      go_wp2
      go_ret
      exact ⟨rfl, R10.below⟩
    refine AllReadyH.cons rfl (fun K hK => ?_) AllReadyH.nil
    go_simp
    have F8 : Frm (fun _ => False) W7 (W7.alloc (.cells #[.slice a0 m0 cap0, .slice a2 m2 cap2, .slice a1 m1 cap1] 24)) := Frm.alloc _ _ _
    have R8 := R7.frm F8 (fun _ h => h.elim)
    have S18 := S17.frm F8 (fun h => h)
    have S28 := S27.frm F8 (fun h => h)
    have X8 := X7.frm F8 (fun h => h)
    have Y8 := Y7.frm F8 (fun h => h)
    refine hK.out _ _ (⟨X8, Y8⟩) (fun hHeld => ?_)
    clear hK K
    refine wpAnyH_ready (rs := [27]) (by kernel_rfl) (by simp) ?_
    refine AllReadyH.cons rfl (fun K hK => ?_) AllReadyH.nil
    go_simp
    refine (sum_run gt (x0 ++ x2 ++ x1) w _ R8 S28 (by (try rw [List.length_nil]); (try simp only [List.length_append]); omega)).mono ?_
    rintro e W9 ⟨rfl, F9, R9⟩
    have S19 := S18.frm F9 (fun h => h)
    have S29 := S28.frm F9 (fun h => h)
    have X9 := X8.frm F9 (fun h => h)
    have Y9 := Y8.frm F9 (fun h => h)
    refine hK.out _ _ (⟨X9, Y9⟩) (fun hHeld => ?_)
    clear hK K
    refine wpAnyH_ready (rs := [32]) (by kernel_rfl) (by simp) ?_
    refine AllReadyH.cons rfl (fun K hK => ?_) AllReadyH.nil
    go_simp
    refine (sums_late w W7 W9 [.slice a0 m0 cap0, .slice a2 m2 cap2, .slice a1 m1 cap1] [x0, x2, x1] (x0 ++ x2 ++ x1) (All2.cons (prt_old HR0.out HX0.out hc0 R7.below) (All2.cons (prt_old HR2.out HX2.out hc2 R7.below) (All2.cons (prt_old HR1.out HX1.out hc1 R7.below) All2.nil))) (by simp) F9 R9 (by (try rw [List.length_nil]); (try simp only [List.length_append]); omega) (by simp)).mono ?_
    rintro e W10 ⟨rfl, F10, R10⟩
    have S110 := S19.frm F10 (fun h => h)
    have S210 := S29.frm F10 (fun h => h)
    have X10 := X9.frm F10 (fun h => h)
    have Y10 := Y9.frm F10 (fun h => h)
    refine hK.out _ _ (⟨X10, Y10⟩) (fun hHeld => ?_)
    clear hK K
    refine wpAnyH_take (i := 33) (v := ?v27) rfl (by kernel_rfl) (by kernel_rfl) (by kernel_rfl) (fun _ _ _ h => h) (Or.inl ⟨by rfl, ?hy27⟩) (by assumption) ?rest27
    case hy27 => (intro w hSw; (try dsimp only at hSw); go_simp; try with_reducible rfl)
    try simp only [Act.put, List.getElem_toArray, List.getElem_cons_zero, List.getElem_cons_succ, List.setIfInBounds_toArray, List.set_cons_zero, List.set_cons_succ]
    refine wpAnyH_take (i := 34) (v := ?v28) rfl (by kernel_rfl) (by kernel_rfl) (by kernel_rfl) (fun _ _ _ h => h) (Or.inl ⟨by rfl, ?hy28⟩) (by assumption) ?rest28
    case hy28 => (intro w hSw; (try dsimp only at hSw); go_simp; try with_reducible rfl)
    try simp only [Act.put, List.getElem_toArray, List.getElem_cons_zero, List.getElem_cons_succ, List.setIfInBounds_toArray, List.set_cons_zero, List.set_cons_succ]
    refine wpAnyH_take (i := 35) (v := ?v29) rfl (by kernel_rfl) (by kernel_rfl) (by kernel_rfl) (fun _ _ _ h => h) (Or.inl ⟨by rfl, ?hy29⟩) (by assumption) ?rest29
    case hy29 => (intro w hSw; (try dsimp only at hSw); go_simp; try with_reducible rfl)
    try simp only [Act.put, List.getElem_toArray, List.getElem_cons_zero, List.getElem_cons_succ, List.setIfInBounds_toArray, List.set_cons_zero, List.set_cons_succ]
    refine wpAnyH_done (by kernel_rfl) ?_ _
    go_wp2
    go_ret
    exact ⟨rfl, R10.below⟩
  refine AllReadyH.cons rfl (fun K hK => ?_) AllReadyH.nil
  go_simp
  have F5 : Frm (fun _ => False) W4 (W4.alloc (.cells #[.slice a0 m0 cap0, .slice a1 m1 cap1, .slice a2 m2 cap2] 24)) := Frm.alloc _ _ _
  have R5 := R4.frm F5 (fun _ h => h.elim)
  have S15 := S14.frm F5 (fun h => h)
  have S25 := S24.frm F5 (fun h => h)
  have X5 := X4.frm F5 (fun h => h)
  have Y5 := Y4.frm F5 (fun h => h)
  refine hK.out _ _ (⟨X5, Y5⟩) (fun hHeld => ?_)
  clear hK K
  refine wpAnyH_ready (rs := [18]) (by kernel_rfl) (by simp) ?_
  refine AllReadyH.cons rfl (fun K hK => ?_) AllReadyH.nil
  go_simp
  refine (sum_run gs (x0 ++ x1 ++ x2) w _ R5 S15 (by (try rw [List.length_nil]); (try simp only [List.length_append]); omega)).mono ?_
  rintro e W6 ⟨rfl, F6, R6⟩
  have S16 := S15.frm F6 (fun h => h)
  have S26 := S25.frm F6 (fun h => h)
  have X6 := X5.frm F6 (fun h => h)
  have Y6 := Y5.frm F6 (fun h => h)
  refine hK.out _ _ (⟨X6, Y6⟩) (fun hHeld => ?_)
  clear hK K
  refine wpAnyH_ready (rs := [23]) (by kernel_rfl) (by simp) ?_
  refine AllReadyH.cons rfl (fun K hK => ?_) AllReadyH.nil
  go_simp
  refine (sums_late w W4 W6 [.slice a0 m0 cap0, .slice a1 m1 cap1, .slice a2 m2 cap2] [x0, x1, x2] (x0 ++ x1 ++ x2) (All2.cons (prt_old HR0.out HX0.out hc0 R4.below) (All2.cons (prt_old HR1.out HX1.out hc1 R4.below) (All2.cons (prt_old HR2.out HX2.out hc2 R4.below) All2.nil))) (by simp) F6 R6 (by (try rw [List.length_nil]); (try simp only [List.length_append]); omega) (by simp)).mono ?_
  rintro e W7 ⟨rfl, F7, R7⟩
  have S17 := S16.frm F7 (fun h => h)
  have S27 := S26.frm F7 (fun h => h)
  have X7 := X6.frm F7 (fun h => h)
  have Y7 := Y6.frm F7 (fun h => h)
  refine hK.out _ _ (⟨X7, Y7⟩) (fun hHeld => ?_)
  clear hK K
  refine wpAnyH_take (i := 24) (v := ?v30) rfl (by kernel_rfl) (by kernel_rfl) (by kernel_rfl) (fun _ _ _ h => h) (Or.inl ⟨by rfl, ?hy30⟩) (by assumption) ?rest30
  case hy30 => (intro w hSw; (try dsimp only at hSw); go_simp; try with_reducible rfl)
  try simp only [Act.put, List.getElem_toArray, List.getElem_cons_zero, List.getElem_cons_succ, List.setIfInBounds_toArray, List.set_cons_zero, List.set_cons_succ]
  refine wpAnyH_take (i := 25) (v := ?v31) rfl (by kernel_rfl) (by kernel_rfl) (by kernel_rfl) (fun _ _ _ h => h) (Or.inl ⟨by rfl, ?hy31⟩) (by assumption) ?rest31
  case hy31 => (intro w hSw; (try dsimp only at hSw); go_simp; try with_reducible rfl)
  try simp only [Act.put, List.getElem_toArray, List.getElem_cons_zero, List.getElem_cons_succ, List.setIfInBounds_toArray, List.set_cons_zero, List.set_cons_succ]
  refine wpAnyH_take (i := 26) (v := ?v32) rfl (by kernel_rfl) (by kernel_rfl) (by kernel_rfl) (fun _ _ _ h => h) (Or.inl ⟨by rfl, ?hy32⟩) (by assumption) ?rest32
  case hy32 => (intro w hSw; (try dsimp only at hSw); go_simp; try with_reducible rfl)
  try simp only [Act.put, List.getElem_toArray, List.getElem_cons_zero, List.getElem_cons_succ, List.setIfInBounds_toArray, List.set_cons_zero, List.set_cons_succ]
  refine wpAnyH_take (i := 28) (v := ?v33) rfl (by kernel_rfl) (by kernel_rfl) (by kernel_rfl) (fun _ _ _ h => h) (Or.inl ⟨by rfl, ?hy33⟩) (by assumption) ?rest33
  case hy33 => (intro w hSw; (try dsimp only at hSw); go_simp; try with_reducible rfl)
  try simp only [Act.put, List.getElem_toArray, List.getElem_cons_zero, List.getElem_cons_succ, List.setIfInBounds_toArray, List.set_cons_zero, List.set_cons_succ]
  refine wpAnyH_take (i := 29) (v := ?v34) rfl (by kernel_rfl) (by kernel_rfl) (by kernel_rfl) (fun _ _ _ h => h) (Or.inl ⟨by rfl, ?hy34⟩) (by assumption) ?rest34
  case hy34 => (intro w hSw; (try dsimp only at hSw); go_simp; try with_reducible rfl)
  try simp only [Act.put, List.getElem_toArray, List.getElem_cons_zero, List.getElem_cons_succ, List.setIfInBounds_toArray, List.set_cons_zero, List.set_cons_succ]
  refine wpAnyH_take (i := 30) (v := ?v35) rfl (by kernel_rfl) (by kernel_rfl) (by kernel_rfl) (fun _ _ _ h => h) (Or.inl ⟨by rfl, ?hy35⟩) (by assumption) ?rest35
  case hy35 => (intro w hSw; (try dsimp only at hSw); go_simp; try with_reducible rfl)
  try simp only [Act.put, List.getElem_toArray, List.getElem_cons_zero, List.getElem_cons_succ, List.setIfInBounds_toArray, List.set_cons_zero, List.set_cons_succ]
  refine wpAnyH_ready (rs := [27, 31]) (by kernel_rfl) (by simp) ?_
  refine AllReadyH.cons rfl (fun K hK => ?_) ?_
  · go_simp
    refine (sum_run gt (x0 ++ x2 ++ x1) w W7 R7 S27 (by (try rw [List.length_nil]); (try simp only [List.length_append]); omega)).mono ?_
    rintro e W8 ⟨rfl, F8, R8⟩
    have S18 := S17.frm F8 (fun h => h)
    have S28 := S27.frm F8 (fun h => h)
    have X8 := X7.frm F8 (fun h => h)
    have Y8 := Y7.frm F8 (fun h => h)
    refine hK.out _ _ (⟨X8, Y8⟩) (fun hHeld => ?_)
    clear hK K
    refine wpAnyH_ready (rs := [31]) (by kernel_rfl) (by simp) ?_
    refine AllReadyH.cons rfl (fun K hK => ?_) AllReadyH.nil
    go_simp
    have F9 : Frm (fun _ => False) W8 (W8.alloc (.cells #[.slice a0 m0 cap0, .slice a2 m2 cap2, .slice a1 m1 cap1] 24)) := Frm.alloc _ _ _
    have R9 := R8.frm F9 (fun _ h => h.elim)
    have S19 := S18.frm F9 (fun h => h)
    have S29 := S28.frm F9 (fun h => h)
    have X9 := X8.frm F9 (fun h => h)
    have Y9 := Y8.frm F9 (fun h => h)
    refine hK.out _ _ (⟨X9, Y9⟩) (fun hHeld => ?_)
    clear hK K
    refine wpAnyH_ready (rs := [32]) (by kernel_rfl) (by simp) ?_
    refine AllReadyH.cons rfl (fun K hK => ?_) AllReadyH.nil
    go_simp
    refine (sums_run w W8 [.slice a0 m0 cap0, .slice a2 m2 cap2, .slice a1 m1 cap1] [x0, x2, x1] (x0 ++ x2 ++ x1) (All2.cons (prt_old HR0.out HX0.out hc0 R8.below) (All2.cons (prt_old HR2.out HX2.out hc2 R8.below) (All2.cons (prt_old HR1.out HX1.out hc1 R8.below) All2.nil))) (by simp) R8 (by (try rw [List.length_nil]); (try simp only [List.length_append]); omega) (by simp)).mono ?_
    rintro e W10 ⟨rfl, F10, R10⟩
    have S110 := S18.frm F10 (fun h => h)
    have S210 := S28.frm F10 (fun h => h)
    have X10 := X8.frm F10 (fun h => h)
    have Y10 := Y8.frm F10 (fun h => h)
    refine hK.out _ _ (⟨X10, Y10⟩) (fun hHeld => ?_)
    clear hK K
    refine wpAnyH_take (i := 33) (v := ?v36) rfl (by kernel_rfl) (by kernel_rfl) (by kernel_rfl) (fun _ _ _ h => h) (Or.inl ⟨by rfl, ?hy36⟩) (by assumption) ?rest36
    case hy36 => (intro w hSw; (try dsimp only at hSw); go_simp; try with_reducible rfl)
    try simp only [Act.put, List.getElem_toArray, List.getElem_cons_zero, List.getElem_cons_succ, List.setIfInBounds_toArray, List.set_cons_zero, List.set_cons_succ]
    refine wpAnyH_take (i := 34) (v := ?v37) rfl (by kernel_rfl) (by kernel_rfl) (by kernel_rfl) (fun _ _ _ h => h) (Or.inl ⟨by rfl, ?hy37⟩) (by assumption) ?rest37
    case hy37 => (intro w hSw; (try dsimp only at hSw); go_simp; try with_reducible rfl)
    try simp only [Act.put, List.getElem_toArray, List.getElem_cons_zero, List.getElem_cons_succ, List.setIfInBounds_toArray, List.set_cons_zero, List.set_cons_succ]
    refine wpAnyH_take (i := 35) (v := ?v38) rfl (by kernel_rfl) (by kernel_rfl) (by kernel_rfl) (fun _ _ _ h => h) (Or.inl ⟨by rfl, ?hy38⟩) (by assumption) ?rest38
    case hy38 => (intro w hSw; (try dsimp only at hSw); go_simp; try with_reducible rfl)
    try simp only [Act.put, List.getElem_toArray, List.getElem_cons_zero, List.getElem_cons_succ, List.setIfInBounds_toArray, List.set_cons_zero, List.set_cons_succ]
    refine wpAnyH_done (by kernel_rfl) ?_ _
    go_wp2
    go_ret
    exact ⟨rfl, R10.below⟩
  refine AllReadyH.cons rfl (fun K hK => ?_) AllReadyH.nil
  go_simp
  have F8 : Frm (fun _ => False) W7 (W7.alloc (.cells #[.slice a0 m0 cap0, .slice a2 m2 cap2, .slice a1 m1 cap1] 24)) := Frm.alloc _ _ _
  have R8 := R7.frm F8 (fun _ h => h.elim)
  have S18 := S17.frm F8 (fun h => h)
  have S28 := S27.frm F8 (fun h => h)
  have X8 := X7.frm F8 (fun h => h)
  have Y8 := Y7.frm F8 (fun h => h)
  refine hK.out _ _ (⟨X8, Y8⟩) (fun hHeld => ?_)
  clear hK K
  refine wpAnyH_ready (rs := [27]) (by kernel_rfl) (by simp) ?_
  refine AllReadyH.cons rfl (fun K hK => ?_) AllReadyH.nil
  go_simp
  refine (sum_run gt (x0 ++ x2 ++ x1) w _ R8 S28 (by (try rw [List.length_nil]); (try simp only [List.length_append]); omega)).mono ?_
  rintro e W9 ⟨rfl, F9, R9⟩
  have S19 := S18.frm F9 (fun h => h)
  have S29 := S28.frm F9 (fun h => h)
  have X9 := X8.frm F9 (fun h => h)
  have Y9 := Y8.frm F9 (fun h => h)
  refine hK.out _ _ (⟨X9, Y9⟩) (fun hHeld => ?_)
  clear hK K
  refine wpAnyH_ready (rs := [32]) (by kernel_rfl) (by simp) ?_
  refine AllReadyH.cons rfl (fun K hK => ?_) AllReadyH.nil
  go_simp
  refine (sums_late w W7 W9 [.slice a0 m0 cap0, .slice a2 m2 cap2, .slice a1 m1 cap1] [x0, x2, x1] (x0 ++ x2 ++ x1) (All2.cons (prt_old HR0.out HX0.out hc0 R7.below) (All2.cons (prt_old HR2.out HX2.out hc2 R7.below) (All2.cons (prt_old HR1.out HX1.out hc1 R7.below) All2.nil))) (by simp) F9 R9 (by (try rw [List.length_nil]); (try simp only [List.length_append]); omega) (by simp)).mono ?_
  rintro e W10 ⟨rfl, F10, R10⟩
  have S110 := S19.frm F10 (fun h => h)
  have S210 := S29.frm F10 (fun h => h)
  have X10 := X9.frm F10 (fun h => h)
  have Y10 := Y9.frm F10 (fun h => h)
  refine hK.out _ _ (⟨X10, Y10⟩) (fun hHeld => ?_)
  clear hK K
  refine wpAnyH_take (i := 33) (v := ?v39) rfl (by kernel_rfl) (by kernel_rfl) (by kernel_rfl) (fun _ _ _ h => h) (Or.inl ⟨by rfl, ?hy39⟩) (by assumption) ?rest39
  case hy39 => (intro w hSw; (try dsimp only at hSw); go_simp; try with_reducible rfl)
  try simp only [Act.put, List.getElem_toArray, List.getElem_cons_zero, List.getElem_cons_succ, List.setIfInBounds_toArray, List.set_cons_zero, List.set_cons_succ]
  refine wpAnyH_take (i := 34) (v := ?v40) rfl (by kernel_rfl) (by kernel_rfl) (by kernel_rfl) (fun _ _ _ h => h) (Or.inl ⟨by rfl, ?hy40⟩) (by assumption) ?rest40
  case hy40 => (intro w hSw; (try dsimp only at hSw); go_simp; try with_reducible rfl)
  try simp only [Act.put, List.getElem_toArray, List.getElem_cons_zero, List.getElem_cons_succ, List.setIfInBounds_toArray, List.set_cons_zero, List.set_cons_succ]
  refine wpAnyH_take (i := 35) (v := ?v41) rfl (by kernel_rfl) (by kernel_rfl) (by kernel_rfl) (fun _ _ _ h => h) (Or.inl ⟨by rfl, ?hy41⟩) (by assumption) ?rest41
  case hy41 => (intro w hSw; (try dsimp only at hSw); go_simp; try with_reducible rfl)
  try simp only [Act.put, List.getElem_toArray, List.getElem_cons_zero, List.getElem_cons_succ, List.setIfInBounds_toArray, List.set_cons_zero, List.set_cons_succ]
  refine wpAnyH_done (by kernel_rfl) ?_ _
  go_wp2
  go_ret
  exact ⟨rfl, R10.below⟩
end Go.Proofs.YtohkpmohlhmpkaaDoor
