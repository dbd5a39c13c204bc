/-
  HmacChain, walked.
-/
import Derived.Test.YtbicjcpdcopbhaaDoorHm10
namespace Go.Proofs.YtbicjcpdcopbhaaDoor
set_option linter.unusedVariables false
set_option linter.unusedSimpArgs false
open Go.RowKit

set_option maxHeartbeats 8000000 in
set_option maxRecDepth 100000 in
theorem hchain_walk (key : List UInt8) (s1 s2 : List UInt8) (a3 : Option Addr) (len3 cap3 : Nat) (l3 : List UInt8) (w : World) (hG : Gl w) (hg0 : 2 ≤ w.heap.size) (hkey : key.length = 32) (hb1 : s1.length ≤ 9223372036854775807) (hb2 : s2.length ≤ 9223372036854775807) (h3 : Rds w a3 len3 (cellsB l3)) (hl3 : len3 ≤ cap3) (hm3 : cap3 ≤ 9223372036854775807) :
    Calls Tryd.prog 14 #[.agg (cellsB key).toArray, .string ⟨s1.toArray⟩, .string ⟨s2.toArray⟩, .slice a3 len3 cap3] w fun e w' => e = .returned (.bool true) ∧ Below w.heap.size w w' := by
  obtain ⟨n1, hn1⟩ : ∃ n, n = s1.length := ⟨_, rfl⟩
  have z1a : (⟨s1.toArray⟩ : ByteArray).size = n1 := by rw [txt_size, hn1]
  have z1b : s1.toArray.size = n1 := by rw [hn1]; simp
  have z1c : s1.length = n1 := hn1.symm
  obtain ⟨t1, HT1, tl1, tr1, te1⟩ := nat_min n1 50
  have hs1 := fun w => str_to s1 t1 (by rw [← hn1]; exact tl1) w
  have HY1 : Hid ((s1.take t1).length = t1) := by show _ = _; rw [List.length_take, ← hn1]; exact Nat.min_eq_left tl1
  obtain ⟨y1, hy1⟩ : ∃ y, y = s1.take t1 := ⟨_, rfl⟩
  rw [← hy1] at hs1 HY1
  have hyl1 : y1.length ≤ 50 := by rw [HY1.out]; exact tr1
  have hst1 : n1 ≤ 9223372036854775807 := by rw [hn1]; exact hb1
  clear hn1 hy1 te1
  obtain ⟨n2, hn2⟩ : ∃ n, n = s2.length := ⟨_, rfl⟩
  have z2a : (⟨s2.toArray⟩ : ByteArray).size = n2 := by rw [txt_size, hn2]
  have z2b : s2.toArray.size = n2 := by rw [hn2]; simp
  have z2c : s2.length = n2 := hn2.symm
  obtain ⟨t2, HT2, tl2, tr2, te2⟩ := nat_min n2 50
  have hs2 := fun w => str_to s2 t2 (by rw [← hn2]; exact tl2) w
  have HY2 : Hid ((s2.take t2).length = t2) := by show _ = _; rw [List.length_take, ← hn2]; exact Nat.min_eq_left tl2
  obtain ⟨y2, hy2⟩ : ∃ y, y = s2.take t2 := ⟨_, rfl⟩
  rw [← hy2] at hs2 HY2
  have hyl2 : y2.length ≤ 50 := by rw [HY2.out]; exact tr2
  have hst2 : n2 ≤ 9223372036854775807 := by rw [hn2]; exact hb2
  clear hn2 hy2 te2
  obtain ⟨m3, HM3, ml3, mr3, me3⟩ := nat_min len3 100
  clear me3
  have HR3 := hide (h3.take m3 ml3)
  rw [cellsB_take] at HR3
  have HX3 : Hid ((l3.take m3).length = m3) := by have := HR3.out.1; rwa [cellsB_length] at this
  generalize l3.take m3 = x3 at *
  have hy3 : x3.length ≤ 100 := by rw [HX3.out]; exact mr3
  have hc3 : m3 ≤ cap3 := by omega
  clear h3
  have HKC : Hid ((cellsB key).length = 32) := by show _ = _; rw [cellsB_length]; exact hkey
  have HKX : Hid (((cellsB key).drop 0).take 32 = cellsB key) := by show _ = _; rw [List.drop_zero, List.take_of_length_le (by rw [HKC.out]; exact Nat.le_refl _)]
  have HKL : Hid (0 + 32 ≤ (cellsB key).length) := by show _ ≤ _; rw [HKC.out]; exact Nat.le_refl _
  have hR0 := Run.boxed hG hg0 (.cells (cellsB key).toArray 43)
  have hK0 := Blk.new w 43 (cellsB key).toArray
  have HDL := hide (deriveL_length key y1 [x3])
  have HDC : Hid ((cellsB (deriveL key y1 [x3])).length = 32) := by show _ = _; rw [cellsB_length]; exact HDL.out
  have HDR := hide (fun W (hR : Run w W) => derive_row w W key y1 hkey [.slice a3 m3 cap3] [x3] (.cons (prt_old HR3.out HX3.out hc3 hR.below) .nil) hR (by omega) (fun k => by rcases k with _ | k <;> simp; omega) (by simp; omega) (by simp))
  have hslK := slK
  obtain ⟨dk, hdk⟩ : ∃ dk, dk = deriveL key y1 [x3] := ⟨_, rfl⟩
  rw [← hdk] at HDL HDC HDR
  clear hdk
  go_enter Tryd.func14, Tryd.ntmps14
  go_wp2_with fail
  refine (hshown_from w _ hR0).mono ?_
  rintro e w1 ⟨rfl, hF1, hR1⟩
  have hK1 := hK0.frm hF1 (fun h => h)
  clear hR0 hK0 hF1
  go_wp2_with (first
    | (refine wpl_min rfl (.tmp 17) (.const (.int .i64 50)) _ _ rfl _ (n1 : Int) 50 (t1 : Int) rfl rfl HT1.out ?_)
    | (refine wpl_min rfl (.tmp 22) (.const (.int .i64 50)) _ _ rfl _ (n2 : Int) 50 (t2 : Int) rfl rfl HT2.out ?_)
    | (refine wpl_min rfl (.tmp 27) (.const (.int .i64 100)) _ _ rfl _ (len3 : Int) 100 (m3 : Int) rfl rfl HM3.out ?_)
    | (with_reducible refine wpl_loada (op := ⟨some 30, _, _, _, _, _⟩) aggK rfl _ rfl w.heap.size 0 rfl _ _ _ hK1 HKX.out HKL.out ?_))
  refine (HDR.out w1 hR1).mono ?_
  rintro e w2 ⟨rfl, hF2, hR2⟩
  clear hK1 hR1 hF2 HDR
  go_wp2_with (first
    | ((with_reducible refine wpl_alloca (op := ⟨some 10, _, _, _, _, _⟩) rfl _ rfl _ zeroK ?_); intro g10 w3 hB3 hs3 hF3)
    | ((with_reducible refine wpl_storea aggK rfl (.tmp 10) (.tmp 34) rfl g10 (cellsB dk) rfl rfl _ _ hB3 HDC.out rfl (cellsB_one _) ?_); intro w4 hB4 hF4)
    | ((with_reducible refine wpl_alloca (op := ⟨some 11, _, _, _, _, _⟩) rfl _ rfl _ zeroK ?_); intro g11 w5 hB5 hs5 hF5))
  have hg10 : w.heap.size ≤ g10 := by have := hR2.size; omega
  have hR4 := (hR2.frm hF3 (fun _ h => h.elim)).frm hF4 (fun k hk => by omega)
  have hg11 : w.heap.size ≤ g11 := by have := hR4.size; omega
  have hn1 : g10 ≠ g11 := by have := hB4.lt; omega
  have FD : Frm (fun _ => False) w5 w5.drew := (Frm.refl _ _).drew
  have R0 := (hR4.frm hF5 (fun _ h => h.elim)).frm FD (fun _ h => h.elim)
  have X0 := (hB4.frm hF5 (fun h => h)).frm FD (fun h => h)
  have Y0 := hB5.frm FD (fun h => h)
  have r0 := X0.rds
  rw [HDC.out] at r0
  have HSP : Hid (splice (cellsB (List.replicate 32 0)) 0 (cellsB (dk.take 32)) = cellsB dk) := by
    show _ = _
    rw [List.take_of_length_le (by rw [HDL.out]; exact Nat.le_refl _)]
    exact splice_all _ _ (by rw [HDC.out]; rfl)
  clear hB3 hF3 hB4 hF4 hB5 hF5 FD hR2 hR4
  refine wp_region_held_drew (S := fun _ => True) (by kernel_rfl) (True.intro) ?_
  intro hHeld
  obtain ⟨W0, hW0⟩ : ∃ W0, W0 = w5.drew := ⟨_, rfl⟩
  rw [← hW0] at X0 Y0 r0 R0 ⊢
  clear hW0
  refine wpAnyH_take (i := 0) (v := ?v1) rfl (by kernel_rfl) (by kernel_rfl) (by kernel_rfl) (fun _ _ _ h => h) (Or.inl ⟨by rfl, ?hy1⟩) (by assumption) ?rest1
  case hy1 => (intro w hSw; (try dsimp only at hSw); go_simp; try with_reducible rfl)
  try simp only [Act.put, List.getElem_toArray, List.getElem_cons_zero, List.setIfInBounds_toArray, List.set_cons_zero, List.set_cons_succ]
  refine wpAnyH_take (i := 1) (v := ?v2) rfl (by kernel_rfl) (by kernel_rfl) (by kernel_rfl) (fun _ _ _ h => h) (Or.inl ⟨by rfl, ?hy2⟩) (by assumption) ?rest2
  case hy2 => (intro w hSw; (try dsimp only at hSw); go_simp; try with_reducible rfl)
  try simp only [Act.put, List.getElem_toArray, List.getElem_cons_zero, List.getElem_cons_succ, List.setIfInBounds_toArray, List.set_cons_zero, List.set_cons_succ]
  refine wpAnyH_ready (rs := [2]) (by kernel_rfl) (by simp) ?_
  refine AllReadyH.cons rfl (fun K hK => ?_) AllReadyH.nil
  refine step_copyR rfl (.tmp 35) (.tmp 36) rfl g11 32 32 g10 32 32 32 rfl rfl (cellsB (List.replicate 32 0)) _ Y0 dk r0 rfl (by decide) ?_
  intro W1 Y1 F1
  rw [HSP.out] at Y1
  have X1 := X0.frm F1 hn1
  have R1 := R0.frm F1 (fun k hk => by omega)
  refine hK.out _ _ (True.intro) (fun hHeld => ?_)
  clear hK K
  refine wpAnyH_done (by kernel_rfl) ?_ _
  clear hHeld X0 Y0 r0 R0 F1 HSP
  have HDX : Hid (((cellsB dk).drop 0).take 32 = cellsB dk) := by show _ = _; rw [List.drop_zero, List.take_of_length_le (by rw [HDC.out]; exact Nat.le_refl _)]
  have HDI : Hid (0 + 32 ≤ (cellsB dk).length) := by show _ ≤ _; rw [HDC.out]; exact Nat.le_refl _
  have r1 := X1.rds
  rw [HDC.out] at r1
  have HML := hide (macL_length dk x3)
  have HMC : Hid ((cellsB (macL dk x3)).length = 32) := by show _ = _; rw [cellsB_length]; exact HML.out
  have HMR := hide (mac_row w W1 (some ⟨g10, 0, none⟩) 32 32 dk [.slice a3 m3 cap3] [x3] x3 r1 (Nat.le_refl _) (by omega) (.cons (prt_old HR3.out HX3.out hc3 R1.below) .nil) (by simp) R1 (by omega) (by simp))
  have HSR := hide (fun W (hR : Run w W) => short_row w W dk HDL.out [.slice a3 m3 cap3] [x3] x3 (.cons (prt_old HR3.out HX3.out hc3 hR.below) .nil) (by simp) hR (by omega) (by simp))
  obtain ⟨mc, hmc⟩ : ∃ mc, mc = macL dk x3 := ⟨_, rfl⟩
  rw [← hmc] at HML HMC HMR HSR
  have HSL : Hid ((mc.take 16).length = 16) := by show _ = _; rw [List.length_take, HML.out]; rfl
  have HSC : Hid ((cellsB (mc.take 16)).length = 16) := by show _ = _; rw [cellsB_length]; exact HSL.out
  clear hmc r1
  go_wp2_with fail
  refine HMR.out.mono ?_
  rintro e w6 ⟨rfl, F6, R6⟩
  have X6 := X1.frm F6 (fun h => h)
  have Y6 := Y1.frm F6 (fun h => h)
  clear HMR X1 Y1 R1 F6
  go_wp2_with (first
    | ((with_reducible refine wpl_alloca (op := ⟨some 12, _, _, _, _, _⟩) rfl _ rfl _ zero32 ?_); intro g12 w7 hB7 hs7 hF7)
    | ((with_reducible refine wpl_storea agg32 rfl (.tmp 12) (.tmp 41) rfl g12 (cellsB mc) rfl rfl _ _ hB7 HMC.out rfl (cellsB_one _) ?_); intro w8 hB8 hF8; have hn12 : g11 ≠ g12 := (by have := Y6.lt; omega); have Y8 := (Y6.frm hF7 (fun h => h)).frm hF8 hn12)
    | (with_reducible refine wpl_loada (op := ⟨some 42, _, _, _, _, _⟩) aggK rfl _ rfl g11 0 rfl _ _ _ Y8 HDX.out HDI.out ?_))
  have hg12 : w.heap.size ≤ g12 := by have := R6.size; omega
  have hn102 : g10 ≠ g12 := by have := X6.lt; omega
  have X8 := (X6.frm hF7 (fun h => h)).frm hF8 hn102
  have R8 := (R6.frm hF7 (fun _ h => h.elim)).frm hF8 (fun k hk => by omega)
  clear hB7 hF7 hF8 R6 X6 Y6
  refine (HSR.out w8 R8).mono ?_
  rintro e w9 ⟨rfl, F9, R9⟩
  have X9 := X8.frm F9 (fun h => h)
  have Y9 := Y8.frm F9 (fun h => h)
  have M9 := hB8.frm F9 (fun h => h)
  clear HSR X8 Y8 hB8 R8 F9
  go_wp2_with (first
    | ((with_reducible refine wpl_alloca (op := ⟨some 13, _, _, _, _, _⟩) rfl _ rfl _ zero16 ?_); intro g13 w10 hB10 hs10 hF10)
    | ((with_reducible refine wpl_storea agg16 rfl (.tmp 13) (.tmp 45) rfl g13 (cellsB (mc.take 16)) rfl rfl _ _ hB10 HSC.out rfl (cellsB_one _) ?_); intro w11 hB11 hF11))
  have hg13 : w.heap.size ≤ g13 := by have := R9.size; omega
  have d10 : g10 ≠ g13 := by have := X9.lt; omega
  have d11 : g11 ≠ g13 := by have := Y9.lt; omega
  have d12 : g12 ≠ g13 := by have := M9.lt; omega
  have FF : Frm (fun k => k = g13) w9 w11.drew := (((hF10.mono (T := fun k => k = g13) (fun _ _ h => h.elim)).trans hF11 (fun _ _ h => h))).drew
  have X0 := X9.frm FF d10
  have Y0 := Y9.frm FF d11
  have M0 := M9.frm FF d12
  have Z0 : Blk w11.drew g13 49 (cellsB (mc.take 16)).toArray := hB11
  have R0 := R9.frm FF (fun k hk => by omega)
  clear hB10 hF10 hB11 hF11 FF X9 Y9 M9 R9
  have hsl16 := sl16
  have hsl32t : ∀ w, Sem.run Tryd.prog (Instr.sliceAt 25 (.pointer (some ⟨g12, 0, none⟩)) none (some (.int .i64 16)) none) w = .ok (.slice (some ⟨g12, 0, none⟩) 16 32) w := fun w => slice_arr_to under25 g12 16 (by omega) w
  have q1 := eq_sameG underK32 (deriveL dk y2 []) (deriveL_length _ _ _)
  have hgd := guardK
  have HDN := hide (fun W (hR : Run w W) => derive_none w W dk y2 HDL.out hR (by omega))
  have HSA := hide (fun (W : World) (hX : Blk W g10 43 (cellsB dk).toArray) (hY : Blk W g11 43 (cellsB dk).toArray) => same_any (some ⟨g10, 0, none⟩) (some ⟨g11, 0, none⟩) 32 32 32 32 dk dk W (by have := hX.rds; rwa [HDC.out] at this) (by have := hY.rds; rwa [HDC.out] at this) (by omega) (by omega))
  generalize deriveL dk y2 [] = d2 at *
  refine wp_region_held_drew (S := fun W => Blk W g10 43 (cellsB dk).toArray ∧ Blk W g11 43 (cellsB dk).toArray ∧ Blk W g12 25 (cellsB mc).toArray ∧ Blk W g13 49 (cellsB (mc.take 16)).toArray) (by kernel_rfl) (⟨X0, Y0, M0, Z0⟩) ?_
  intro hHeld
  obtain ⟨W0, hW0⟩ : ∃ W', W' = w11.drew := ⟨_, rfl⟩
  rw [← hW0] at X0 Y0 M0 Z0 R0 hHeld ⊢
  clear hW0
  refine wpAnyH_take (i := 0) (v := ?v3) rfl (by kernel_rfl) (by kernel_rfl) (by kernel_rfl) (fun _ _ _ h => h) (Or.inl ⟨by rfl, ?hy3⟩) (by assumption) ?rest3
  case hy3 => (intro w hSw; (try dsimp only at hSw); go_simp; try with_reducible rfl)
  try simp only [Act.put, List.getElem_toArray, List.getElem_cons_zero, List.setIfInBounds_toArray, List.set_cons_zero, List.set_cons_succ]
  refine wpAnyH_take (i := 1) (v := ?v4) rfl (by kernel_rfl) (by kernel_rfl) (by kernel_rfl) (fun _ _ _ h => h) (Or.inl ⟨by rfl, ?hy4⟩) (by assumption) ?rest4
  case hy4 => (intro w hSw; (try dsimp only at hSw); go_simp; try with_reducible rfl)
  try simp only [Act.put, List.getElem_toArray, List.getElem_cons_zero, List.getElem_cons_succ, List.setIfInBounds_toArray, List.set_cons_zero, List.set_cons_succ]
  refine wpAnyH_take (i := 2) (v := ?v5) rfl (by kernel_rfl) (by kernel_rfl) (by kernel_rfl) (fun _ _ _ h => h) (Or.inl ⟨by rfl, ?hy5⟩) (by assumption) ?rest5
  case hy5 => (intro w hSw; refine held_loadG aggK (.tmp 10) ?_ g10 ?_ dk HDL.out _ hSw.1 <;> rfl)
  try simp only [Act.put, List.getElem_toArray, List.getElem_cons_zero, List.getElem_cons_succ, List.setIfInBounds_toArray, List.set_cons_zero, List.set_cons_succ]
  refine wpAnyH_take (i := 3) (v := ?v6) rfl (by kernel_rfl) (by kernel_rfl) (by kernel_rfl) (fun _ _ _ h => h) (Or.inl ⟨by rfl, ?hy6⟩) (by assumption) ?rest6
  case hy6 => (intro w hSw; (try dsimp only at hSw); go_simp; try with_reducible rfl)
  try simp only [Act.put, List.getElem_toArray, List.getElem_cons_zero, List.getElem_cons_succ, List.setIfInBounds_toArray, List.set_cons_zero, List.set_cons_succ]
  refine wpAnyH_take (i := 5) (v := ?v7) rfl (by kernel_rfl) (by kernel_rfl) (by kernel_rfl) (fun _ _ _ h => h) (Or.inl ⟨by rfl, ?hy7⟩) (by assumption) ?rest7
  case hy7 => (intro w hSw; refine held_loadG aggK (.tmp 11) ?_ g11 ?_ dk HDL.out _ hSw.2.1 <;> rfl)
  try simp only [Act.put, List.getElem_toArray, List.getElem_cons_zero, List.getElem_cons_succ, List.setIfInBounds_toArray, List.set_cons_zero, List.set_cons_succ]
  refine wpAnyH_take (i := 6) (v := ?v8) rfl (by kernel_rfl) (by kernel_rfl) (by kernel_rfl) (fun _ _ _ h => h) (Or.inl ⟨by rfl, ?hy8⟩) (by assumption) ?rest8
  case hy8 => (intro w hSw; (try dsimp only at hSw); go_simp; try with_reducible rfl)
  try simp only [Act.put, List.getElem_toArray, List.getElem_cons_zero, List.getElem_cons_succ, List.setIfInBounds_toArray, List.set_cons_zero, List.set_cons_succ]
  refine wpAnyH_ready (rs := [4]) (by kernel_rfl) (by simp) ?_
  refine AllReadyH.cons rfl (fun K hK => ?_) AllReadyH.nil
  go_simp
  refine (HDN.out _ R0).mono ?_
  rintro e W1 ⟨rfl, F1, R1⟩
  have X1 := X0.frm F1 (fun h => h)
  have Y1 := Y0.frm F1 (fun h => h)
  have M1 := M0.frm F1 (fun h => h)
  have Z1 := Z0.frm F1 (fun h => h)
  clear X0 Y0 M0 Z0
  refine hK.out _ _ (⟨X1, Y1, M1, Z1⟩) (fun hHeld => ?_)
  clear hK K
  refine wpAnyH_ready (rs := [7]) (by kernel_rfl) (by simp) ?_
  refine AllReadyH.cons rfl (fun K hK => ?_) AllReadyH.nil
  go_simp
  refine (HDN.out _ R1).mono ?_
  rintro e W2 ⟨rfl, F2, R2⟩
  have X2 := X1.frm F2 (fun h => h)
  have Y2 := Y1.frm F2 (fun h => h)
  have M2 := M1.frm F2 (fun h => h)
  have Z2 := Z1.frm F2 (fun h => h)
  clear X1 Y1 M1 Z1
  refine hK.out _ _ (⟨X2, Y2, M2, Z2⟩) (fun hHeld => ?_)
  clear hK K
  refine wpAnyH_take (i := 8) (v := ?v9) rfl (by kernel_rfl) (by kernel_rfl) (by kernel_rfl) (fun _ _ _ h => h) (Or.inl ⟨by rfl, ?hy9⟩) (by assumption) ?rest9
  case hy9 => (intro w hSw; (try dsimp only at hSw); go_simp; try with_reducible rfl)
  try simp only [Act.put, List.getElem_toArray, List.getElem_cons_zero, List.getElem_cons_succ, List.setIfInBounds_toArray, List.set_cons_zero, List.set_cons_succ]
  refine wpAnyH_take (i := 9) (v := ?v10) rfl (by kernel_rfl) (by kernel_rfl) (by kernel_rfl) (fun _ _ _ h => h) (Or.inl ⟨by rfl, ?hy10⟩) (by assumption) ?rest10
  case hy10 => (intro w hSw; (try dsimp only at hSw); go_simp; try with_reducible rfl)
  try simp only [Act.put, List.getElem_toArray, List.getElem_cons_zero, List.getElem_cons_succ, List.setIfInBounds_toArray, List.set_cons_zero, List.set_cons_succ]
  refine wpAnyH_take (i := 10) (v := ?v11) rfl (by kernel_rfl) (by kernel_rfl) (by kernel_rfl) (fun _ _ _ h => h) (Or.inl ⟨by rfl, ?hy11⟩) (by assumption) ?rest11
  case hy11 => (intro w hSw; (try dsimp only at hSw); go_simp; try with_reducible rfl)
  try simp only [Act.put, List.getElem_toArray, List.getElem_cons_zero, List.getElem_cons_succ, List.setIfInBounds_toArray, List.set_cons_zero, List.set_cons_succ]
  refine wpAnyH_take (i := 11) (v := ?v12) rfl (by kernel_rfl) (by kernel_rfl) (by kernel_rfl) (fun _ _ _ h => h) (Or.inl ⟨by rfl, ?hy12⟩) (by assumption) ?rest12
  case hy12 => (intro w hSw; (try dsimp only at hSw); go_simp; try with_reducible rfl)
  try simp only [Act.put, List.getElem_toArray, List.getElem_cons_zero, List.getElem_cons_succ, List.setIfInBounds_toArray, List.set_cons_zero, List.set_cons_succ]
  refine wpAnyH_take (i := 12) (v := ?v13) rfl (by kernel_rfl) (by kernel_rfl) (by kernel_rfl) (fun _ _ _ h => h) (Or.inl ⟨by rfl, ?hy13⟩) (by assumption) ?rest13
  case hy13 => (intro w hSw; refine held_conv (.tmp 57) ?_ g13 16 16 ?_ (mc.take 16) (mc.take 16) _ hSw.2.2.2 (by rw [HSL.out]; exact Nat.le_refl _) (by simp [List.take_take]) <;> rfl)
  try simp only [Act.put, List.getElem_toArray, List.getElem_cons_zero, List.getElem_cons_succ, List.setIfInBounds_toArray, List.set_cons_zero, List.set_cons_succ]
  refine wpAnyH_take (i := 13) (v := ?v14) rfl (by kernel_rfl) (by kernel_rfl) (by kernel_rfl) (fun _ _ _ h => h) (Or.inl ⟨by rfl, ?hy14⟩) (by assumption) ?rest14
  case hy14 => (intro w hSw; (try dsimp only at hSw); go_simp; try with_reducible rfl)
  try simp only [Act.put, List.getElem_toArray, List.getElem_cons_zero, List.getElem_cons_succ, List.setIfInBounds_toArray, List.set_cons_zero, List.set_cons_succ]
  refine wpAnyH_take (i := 14) (v := ?v15) rfl (by kernel_rfl) (by kernel_rfl) (by kernel_rfl) (fun _ _ _ h => h) (Or.inl ⟨by rfl, ?hy15⟩) (by assumption) ?rest15
  case hy15 => (intro w hSw; refine held_conv (.tmp 59) ?_ g12 16 32 ?_ mc (mc.take 16) _ hSw.2.2.1 (by rw [HML.out]; omega) rfl <;> rfl)
  try simp only [Act.put, List.getElem_toArray, List.getElem_cons_zero, List.getElem_cons_succ, List.setIfInBounds_toArray, List.set_cons_zero, List.set_cons_succ]
  refine wpAnyH_take (i := 15) (v := ?v16) rfl (by kernel_rfl) (by kernel_rfl) (by kernel_rfl) (fun _ _ _ h => h) (Or.inl ⟨by rfl, ?hy16⟩) (by assumption) ?rest16
  case hy16 => (intro w hSw; (try dsimp only at hSw); go_simp; try with_reducible rfl)
  try simp only [Act.put, List.getElem_toArray, List.getElem_cons_zero, List.getElem_cons_succ, List.setIfInBounds_toArray, List.set_cons_zero, List.set_cons_succ]
  refine wpAnyH_take (i := 16) (v := ?v17) rfl (by kernel_rfl) (by kernel_rfl) (by kernel_rfl) (fun _ _ _ h => h) (Or.inl ⟨by rfl, ?hy17⟩) (by assumption) ?rest17
  case hy17 => (intro w hSw; (try dsimp only at hSw); go_simp; try with_reducible rfl)
  try simp only [Act.put, List.getElem_toArray, List.getElem_cons_zero, List.getElem_cons_succ, List.setIfInBounds_toArray, List.set_cons_zero, List.set_cons_succ]
  refine wpAnyH_take (i := 17) (v := ?v18) rfl (by kernel_rfl) (by kernel_rfl) (by kernel_rfl) (fun _ _ _ h => h) (Or.inl ⟨by rfl, ?hy18⟩) (by assumption) ?rest18
  case hy18 => (intro w hSw; (try dsimp only at hSw); go_simp; try with_reducible rfl)
  try simp only [Act.put, List.getElem_toArray, List.getElem_cons_zero, List.getElem_cons_succ, List.setIfInBounds_toArray, List.set_cons_zero, List.set_cons_succ]
  refine wpAnyH_take (i := 18) (v := ?v19) rfl (by kernel_rfl) (by kernel_rfl) (by kernel_rfl) (fun _ _ _ h => h) (Or.inl ⟨by rfl, ?hy19⟩) (by assumption) ?rest19
  case hy19 => (intro w hSw; (try dsimp only at hSw); go_simp; try with_reducible rfl)
  try simp only [Act.put, List.getElem_toArray, List.getElem_cons_zero, List.getElem_cons_succ, List.setIfInBounds_toArray, List.set_cons_zero, List.set_cons_succ]
  refine wpAnyH_take (i := 19) (v := ?v20) rfl (by kernel_rfl) (by kernel_rfl) (by kernel_rfl) (fun _ _ _ h => h) (Or.inl ⟨by rfl, ?hy20⟩) (by assumption) ?rest20
  case hy20 => (intro w hSw; (try dsimp only at hSw); go_simp; try with_reducible rfl)
  try simp only [Act.put, List.getElem_toArray, List.getElem_cons_zero, List.getElem_cons_succ, List.setIfInBounds_toArray, List.set_cons_zero, List.set_cons_succ]
  refine wpAnyH_ready (rs := [20]) (by kernel_rfl) (by simp) ?_
  refine AllReadyH.cons rfl (fun K hK => ?_) AllReadyH.nil
  go_simp
  refine (HSA.out _ X2 Y2).mono ?_
  rintro e W3 ⟨rfl, q3, rfl⟩
  rw [show decide (dk = dk) = true by simp]
  have F3 : Frm (fun _ => False) W2 (W2.drewN q3) := (Frm.refl _ _).drewN _
  have R3 := R2.frm F3 (fun _ h => h.elim)
  have X3 := X2.frm F3 (fun h => h)
  have Y3 := Y2.frm F3 (fun h => h)
  have M3 := M2.frm F3 (fun h => h)
  have Z3 := Z2.frm F3 (fun h => h)
  clear X2 Y2 M2 Z2
  refine hK.out _ _ (⟨X3, Y3, M3, Z3⟩) (fun hHeld => ?_)
  clear hK K
  refine wpAnyH_take (i := 21) (v := ?v21) rfl (by kernel_rfl) (by kernel_rfl) (by kernel_rfl) (fun _ _ _ h => h) (Or.inl ⟨by rfl, ?hy21⟩) (by assumption) ?rest21
  case hy21 => (intro w hSw; (try dsimp only at hSw); go_simp; try with_reducible rfl)
  try simp only [Act.put, List.getElem_toArray, List.getElem_cons_zero, List.getElem_cons_succ, List.setIfInBounds_toArray, List.set_cons_zero, List.set_cons_succ]
  refine wpAnyH_take (i := 22) (v := ?v22) rfl (by kernel_rfl) (by kernel_rfl) (by kernel_rfl) (fun _ _ _ h => h) (Or.inl ⟨by rfl, ?hy22⟩) (by assumption) ?rest22
  case hy22 => (intro w hSw; (try dsimp only at hSw); go_simp; try with_reducible rfl)
  try simp only [Act.put, List.getElem_toArray, List.getElem_cons_zero, List.getElem_cons_succ, List.setIfInBounds_toArray, List.set_cons_zero, List.set_cons_succ]
  refine wpAnyH_done (by kernel_rfl) ?_ _
  go_wp2
  go_ret
  exact ⟨rfl, R3.below⟩
end Go.Proofs.YtbicjcpdcopbhaaDoor
