/-
  HmacDerives, walked.
-/
import Derived.Test.YtbicjcpdcopbhaaDoorRDer
namespace Go.Proofs.YtbicjcpdcopbhaaDoor
set_option linter.unusedVariables false
set_option linter.unusedSimpArgs false
open Go.RowKit

theorem partsL_each (L : Nat → List UInt8) (k j : Nat) : ((partsL L k).getD j []).length ≤ 200 := by
  rw [List.getD_eq_getElem?_getD]
  rcases h : (partsL L k)[j]? with _ | p
  · simp
  · have := List.mem_of_getElem? h
    obtain ⟨i, _, rfl⟩ := List.mem_map.1 this
    simp; omega
theorem JInv.frm0 {w w1 w2 : World} {A : Option Addr} {c : Nat} {TA : Option Addr} {tc k : Nat} {vs : List Value} {ps : List (List UInt8)} (h : JInv w A c TA tc k vs ps w1) (f : Frm (fun _ => False) w1 w2) : JInv w A c TA tc k vs ps w2 :=
  ⟨h.frm.trans f (fun _ _ h => h), own_frm h.own f (fun _ _ h => h), h.parts.frm2 f (fun _ _ h => h), own_frm h.texts f (fun _ _ h => h)⟩
theorem JInv.frmN {w w1 w2 : World} {A : Option Addr} {c : Nat} {TA : Option Addr} {tc k : Nat} {vs : List Value} {ps : List (List UInt8)} (h : JInv w A c TA tc k vs ps w1) {g : Nat} (hg : w1.heap.size ≤ g) (f : Frm (fun j => j = g) w1 w2) : JInv w A c TA tc k vs ps w2 :=
  ⟨h.frm.trans f (fun i hi h' => by have := h.frm.size; omega), own_frm h.own f (fun j hj => by have := (h.own.lt j hj).2; omega), h.parts.frm2 f (fun g' hg' => by omega), own_frm h.texts f (fun j hj => by have := (h.texts.lt j hj).2; omega)⟩

set_option maxHeartbeats 8000000 in
set_option maxRecDepth 100000 in
theorem hderives_walk (key : List UInt8) (s1 : List UInt8) (a0 : Option Addr) (len0 cap0 : Nat) (L : Nat → List UInt8) (w : World) (hG : Gl w) (hg0 : 2 ≤ w.heap.size) (hkey : key.length = 32) (hb1 : s1.length ≤ 9223372036854775807) (h0 : Rows2 w a0 len0 L) (hl0 : len0 ≤ cap0) (hm0 : cap0 ≤ 9223372036854775807) :
    Calls Tryd.prog 8 #[.agg (cellsB key).toArray, .string ⟨s1.toArray⟩, .slice a0 len0 cap0] w fun e w' => e = .returned (.bool true) ∧ Below w.heap.size w w' := by
  obtain ⟨n1, hn1⟩ : ∃ n, n = s1.length := ⟨_, rfl⟩
  have z1a : (⟨s1.toArray⟩ : ByteArray).size = n1 := by rw [txt_size, hn1]
  have z1b : s1.toArray.size = n1 := by rw [hn1]; simp
  have z1c : s1.length = n1 := hn1.symm
  obtain ⟨t1, HT1, tl1, tr1, te1⟩ := nat_min n1 200
  have hs1 := fun w => str_to s1 t1 (by rw [← hn1]; exact tl1) w
  have HY1 : Hid ((s1.take t1).length = t1) := by show _ = _; rw [List.length_take, ← hn1]; exact Nat.min_eq_left tl1
  obtain ⟨y1, hy1⟩ : ∃ y, y = s1.take t1 := ⟨_, rfl⟩
  rw [← hy1] at hs1 HY1
  have hyl1 : y1.length ≤ 200 := by rw [HY1.out]; exact tr1
  have hst1 : n1 ≤ 9223372036854775807 := by rw [hn1]; exact hb1
  clear hn1 hy1 te1
  have HKC : Hid ((cellsB key).length = 32) := by show _ = _; rw [cellsB_length]; exact hkey
  have HKX : Hid (((cellsB key).drop 0).take 32 = cellsB key) := by show _ = _; rw [List.drop_zero, List.take_of_length_le (by rw [HKC.out]; exact Nat.le_refl _)]
  have HKL : Hid (0 + 32 ≤ (cellsB key).length) := by show _ ≤ _; rw [HKC.out]; exact Nat.le_refl _
  have hR0 := Run.boxed hG hg0 (.cells (cellsB key).toArray 43)
  have hK0 := Blk.new w 43 (cellsB key).toArray
  have H0 := hide h0
  have hslK := slK
  clear h0
  go_enter Tryd.func8, Tryd.ntmps8
  go_wp2_with fail
  refine (hshown_from w _ hR0).mono ?_
  rintro e w1 ⟨rfl, hF1, hR1⟩
  have hK1 := hK0.frm hF1 (fun h => h)
  have HJ := hide (joined_any a0 len0 cap0 L w1 (H0.out.below hR1.below) hl0 hm0)
  clear hR0 hK0 hF1
  go_wp2_with (refine wpl_min rfl (.tmp 15) (.const (.int .i64 200)) _ _ rfl _ (n1 : Int) 200 (t1 : Int) rfl rfl HT1.out ?_)
  refine HJ.out.mono ?_
  rintro e w2 ⟨k, A, c, TA, tc, vs, hk5, rfl, J2⟩
  have hR2 := hR1.frm J2.frm (fun _ h => h.elim)
  have hK2 := hK1.frm J2.frm (fun h => h)
  have HPL := hide (partsL_length L k)
  have HPF : Hid ((partsL L k).flatten.length ≤ 1000) := by show _ ≤ _; have := partsL_flat L k; omega
  have HPE := hide (partsL_each L k)
  have HDL := hide (deriveL_length key y1 (partsL L k))
  have HMF : Hid ((measured (y1 :: partsL L k)).flatten.length ≤ 50000) := by
    show _ ≤ _
    rw [measured_flat, List.flatten_cons, List.length_append, List.length_cons, HPL.out]
    have := HPF.out
    omega
  have HDR := hide (derive_now w w2 key y1 hkey A k c vs (partsL L k) (Seg.of_own J2.own).rds J2.parts.all2 hR2 (by omega) (fun j => by have := HPE.out j; omega) (by have := HPF.out; omega) (by rw [HPL.out]; omega))
  have HRR := hide (fun W (hJ : JInv w1 A c TA tc k vs (partsL L k) W) => rderive_any key y1 TA tc (partsL L k) W (by have := (Seg.of_own hJ.texts).rds; rw [HPL.out]; exact this) (by omega) HMF.out)
  rw [HPL.out] at HRR
  have HDC : Hid ((cellsB (deriveL key y1 (partsL L k))).length = 32) := by show _ = _; rw [cellsB_length]; exact HDL.out
  obtain ⟨dk, hdk⟩ : ∃ dk, dk = deriveL key y1 (partsL L k) := ⟨_, rfl⟩
  rw [← hdk] at HDL HDC HDR HRR
  clear hdk HJ hR1 hK1
  generalize (⟨((partsL L k).flatten).toArray⟩ : ByteArray) = Ba at *
  go_wp2_with (with_reducible refine wpl_loada (op := ⟨some 24, _, _, _, _, _⟩) aggK rfl _ rfl w.heap.size 0 rfl _ _ _ hK2 HKX.out HKL.out ?_)
  refine HDR.out.mono ?_
  rintro e w3 ⟨rfl, F3, R3⟩
  have J3 := J2.frm0 F3
  have K3 := hK2.frm F3 (fun h => h)
  clear HDR J2 hK2 hR2 F3
  go_wp2_with (first
    | ((with_reducible refine wpl_alloca (op := ⟨some 11, _, _, _, _, _⟩) rfl _ rfl _ zeroK ?_); intro g11 w4 hB4 hs4 hF4)
    | ((with_reducible refine wpl_storea aggK rfl (.tmp 11) (.tmp 27) rfl g11 (cellsB dk) rfl rfl _ _ hB4 HDC.out rfl (cellsB_one _) ?_); intro w5 hB5 hF5))
  have b11 : w.heap.size < g11 := by have := K3.lt; omega
  have FF : Frm (fun j => j = g11) w3 w5.drew := ((hF4.mono (T := fun j => j = g11) (fun _ _ h => h.elim)).trans hF5 (fun _ _ h => h)).drew
  have J0 := J3.frmN hs4 FF
  have K0 := K3.frm FF (by omega)
  have X0 : Blk w5.drew g11 43 (cellsB dk).toArray := hB5
  have R0 := R3.frm FF (fun j hj => by omega)
  clear hB4 hF4 hB5 hF5 FF J3 K3 R3
  refine wp_region_held_drew (S := fun W => Blk W g11 43 (cellsB dk).toArray ∧ Blk W w.heap.size 43 (cellsB key).toArray) (by kernel_rfl) (⟨X0, K0⟩) ?_
  intro hHeld
  obtain ⟨W0, hW0⟩ : ∃ W0, W0 = w5.drew := ⟨_, rfl⟩
  rw [← hW0] at J0 K0 X0 R0 hHeld ⊢
  clear hW0
  refine wpAnyH_take (i := 0) (v := ?v1) rfl (by kernel_rfl) (by kernel_rfl) (by kernel_rfl) (fun _ _ _ h => h) (Or.inl ⟨by rfl, ?hy1⟩) (by assumption) ?rest1
  case hy1 => (intro w hSw; (try dsimp only at hSw); go_simp; try with_reducible rfl)
  try simp only [Act.put, List.getElem_toArray, List.getElem_cons_zero, List.setIfInBounds_toArray, List.set_cons_zero, List.set_cons_succ]
  refine wpAnyH_take (i := 1) (v := ?v2) rfl (by kernel_rfl) (by kernel_rfl) (by kernel_rfl) (fun _ _ _ h => h) (Or.inl ⟨by rfl, ?hy2⟩) (by assumption) ?rest2
  case hy2 => (intro w hSw; (try dsimp only at hSw); go_simp; try with_reducible rfl)
  try simp only [Act.put, List.getElem_toArray, List.getElem_cons_zero, List.getElem_cons_succ, List.setIfInBounds_toArray, List.set_cons_zero, List.set_cons_succ]
  refine wpAnyH_take (i := 2) (v := ?v3) rfl (by kernel_rfl) (by kernel_rfl) (by kernel_rfl) (fun _ _ _ h => h) (Or.inl ⟨by rfl, ?hy3⟩) (by assumption) ?rest3
  case hy3 => (intro w hSw; (try dsimp only at hSw); go_simp; try with_reducible rfl)
  try simp only [Act.put, List.getElem_toArray, List.getElem_cons_zero, List.getElem_cons_succ, List.setIfInBounds_toArray, List.set_cons_zero, List.set_cons_succ]
  refine wpAnyH_take (i := 3) (v := ?v4) rfl (by kernel_rfl) (by kernel_rfl) (by kernel_rfl) (fun _ _ _ h => h) (Or.inl ⟨by rfl, ?hy4⟩) (by assumption) ?rest4
  case hy4 => (intro w hSw; refine held_conv (.tmp 30) ?_ g11 32 32 ?_ dk dk _ hSw.1 (by rw [HDL.out]; exact Nat.le_refl _) (List.take_of_length_le (by rw [HDL.out]; exact Nat.le_refl _)) <;> rfl)
  try simp only [Act.put, List.getElem_toArray, List.getElem_cons_zero, List.getElem_cons_succ, List.setIfInBounds_toArray, List.set_cons_zero, List.set_cons_succ]
  refine wpAnyH_take (i := 4) (v := ?v5) rfl (by kernel_rfl) (by kernel_rfl) (by kernel_rfl) (fun _ _ _ h => h) (Or.inl ⟨by rfl, ?hy5⟩) (by assumption) ?rest5
  case hy5 => (intro w hSw; (try dsimp only at hSw); go_simp; try with_reducible rfl)
  try simp only [Act.put, List.getElem_toArray, List.getElem_cons_zero, List.getElem_cons_succ, List.setIfInBounds_toArray, List.set_cons_zero, List.set_cons_succ]
  refine wpAnyH_take (i := 5) (v := ?v6) rfl (by kernel_rfl) (by kernel_rfl) (by kernel_rfl) (fun _ _ _ h => h) (Or.inl ⟨by rfl, ?hy6⟩) (by assumption) ?rest6
  case hy6 => (intro w hSw; refine held_conv (.tmp 32) ?_ _ 32 32 ?_ key key _ hSw.2 (by rw [hkey]; exact Nat.le_refl _) (List.take_of_length_le (by rw [hkey]; exact Nat.le_refl _)) <;> rfl)
  try simp only [Act.put, List.getElem_toArray, List.getElem_cons_zero, List.getElem_cons_succ, List.setIfInBounds_toArray, List.set_cons_zero, List.set_cons_succ]
  refine wpAnyH_take (i := 6) (v := ?v7) rfl (by kernel_rfl) (by kernel_rfl) (by kernel_rfl) (fun _ _ _ h => h) (Or.inl ⟨by rfl, ?hy7⟩) (by assumption) ?rest7
  case hy7 => (intro w hSw; (try dsimp only at hSw); go_simp; try with_reducible rfl)
  try simp only [Act.put, List.getElem_toArray, List.getElem_cons_zero, List.getElem_cons_succ, List.setIfInBounds_toArray, List.set_cons_zero, List.set_cons_succ]
  refine wpAnyH_take (i := 7) (v := ?v8) rfl (by kernel_rfl) (by kernel_rfl) (by kernel_rfl) (fun _ _ _ h => h) (Or.inl ⟨by rfl, ?hy8⟩) (by assumption) ?rest8
  case hy8 => (intro w hSw; (try dsimp only at hSw); go_simp; try with_reducible rfl)
  try simp only [Act.put, List.getElem_toArray, List.getElem_cons_zero, List.getElem_cons_succ, List.setIfInBounds_toArray, List.set_cons_zero, List.set_cons_succ]
  refine wpAnyH_ready (rs := [8]) (by kernel_rfl) (by simp) ?_
  refine AllReadyH.cons rfl (fun K hK => ?_) AllReadyH.nil
  go_simp
  refine (HRR.out _ J0).mono ?_
  rintro e W1 ⟨rfl, hb1⟩
  have F1 : Frm (fun _ => False) W0 W1 := Frm.of_below hb1
  have X1 := X0.frm F1 (fun h => h)
  have K1 := K0.frm F1 (fun h => h)
  have R1 := R0.frm F1 (fun _ h => h.elim)
  refine hK.out _ _ (⟨X1, K1⟩) (fun hHeld => ?_)
  clear hK K
  refine wpAnyH_take (i := 9) (v := ?v9) rfl (by kernel_rfl) (by kernel_rfl) (by kernel_rfl) (fun _ _ _ h => h) (Or.inl ⟨by rfl, ?hy9⟩) (by assumption) ?rest9
  case hy9 => (intro w hSw; (try dsimp only at hSw); go_simp; try with_reducible rfl)
  try simp only [Act.put, List.getElem_toArray, List.getElem_cons_zero, List.getElem_cons_succ, List.setIfInBounds_toArray, List.set_cons_zero, List.set_cons_succ]
  refine wpAnyH_take (i := 10) (v := ?v10) rfl (by kernel_rfl) (by kernel_rfl) (by kernel_rfl) (fun _ _ _ h => h) (Or.inl ⟨by rfl, ?hy10⟩) (by assumption) ?rest10
  case hy10 => (intro w hSw; (try dsimp only at hSw); go_simp; try with_reducible rfl)
  try simp only [Act.put, List.getElem_toArray, List.getElem_cons_zero, List.getElem_cons_succ, List.setIfInBounds_toArray, List.set_cons_zero, List.set_cons_succ]
  refine wpAnyH_take (i := 11) (v := ?v11) rfl (by kernel_rfl) (by kernel_rfl) (by kernel_rfl) (fun _ _ _ h => h) (Or.inl ⟨by rfl, ?hy11⟩) (by assumption) ?rest11
  case hy11 => (intro w hSw; (try dsimp only at hSw); go_simp; try with_reducible rfl)
  try simp only [Act.put, List.getElem_toArray, List.getElem_cons_zero, List.getElem_cons_succ, List.setIfInBounds_toArray, List.set_cons_zero, List.set_cons_succ]
  refine wpAnyH_done (by kernel_rfl) ?_ _
  go_wp2
  go_ret
  exact ⟨rfl, R1.below⟩
end Go.Proofs.YtbicjcpdcopbhaaDoor
