/-
  The document's less, of, text and Sealed.
-/
import Derived.Test.YtjicnfkodieaaaaDoorDrQ
import Derived.Test.YtjicnfkodieaaaaDoorDRSum
import Derived.OrdersHeld
namespace Go.Proofs.YtjicnfkodieaaaaDoor
set_option linter.unusedVariables false
set_option linter.unusedSimpArgs false
open Go.RowKit

set_option maxHeartbeats 2000000 in
theorem less_any (x y : Rec) (w : World) : Calls Tryd.prog 30 #[recV x, recV y] w fun e w' => e = .returned (.bool (decide (x.lt y))) ∧ Frm (fun _ => False) w w' := by
  obtain ⟨xa, xf, xt, xl⟩ := x
  obtain ⟨ya, yf, yt, yl⟩ := y
  simp only [recV, recC]
  have hfr : ∀ o o', Frm (fun _ => False) w ((w.alloc o).alloc o') := fun o o' => frm_false_trans (Frm.alloc _ _ _) (Frm.alloc _ _ _)
  have HF := hide hfr
  clear hfr
  by_cases h1 : xa < ya
  · have h1' : (xa : Int) < (ya : Int) := by omega
    have HD : Hid (decide (Rec.lt ⟨xa, xf, xt, xl⟩ ⟨ya, yf, yt, yl⟩) = true) := decide_eq_true (Or.inl h1)
    go_enter Tryd.func30, Tryd.ntmps30
    go_wp2
    go_ret
    exact ⟨by rw [HD.out]; rfl, HF.out _ _⟩
  · have h1' : ¬ (xa : Int) < (ya : Int) := by omega
    by_cases h2 : xa = ya
    · subst h2
      by_cases h3 : xf < yf
      · have h3' : (xf : Int) < (yf : Int) := by omega
        have HD : Hid (decide (Rec.lt ⟨xa, xf, xt, xl⟩ ⟨xa, yf, yt, yl⟩) = true) := decide_eq_true (Or.inr ⟨rfl, h3⟩)
        go_enter Tryd.func30, Tryd.ntmps30
        go_wp2
        go_ret
        exact ⟨by rw [HD.out]; rfl, HF.out _ _⟩
      · have h3' : ¬ (xf : Int) < (yf : Int) := by omega
        have HD : Hid (decide (Rec.lt ⟨xa, xf, xt, xl⟩ ⟨xa, yf, yt, yl⟩) = false) := decide_eq_false (fun h => by rcases h with h | ⟨_, h⟩; exact h1 h; exact h3 h)
        go_enter Tryd.func30, Tryd.ntmps30
        go_wp2
        go_ret
        exact ⟨by rw [HD.out]; rfl, HF.out _ _⟩
    · have h2' : ¬ (xa : Int) = (ya : Int) := by omega
      have HD : Hid (decide (Rec.lt ⟨xa, xf, xt, xl⟩ ⟨ya, yf, yt, yl⟩) = false) := decide_eq_false (fun h => by rcases h with h | ⟨h, _⟩; exact h1 h; exact h2 h)
      go_enter Tryd.func30, Tryd.ntmps30
      go_wp2
      go_ret
      exact ⟨by rw [HD.out]; rfl, HF.out _ _⟩

set_option maxHeartbeats 2000000 in
set_option maxRecDepth 100000 in
theorem of_any (x : Rec) (w : World) : Calls Tryd.prog 17 #[recV x] w fun e w' => e = .returned (recV x) ∧ Frm (fun _ => False) w w' := by
  obtain ⟨xa, xf, xt, xl⟩ := x
  simp only [recV, recC]
  have hf1 : Frm (fun _ => False) w (w.alloc (.cells #[.int .u16 (xa : Int), .int .u32 (xf : Int), .int .u32 (xt : Int), .int .u32 (xl : Int)] 37)) := Frm.alloc _ _ _
  have hb1 : Blk (w.alloc (.cells #[.int .u16 (xa : Int), .int .u32 (xf : Int), .int .u32 (xt : Int), .int .u32 (xl : Int)] 37)) w.heap.size 37 #[.int .u16 (xa : Int), .int .u32 (xf : Int), .int .u32 (xt : Int), .int .u32 (xl : Int)] := Blk.new _ _ _
  have HF1 := hide hf1
  have HB1 := hide hb1
  clear hf1 hb1
  go_enter Tryd.func17, Tryd.ntmps17
  go_wp2_with (first
    | ((with_reducible refine wpl_alloca (op := ⟨some 2, _, _, _, _, _⟩) rfl _ rfl _ zeroQ ?_); intro g2 w2 hB2 hs2 hF2; have hb2 := HB1.out.frm hF2 (fun h => h); have c0 : w2.cell? ⟨w.heap.size, 0, none⟩ = some (.int .u16 (xa : Int)) := hb2.cell 0; have c1 : w2.cell? ⟨w.heap.size, 1, none⟩ = some (.int .u32 (xf : Int)) := hb2.cell 1; have c2 : w2.cell? ⟨w.heap.size, 2, none⟩ = some (.int .u32 (xt : Int)) := hb2.cell 2; have c3 : w2.cell? ⟨w.heap.size, 3, none⟩ = some (.int .u32 (xl : Int)) := hb2.cell 3; clear hb2)
    | ((refine wpl_storea aggQ rfl (.tmp 2) (.tmp 11) rfl g2 [.int .u16 (xa : Int), .int .u32 (xf : Int), .int .u32 (xt : Int), .int .u32 (xl : Int)] rfl rfl _ _ hB2 rfl rfl four_r ?_); intro w3 hB3 hF3))
  refine ret_agg aggQ rfl rfl g2 _ _ rfl hB3 rfl ⟨rfl, frm_false_trans HF1.out (frm_join _ hF2 hF3 (fun i hi => by omega)).out⟩

theorem keepQ {w : World} {g a f t l : Nat} (h : Blk w g 40 #[.int .u16 (a : Int), .int .u32 (f : Int), .int .u32 (t : Int), .int .u32 (l : Int)]) : w.cell? ⟨g, 0, none⟩ = some (.int .u16 (a : Int)) ∧ w.cell? ⟨g, 1, none⟩ = some (.int .u32 (f : Int)) ∧ w.cell? ⟨g, 2, none⟩ = some (.int .u32 (t : Int)) ∧ w.cell? ⟨g, 3, none⟩ = some (.int .u32 (l : Int)) := ⟨h.cell 0, h.cell 1, h.cell 2, h.cell 3⟩

set_option maxHeartbeats 4000000 in
set_option maxRecDepth 100000 in
theorem text9_any (x : Rec) (w : World) (hx : x.in32) : Calls Tryd.prog 42 #[recV x] w fun e w' => e = .returned (.string ⟨(encR x).toArray⟩) ∧ Below w.heap.size w w' := by
  obtain ⟨a, f, t, l⟩ := x
  obtain ⟨h1, h2, h3, h4⟩ := hx
  simp only at h1 h2 h3 h4
  have hw0 : IntKind.u64.wrap (a : Int) = (a : Int) := by rw [IntKind.wrap_u64]; omega
  have hw1 : IntKind.u64.wrap (f : Int) = (f : Int) := by rw [IntKind.wrap_u64]; omega
  have hw2 : IntKind.u64.wrap (t : Int) = (t : Int) := by rw [IntKind.wrap_u64]; omega
  have hw3 : IntKind.u64.wrap (l : Int) = (l : Int) := by rw [IntKind.wrap_u64]; omega
  have HT0 := hide (fun W => text_any a 2 W (by omega) (by omega))
  have HT1 := hide (fun W => text_any f 4 W (by omega) (by omega))
  have HT2 := hide (fun W => text_any t 4 W (by omega) (by omega))
  have HT3 := hide (fun W => text_any l 4 W (by omega) (by omega))
  have z0 : (⟨(be 2 a).toArray⟩ : ByteArray).size = 2 := by rw [size_mk, be_length]
  have z1 : (⟨(be 4 f).toArray⟩ : ByteArray).size = 4 := by rw [size_mk, be_length]
  have z2 : (⟨(be 4 t).toArray⟩ : ByteArray).size = 4 := by rw [size_mk, be_length]
  have z3 : (⟨(be 4 l).toArray⟩ : ByteArray).size = 4 := by rw [size_mk, be_length]
  have HALL : Hid ((((⟨(be 2 a).toArray⟩ : ByteArray) ++ ⟨(be 4 f).toArray⟩) ++ ⟨(be 4 t).toArray⟩) ++ ⟨(be 4 l).toArray⟩ = ⟨(encR ⟨a, f, t, l⟩).toArray⟩) := by
    show _ = _
    rw [txt_append, txt_append, txt_append]
    simp [encR, List.append_assoc]
  generalize (⟨(be 2 a).toArray⟩ : ByteArray) = T0 at *
  generalize (⟨(be 4 f).toArray⟩ : ByteArray) = T1 at *
  generalize (⟨(be 4 t).toArray⟩ : ByteArray) = T2 at *
  generalize (⟨(be 4 l).toArray⟩ : ByteArray) = T3 at *
  have z01 : (T0 ++ T1).size = 6 := by rw [ByteArray.size_append, z0, z1]
  have z012 : (T0 ++ T1 ++ T2).size = 10 := by rw [ByteArray.size_append, z01, z2]
  have hBl : Blk (w.alloc (.cells #[.int .u16 (a : Int), .int .u32 (f : Int), .int .u32 (t : Int), .int .u32 (l : Int)] 40)).drew w.heap.size 40 #[.int .u16 (a : Int), .int .u32 (f : Int), .int .u32 (t : Int), .int .u32 (l : Int)] := Blk.new w _ _
  have hbel : Below w.heap.size w (w.alloc (.cells #[.int .u16 (a : Int), .int .u32 (f : Int), .int .u32 (t : Int), .int .u32 (l : Int)] 40)).drew := (Frm.alloc w _ (fun _ => False)).drew.below (Nat.le_refl _) (fun _ h => h.elim)
  clear h1 h2 h3 h4
  simp only [recV, recC]
  go_enter Tryd.func42, Tryd.ntmps42
  go_wp2_with fail
  refine wp_region_held_drew (S := fun W => W.cell? ⟨w.heap.size, 0, none⟩ = some (.int .u16 (a : Int)) ∧ W.cell? ⟨w.heap.size, 1, none⟩ = some (.int .u32 (f : Int)) ∧ W.cell? ⟨w.heap.size, 2, none⟩ = some (.int .u32 (t : Int)) ∧ W.cell? ⟨w.heap.size, 3, none⟩ = some (.int .u32 (l : Int))) (by kernel_rfl) (keepQ hBl) ?_
  intro hHeld
  obtain ⟨W0, hW0⟩ : ∃ W', W' = (w.alloc (.cells #[.int .u16 (a : Int), .int .u32 (f : Int), .int .u32 (t : Int), .int .u32 (l : Int)] 40)).drew := ⟨_, rfl⟩
  rw [← hW0] at hBl hbel hHeld ⊢
  clear hW0
  refine wpAnyH_take (i := 0) (v := ?v1) rfl (by kernel_rfl) (by kernel_rfl) (by kernel_rfl) (fun _ _ _ h => h) (Or.inl ⟨by rfl, ?hy1⟩) (by assumption) ?rest1
  case hy1 => (intro w hSw; (try dsimp only at hSw); go_simp; try with_reducible rfl)
  try simp only [Act.put, List.getElem_toArray, List.getElem_cons_zero, List.setIfInBounds_toArray, List.set_cons_zero, List.set_cons_succ]
  refine wpAnyH_take (i := 1) (v := ?v2) rfl (by kernel_rfl) (by kernel_rfl) (by kernel_rfl) (fun _ _ _ h => h) (Or.inl ⟨by rfl, ?hy2⟩) (by assumption) ?rest2
  case hy2 => (intro w hSw; (try dsimp only at hSw); go_simp; try with_reducible rfl)
  try simp only [Act.put, List.getElem_toArray, List.getElem_cons_zero, List.getElem_cons_succ, List.setIfInBounds_toArray, List.set_cons_zero, List.set_cons_succ]
  refine wpAnyH_take (i := 2) (v := ?v3) rfl (by kernel_rfl) (by kernel_rfl) (by kernel_rfl) (fun _ _ _ h => h) (Or.inl ⟨by rfl, ?hy3⟩) (by assumption) ?rest3
  case hy3 => (intro w hSw; (try dsimp only at hSw); go_simp; try with_reducible rfl)
  try simp only [Act.put, List.getElem_toArray, List.getElem_cons_zero, List.getElem_cons_succ, List.setIfInBounds_toArray, List.set_cons_zero, List.set_cons_succ]
  refine wpAnyH_take (i := 4) (v := ?v4) rfl (by kernel_rfl) (by kernel_rfl) (by kernel_rfl) (fun _ _ _ h => h) (Or.inl ⟨by rfl, ?hy4⟩) (by assumption) ?rest4
  case hy4 => (intro w hSw; (try dsimp only at hSw); go_simp; try with_reducible rfl)
  try simp only [Act.put, List.getElem_toArray, List.getElem_cons_zero, List.getElem_cons_succ, List.setIfInBounds_toArray, List.set_cons_zero, List.set_cons_succ]
  refine wpAnyH_take (i := 5) (v := ?v5) rfl (by kernel_rfl) (by kernel_rfl) (by kernel_rfl) (fun _ _ _ h => h) (Or.inl ⟨by rfl, ?hy5⟩) (by assumption) ?rest5
  case hy5 => (intro w hSw; (try dsimp only at hSw); go_simp; try with_reducible rfl)
  try simp only [Act.put, List.getElem_toArray, List.getElem_cons_zero, List.getElem_cons_succ, List.setIfInBounds_toArray, List.set_cons_zero, List.set_cons_succ]
  refine wpAnyH_take (i := 6) (v := ?v6) rfl (by kernel_rfl) (by kernel_rfl) (by kernel_rfl) (fun _ _ _ h => h) (Or.inl ⟨by rfl, ?hy6⟩) (by assumption) ?rest6
  case hy6 => (intro w hSw; (try dsimp only at hSw); go_simp; try with_reducible rfl)
  try simp only [Act.put, List.getElem_toArray, List.getElem_cons_zero, List.getElem_cons_succ, List.setIfInBounds_toArray, List.set_cons_zero, List.set_cons_succ]
  refine wpAnyH_take (i := 9) (v := ?v7) rfl (by kernel_rfl) (by kernel_rfl) (by kernel_rfl) (fun _ _ _ h => h) (Or.inl ⟨by rfl, ?hy7⟩) (by assumption) ?rest7
  case hy7 => (intro w hSw; (try dsimp only at hSw); go_simp; try with_reducible rfl)
  try simp only [Act.put, List.getElem_toArray, List.getElem_cons_zero, List.getElem_cons_succ, List.setIfInBounds_toArray, List.set_cons_zero, List.set_cons_succ]
  refine wpAnyH_take (i := 10) (v := ?v8) rfl (by kernel_rfl) (by kernel_rfl) (by kernel_rfl) (fun _ _ _ h => h) (Or.inl ⟨by rfl, ?hy8⟩) (by assumption) ?rest8
  case hy8 => (intro w hSw; (try dsimp only at hSw); go_simp; try with_reducible rfl)
  try simp only [Act.put, List.getElem_toArray, List.getElem_cons_zero, List.getElem_cons_succ, List.setIfInBounds_toArray, List.set_cons_zero, List.set_cons_succ]
  refine wpAnyH_take (i := 11) (v := ?v9) rfl (by kernel_rfl) (by kernel_rfl) (by kernel_rfl) (fun _ _ _ h => h) (Or.inl ⟨by rfl, ?hy9⟩) (by assumption) ?rest9
  case hy9 => (intro w hSw; (try dsimp only at hSw); go_simp; try with_reducible rfl)
  try simp only [Act.put, List.getElem_toArray, List.getElem_cons_zero, List.getElem_cons_succ, List.setIfInBounds_toArray, List.set_cons_zero, List.set_cons_succ]
  refine wpAnyH_take (i := 14) (v := ?v10) rfl (by kernel_rfl) (by kernel_rfl) (by kernel_rfl) (fun _ _ _ h => h) (Or.inl ⟨by rfl, ?hy10⟩) (by assumption) ?rest10
  case hy10 => (intro w hSw; (try dsimp only at hSw); go_simp; try with_reducible rfl)
  try simp only [Act.put, List.getElem_toArray, List.getElem_cons_zero, List.getElem_cons_succ, List.setIfInBounds_toArray, List.set_cons_zero, List.set_cons_succ]
  refine wpAnyH_take (i := 15) (v := ?v11) rfl (by kernel_rfl) (by kernel_rfl) (by kernel_rfl) (fun _ _ _ h => h) (Or.inl ⟨by rfl, ?hy11⟩) (by assumption) ?rest11
  case hy11 => (intro w hSw; (try dsimp only at hSw); go_simp; try with_reducible rfl)
  try simp only [Act.put, List.getElem_toArray, List.getElem_cons_zero, List.getElem_cons_succ, List.setIfInBounds_toArray, List.set_cons_zero, List.set_cons_succ]
  refine wpAnyH_take (i := 16) (v := ?v12) rfl (by kernel_rfl) (by kernel_rfl) (by kernel_rfl) (fun _ _ _ h => h) (Or.inl ⟨by rfl, ?hy12⟩) (by assumption) ?rest12
  case hy12 => (intro w hSw; (try dsimp only at hSw); go_simp; try with_reducible rfl)
  try simp only [Act.put, List.getElem_toArray, List.getElem_cons_zero, List.getElem_cons_succ, List.setIfInBounds_toArray, List.set_cons_zero, List.set_cons_succ]
  refine wpAnyH_ready (rs := [3]) (by kernel_rfl) (by simp) ?_
  refine AllReadyH.cons rfl (fun K hK => ?_) AllReadyH.nil
  go_simp
  refine (HT0.out _).mono ?_
  rintro e_ Wn ⟨rfl, hb⟩
  have hBl := hBl.frm (Frm.of_below (S := fun _ => False) hb) (fun h => h)
  have hbel := below_frm hbel (Frm.of_below (S := fun _ => False) hb) hbel.size (fun _ h => h.elim)
  clear hb
  refine hK.out _ _ (keepQ hBl) (fun hHeld => ?_)
  clear hK K
  refine wpAnyH_ready (rs := [7]) (by kernel_rfl) (by simp) ?_
  refine AllReadyH.cons rfl (fun K hK => ?_) AllReadyH.nil
  go_simp
  refine (HT1.out _).mono ?_
  rintro e_ Wn ⟨rfl, hb⟩
  have hBl := hBl.frm (Frm.of_below (S := fun _ => False) hb) (fun h => h)
  have hbel := below_frm hbel (Frm.of_below (S := fun _ => False) hb) hbel.size (fun _ h => h.elim)
  clear hb
  refine hK.out _ _ (keepQ hBl) (fun hHeld => ?_)
  clear hK K
  refine wpAnyH_take (i := 8) (v := ?v13) rfl (by kernel_rfl) (by kernel_rfl) (by kernel_rfl) (fun _ _ _ h => h) (Or.inl ⟨by rfl, ?hy13⟩) (by assumption) ?rest13
  case hy13 => (intro w hSw; (try dsimp only at hSw); go_simp; try with_reducible rfl)
  try simp only [Act.put, List.getElem_toArray, List.getElem_cons_zero, List.getElem_cons_succ, List.setIfInBounds_toArray, List.set_cons_zero, List.set_cons_succ]
  refine wpAnyH_ready (rs := [12]) (by kernel_rfl) (by simp) ?_
  refine AllReadyH.cons rfl (fun K hK => ?_) AllReadyH.nil
  go_simp
  refine (HT2.out _).mono ?_
  rintro e_ Wn ⟨rfl, hb⟩
  have hBl := hBl.frm (Frm.of_below (S := fun _ => False) hb) (fun h => h)
  have hbel := below_frm hbel (Frm.of_below (S := fun _ => False) hb) hbel.size (fun _ h => h.elim)
  clear hb
  refine hK.out _ _ (keepQ hBl) (fun hHeld => ?_)
  clear hK K
  refine wpAnyH_take (i := 13) (v := ?v14) rfl (by kernel_rfl) (by kernel_rfl) (by kernel_rfl) (fun _ _ _ h => h) (Or.inl ⟨by rfl, ?hy14⟩) (by assumption) ?rest14
  case hy14 => (intro w hSw; (try dsimp only at hSw); go_simp; try with_reducible rfl)
  try simp only [Act.put, List.getElem_toArray, List.getElem_cons_zero, List.getElem_cons_succ, List.setIfInBounds_toArray, List.set_cons_zero, List.set_cons_succ]
  refine wpAnyH_ready (rs := [17]) (by kernel_rfl) (by simp) ?_
  refine AllReadyH.cons rfl (fun K hK => ?_) AllReadyH.nil
  go_simp
  refine (HT3.out _).mono ?_
  rintro e_ Wn ⟨rfl, hb⟩
  have hBl := hBl.frm (Frm.of_below (S := fun _ => False) hb) (fun h => h)
  have hbel := below_frm hbel (Frm.of_below (S := fun _ => False) hb) hbel.size (fun _ h => h.elim)
  clear hb
  refine hK.out _ _ (keepQ hBl) (fun hHeld => ?_)
  clear hK K
  refine wpAnyH_take (i := 18) (v := ?v15) rfl (by kernel_rfl) (by kernel_rfl) (by kernel_rfl) (fun _ _ _ h => h) (Or.inl ⟨by rfl, ?hy15⟩) (by assumption) ?rest15
  case hy15 => (intro w hSw; (try dsimp only at hSw); go_simp; try with_reducible rfl)
  try simp only [Act.put, List.getElem_toArray, List.getElem_cons_zero, List.getElem_cons_succ, List.setIfInBounds_toArray, List.set_cons_zero, List.set_cons_succ]
  refine wpAnyH_take (i := 19) (v := ?v16) rfl (by kernel_rfl) (by kernel_rfl) (by kernel_rfl) (fun _ _ _ h => h) (Or.inl ⟨by rfl, ?hy16⟩) (by assumption) ?rest16
  case hy16 => (intro w hSw; (try dsimp only at hSw); go_simp; try with_reducible rfl)
  try simp only [Act.put, List.getElem_toArray, List.getElem_cons_zero, List.getElem_cons_succ, List.setIfInBounds_toArray, List.set_cons_zero, List.set_cons_succ]
  refine wpAnyH_done (by kernel_rfl) ?_ _
  have HBEL := hide hbel
  clear hbel hBl hHeld HT0 HT1 HT2 HT3
  go_wp2_with fail
  go_ret
  exact ⟨by rw [HALL.out]; rfl, HBEL.out⟩

set_option maxHeartbeats 2000000 in
theorem sealed_any (l : List UInt8) (w : World) (hl : l.length ≤ 90000) : Calls Tryd.prog 27 #[.string ⟨l.toArray⟩] w fun e w' => e = .returned (.string ⟨(l ++ shaL l).toArray⟩) ∧ Below w.heap.size w w' := by
  have HS := hide (rsum_any l w (by omega))
  have HA := hide (txt_append l (shaL l))
  have z1 : (⟨l.toArray⟩ : ByteArray).size ≤ 90000 := by rw [size_mk]; exact hl
  have z2 : (⟨(shaL l).toArray⟩ : ByteArray).size = 32 := by rw [size_mk, shaL_length]
  generalize (⟨l.toArray⟩ : ByteArray) = T0 at *
  generalize (⟨(shaL l).toArray⟩ : ByteArray) = T1 at *
  go_enter Tryd.func27, Tryd.ntmps27
  go_wp2_with fail
  refine HS.out.mono ?_
  rintro e_ W ⟨rfl, hb⟩
  have HB := hide hb
  clear hb HS
  go_wp2_with fail
  go_ret
  exact ⟨by rw [HA.out]; rfl, HB.out⟩
end Go.Proofs.YtjicnfkodieaaaaDoor
