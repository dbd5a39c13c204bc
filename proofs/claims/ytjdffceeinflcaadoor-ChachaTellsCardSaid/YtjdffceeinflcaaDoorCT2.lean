/-
  The document's quarter of a row of numbers.
-/
import Derived.Test.YtjdffceeinflcaaDoorCT1
import Derived.Deep.RegionHeld
namespace Go.Proofs.YtjdffceeinflcaaDoor
set_option linter.unusedVariables false
open Go.RowKit

theorem one_u32 : One Tryd.prog 49 24 (.int .u32 0) 4 := One.of (by kernel_rfl) (by kernel_rfl) rfl
/-- A row of sixteen numbers in a block of its own. -/
def OwnW (w : World) (g : Nat) (L : List Nat) : Prop := ∃ cur : Array Value, Blk w g 24 cur ∧ 16 ≤ cur.size ∧ cur.toList.take 16 = cellsW L
theorem OwnW.get {w : World} {g : Nat} {L : List Nat} (h : OwnW w g L) (hl : L.length = 16) (k : Nat) (hk : k < 16) : w.cell? ⟨g, k, none⟩ = some (.int .u32 ((L.getD k 0 : Nat) : Int)) := by
  obtain ⟨cur, hb, hs, ht⟩ := h
  rw [hb.cell]
  have := cellsW_at L k (by omega)
  rw [← ht, List.getElem?_take, if_pos hk] at this
  simpa using this
theorem OwnW.rds {w : World} {g : Nat} {L : List Nat} (h : OwnW w g L) (hl : L.length = 16) : Rds w (some ⟨g, 0, none⟩) 16 (cellsW L) := by
  refine ⟨by rw [cellsW_length, hl], fun _ => ⟨_, rfl, fun j u hu => ?_⟩⟩
  have hj : j < 16 := by have := (List.getElem?_eq_some_iff.1 hu).1; rw [cellsW_length, hl] at this; exact this
  rw [cellsW_at L j (by omega)] at hu
  rw [addr_add, Nat.zero_add, h.get hl j hj]
  exact hu
theorem OwnW.frozen {w : World} {g : Nat} {L : List Nat} (h : OwnW w g L) (k : Nat) : w.frozen? ⟨g, k, none⟩ = false := by
  obtain ⟨cur, hb, _⟩ := h
  exact hb.frozen k
theorem OwnW.set {w : World} {g : Nat} {L : List Nat} (h : OwnW w g L) (k x : Nat) : OwnW (w.setCell ⟨g, k, none⟩ (.int .u32 (x : Int))) g (L.set k x) := by
  obtain ⟨cur, hb, hs, ht⟩ := h
  refine ⟨_, hb.set k _, by simpa using hs, ?_⟩
  rw [Array.toList_setIfInBounds, ← cellsW_set, ← ht, List.take_set]
theorem OwnW.drewN {w : World} {g : Nat} {L : List Nat} (h : OwnW w g L) (q : Nat) : OwnW (w.drewN q) g L := h
theorem qAdd_ws {s : List Nat} (h : Ws s) (a b : Nat) : Ws (qAdd s a b) := h.set a _ (ad_lt _ _)
theorem qTurn_ws {s : List Nat} (h : Ws s) (d a k : Nat) : Ws (qTurn s d a k) := h.set d _ (leftN_lt (xor_lt32 (h.get d) (h.get a)))
/-- append of sixteen numbers onto nothing. -/
theorem app_madeW {w1 w2 : World} {A : Option Addr} {c : Nat} {L : List Nat} (hl : L.length = 16) (hown : w2.ownsRow w1.heap.size 24 1 (.slice A (0 + 16) c) (0 + 16) ([] ++ cellsW L)) (hg : (w1.alloc (.cells #[] 24)).grownBy w2 (Value.slice (some ⟨w1.heap.size, 0, none⟩) 0 0).ownBlock) :
    ∃ g, A = some ⟨g, 0, none⟩ ∧ OwnW w2 g L ∧ w1.heap.size ≤ g ∧ Frm (fun _ => False) w1 w2 := by
  rw [Nat.zero_add, List.nil_append] at hown
  have f : Frm (fun _ => False) w1 w2 := (Frm.alloc w1 (.cells #[] 24) (fun _ => False)).trans (Frm.of_grown hg) (fun i hi h => by
    have : i = w1.heap.size := by simpa [Value.ownBlock] using h
    omega)
  obtain ⟨g, cur, hA, hb, hB, hn, ht, _⟩ := own_block hown (by omega)
  exact ⟨g, hA, ⟨cur, hB, hn, ht⟩, hb, f⟩

set_option maxHeartbeats 16000000 in
set_option maxRecDepth 100000 in
theorem rquarter_any (A : Option Addr) (cp : Nat) (L : List Nat) (a b c d : Nat) (w : World) (hr : Rds w A 16 (cellsW L)) (hl : L.length = 16) (hs : Ws L) (ha : a < 16) (hb : b < 16) (hc : c < 16) (hd : d < 16) :
    Calls Tryd.prog 23 #[.slice A 16 cp, .int .i64 (a : Int), .int .i64 (b : Int), .int .i64 (c : Int), .int .i64 (d : Int)] w fun e w' => ∃ A' c', e = .returned (.slice A' 16 c') ∧ Rds w' A' 16 (cellsW (quarterL L a b c d)) ∧ Below w.heap.size w w' := by
  have ha' : (a : Int) < 16 := by omega
  have hb' : (b : Int) < 16 := by omega
  have hc' : (c : Int) < 16 := by omega
  have hd' : (d : Int) < 16 := by omega
  have FA : Frm (fun _ => False) w (w.alloc (.cells #[] 24)) := Frm.alloc _ _ _
  have hr0 : Rds (w.alloc (.cells #[] 24)) A 16 (cellsW L) := hr.frm FA (fun _ _ _ h => h)
  obtain ⟨L0, hL0⟩ : ∃ L0, L0 = L := ⟨_, rfl⟩
  rw [← hL0] at hr0 hl hs
  have HE0 := hide hL0
  have HL0 := hide hl
  have HW0 := hide hs
  clear hL0 hr FA hs
  go_enter Tryd.func23, Tryd.ntmps23
  go_wp2_with (at_builtin; refine wpl_app one_u32 rfl (.tmp 12) (.tmp 13) rfl _ w.heap.size _ 0 [] rfl (World.ownsRow_made w #[] 0 (Nat.le_refl _) (by simp [maxLen]) (by simp)) A 16 cp (cellsW L0) rfl hr0 (cellsW_one L0) (by omega) (by omega) (by simp) ?_; intro A1 c1 w0 hown hg hat; have p0 := app_madeW hl hown hg)
  obtain ⟨g, rfl, own0, hg0, F0⟩ := p0
  have O0 := hide own0
  have B0 : Hid (Below w.heap.size w w0) := F0.below (Nat.le_refl _) (fun _ h => h.elim)
  clear own0 hown hat hl hr0 F0
  have cx : w0.cell? ⟨g, a, none⟩ = some (.int .u32 ((L0.getD a 0 : Nat) : Int)) := O0.out.get HL0.out a ha
  have cy : w0.cell? ⟨g, b, none⟩ = some (.int .u32 ((L0.getD b 0 : Nat) : Int)) := O0.out.get HL0.out b hb
  have fz := O0.out.frozen a
  have wz : IntKind.u32.wrap ((L0.getD a 0 : Int) + (L0.getD b 0 : Int)) = (ad (L0.getD a 0) (L0.getD b 0) : Nat) := by rw [IntKind.wrap_u32']; exact ad_int _ _
  obtain ⟨L1, hL⟩ : ∃ L1, L1 = qAdd L0 a b := ⟨_, rfl⟩
  have HL1 : Hid (L1.length = 16) := by rw [hL]; show _ = _; rw [qAdd_length, HL0.out]
  have HW1 : Hid (Ws L1) := by rw [hL]; exact qAdd_ws HW0.out _ _
  have O1 : Hid (OwnW ((w0.setCell ⟨g, a, none⟩ (.int .u32 (ad (L0.getD a 0) (L0.getD b 0) : Nat))).drew) g L1) := by rw [hL]; exact OwnW.set (w := w0.drew) O0.out a _
  have B1 : Hid (Below w.heap.size w ((w0.setCell ⟨g, a, none⟩ (.int .u32 (ad (L0.getD a 0) (L0.getD b 0) : Nat))).drew)) := below_frm B0.out (((Frm.refl (fun i => i = g) w0).drew).trans (Frm.setCell _ _ _ (fun i => i = g) rfl) (fun _ _ h => h)) B0.out.size (fun i hi => by omega)
  have HE1 := hide hL
  clear hL O0 B0 HL0 HW0
  generalize L0.getD a 0 = vx at *
  generalize L0.getD b 0 = vy at *
  generalize ad vx vy = vz at *
  go_still_tail 12, (by kernel_rfl)
  have cx' : w0.drew.cell? ⟨g, a, none⟩ = some (.int .u32 (vx : Int)) := cx
  have fz' : w0.drew.frozen? ⟨g, a, none⟩ = false := fz
  change wpList _ _ _ _ _ w0.drew
  go_wp2_with fail
  obtain ⟨w1, hwm⟩ : ∃ w1, w1 = (w0.setCell ⟨g, a, none⟩ (.int .u32 (vz : Int))).drew := ⟨_, rfl⟩
  rw [← hwm] at O1 B1 ⊢
  clear hwm cx cy fz wz cx' fz'
  have cx : w1.cell? ⟨g, d, none⟩ = some (.int .u32 ((L1.getD d 0 : Nat) : Int)) := O1.out.get HL1.out d hd
  have cy : w1.cell? ⟨g, a, none⟩ = some (.int .u32 ((L1.getD a 0 : Nat) : Int)) := O1.out.get HL1.out a ha
  have fz := O1.out.frozen d
  have lx := HW1.out.get d
  have ly := HW1.out.get a
  have xz := u32_xor_nat (L1.getD d 0) (L1.getD a 0) lx ly
  have lz := xor_lt32 lx ly
  obtain ⟨L2, hL⟩ : ∃ L2, L2 = qTurn L1 d a 16 := ⟨_, rfl⟩
  have HL2 : Hid (L2.length = 16) := by rw [hL]; show _ = _; rw [qTurn_length, HL1.out]
  have HW2 : Hid (Ws L2) := by rw [hL]; exact qTurn_ws HW1.out _ _ _
  have OQ : Hid (∀ q, OwnW ((w1.drew.drewN q).setCell ⟨g, d, none⟩ (.int .u32 (leftN (L1.getD d 0 ^^^ L1.getD a 0) 16 : Nat))) g L2) := by rw [hL]; exact fun q => OwnW.set (w := w1.drew.drewN q) O1.out d _
  have BQ : Hid (∀ q, Below w.heap.size w ((w1.drew.drewN q).setCell ⟨g, d, none⟩ (.int .u32 (leftN (L1.getD d 0 ^^^ L1.getD a 0) 16 : Nat)))) := fun q => below_frm B1.out ((((Frm.refl (fun i => i = g) w1).drew).drewN q).trans (Frm.setCell _ _ _ (fun i => i = g) rfl) (fun _ _ h => h)) B1.out.size (fun i hi => by omega)
  have HE2 := hide hL
  have HLF : Hid (∀ W, Calls Tryd.prog 26 #[.int .u32 ((L1.getD d 0 ^^^ L1.getD a 0 : Nat) : Int), .int .i64 16] W fun e w' => e = .returned (.int .u32 (leftN (L1.getD d 0 ^^^ L1.getD a 0) 16 : Nat)) ∧ ∃ q, w' = W.drewN q) := fun W => left_any _ 16 W lz (by omega) (by omega)
  clear hL O1 B1 HL1 HW1 lx ly lz
  generalize leftN (L1.getD d 0 ^^^ L1.getD a 0) 16 = vr at *
  generalize L1.getD d 0 ^^^ L1.getD a 0 = vz at *
  generalize L1.getD d 0 = vx at *
  generalize L1.getD a 0 = vy at *
  refine wp_region_held_drew (S := fun _ => True) (by kernel_rfl) (True.intro) ?_
  intro hHeld
  have cx0 : w1.drew.cell? ⟨g, d, none⟩ = some (.int .u32 (vx : Int)) := cx
  have cy0 : w1.drew.cell? ⟨g, a, none⟩ = some (.int .u32 (vy : Int)) := cy
  have fz0 : ∀ q, (w1.drew.drewN q).frozen? ⟨g, d, none⟩ = false := fun _ => fz
  have cx1 : ∀ q, (w1.drew.drewN q).cell? ⟨g, d, none⟩ = some (.int .u32 (vx : Int)) := fun _ => cx
  have HZ := hide fz0
  have HX1 := hide cx1
  clear fz0 cx1 cx cy fz
  obtain ⟨V0, hV0⟩ : ∃ V0, V0 = w1.drew := ⟨_, rfl⟩
  rw [← hV0] at cx0 cy0 HZ HX1 OQ BQ ⊢
  clear hV0
  refine wpAnyH_take (i := 0) (v := ?v1) rfl (by kernel_rfl) (by kernel_rfl) (by kernel_rfl) (fun _ _ _ h => h) (Or.inl ⟨by rfl, ?hy1⟩) (by assumption) ?rest1
  case hy1 => (intro w hSw; (try dsimp only at hSw); go_simp; try with_reducible rfl)
  try simp only [Act.put, List.getElem_toArray, List.getElem_cons_zero, List.setIfInBounds_toArray, List.set_cons_zero, List.set_cons_succ]
  refine wpAnyH_take (i := 1) (v := ?v2) rfl (by kernel_rfl) (by kernel_rfl) (by kernel_rfl) (fun _ _ _ h => h) (Or.inl ⟨by rfl, ?hy2⟩) (by assumption) ?rest2
  case hy2 => (intro w hSw; (try dsimp only at hSw); go_simp; try with_reducible rfl)
  try simp only [Act.put, List.getElem_toArray, List.getElem_cons_zero, List.getElem_cons_succ, List.setIfInBounds_toArray, List.set_cons_zero, List.set_cons_succ]
  refine wpAnyH_take (i := 2) (v := ?v3) rfl (by kernel_rfl) (by kernel_rfl) (by kernel_rfl) (fun _ _ _ h => h) (Or.inl ⟨by rfl, ?hy3⟩) (by assumption) ?rest3
  case hy3 => (intro w hSw; (try dsimp only at hSw); go_simp; try with_reducible rfl)
  try simp only [Act.put, List.getElem_toArray, List.getElem_cons_zero, List.getElem_cons_succ, List.setIfInBounds_toArray, List.set_cons_zero, List.set_cons_succ]
  refine wpAnyH_take (i := 3) (v := ?v4) rfl (by kernel_rfl) (by kernel_rfl) (by kernel_rfl) (fun _ _ _ h => h) (Or.inl ⟨by rfl, ?hy4⟩) (by assumption) ?rest4
  case hy4 => (intro w hSw; (try dsimp only at hSw); go_simp; try with_reducible rfl)
  try simp only [Act.put, List.getElem_toArray, List.getElem_cons_zero, List.getElem_cons_succ, List.setIfInBounds_toArray, List.set_cons_zero, List.set_cons_succ]
  refine wpAnyH_take (i := 4) (v := ?v5) rfl (by kernel_rfl) (by kernel_rfl) (by kernel_rfl) (fun _ _ _ h => h) (Or.inl ⟨by rfl, ?hy5⟩) (by assumption) ?rest5
  case hy5 => (intro w hSw; (try dsimp only at hSw); go_simp; try with_reducible rfl)
  try simp only [Act.put, List.getElem_toArray, List.getElem_cons_zero, List.getElem_cons_succ, List.setIfInBounds_toArray, List.set_cons_zero, List.set_cons_succ]
  refine wpAnyH_take (i := 6) (v := ?v6) rfl (by kernel_rfl) (by kernel_rfl) (by kernel_rfl) (fun _ _ _ h => h) (Or.inl ⟨by rfl, ?hy6⟩) (by assumption) ?rest6
  case hy6 => (intro w hSw; (try dsimp only at hSw); go_simp; try with_reducible rfl)
  try simp only [Act.put, List.getElem_toArray, List.getElem_cons_zero, List.getElem_cons_succ, List.setIfInBounds_toArray, List.set_cons_zero, List.set_cons_succ]
  refine wpAnyH_take (i := 7) (v := ?v7) rfl (by kernel_rfl) (by kernel_rfl) (by kernel_rfl) (fun _ _ _ h => h) (Or.inl ⟨by rfl, ?hy7⟩) (by assumption) ?rest7
  case hy7 => (intro w hSw; (try dsimp only at hSw); go_simp; try with_reducible rfl)
  try simp only [Act.put, List.getElem_toArray, List.getElem_cons_zero, List.getElem_cons_succ, List.setIfInBounds_toArray, List.set_cons_zero, List.set_cons_succ]
  refine wpAnyH_take (i := 8) (v := ?v8) rfl (by kernel_rfl) (by kernel_rfl) (by kernel_rfl) (fun _ _ _ h => h) (Or.inl ⟨by rfl, ?hy8⟩) (by assumption) ?rest8
  case hy8 => (intro w hSw; (try dsimp only at hSw); go_simp; try with_reducible rfl)
  try simp only [Act.put, List.getElem_toArray, List.getElem_cons_zero, List.getElem_cons_succ, List.setIfInBounds_toArray, List.set_cons_zero, List.set_cons_succ]
  refine wpAnyH_ready (rs := [5, 9]) (by kernel_rfl) (by simp) ?_
  refine AllReadyH.cons rfl (fun K hK => ?_) ?_
  go_simp
  refine hK.out _ _ (True.intro) (fun hHeld => ?_)
  clear hK K
  clear hHeld
  try simp only [Act.put, List.getElem_toArray, List.getElem_cons_zero, List.getElem_cons_succ, List.setIfInBounds_toArray, List.set_cons_zero, List.set_cons_succ]
  refine wpAnyH_ready (rs := [9]) (by kernel_rfl) (by simp) ?_
  refine AllReadyH.cons rfl (fun K hK => ?_) AllReadyH.nil
  go_simp
  refine hK.out _ _ (True.intro) (fun hHeld => ?_)
  clear hK K
  clear hHeld
  try simp only [Act.put, List.getElem_toArray, List.getElem_cons_zero, List.getElem_cons_succ, List.setIfInBounds_toArray, List.set_cons_zero, List.set_cons_succ]
  refine ?shared1
  rotate_left
  refine AllReadyH.cons rfl (fun K hK => ?_) AllReadyH.nil
  go_simp
  refine hK.out _ _ (True.intro) (fun hHeld => ?_)
  clear hK K
  clear hHeld
  try simp only [Act.put, List.getElem_toArray, List.getElem_cons_zero, List.getElem_cons_succ, List.setIfInBounds_toArray, List.set_cons_zero, List.set_cons_succ]
  refine wpAnyH_ready (rs := [5]) (by kernel_rfl) (by simp) ?_
  refine AllReadyH.cons rfl (fun K hK => ?_) AllReadyH.nil
  go_simp
  refine hK.out _ _ (True.intro) (fun hHeld => ?_)
  clear hK K
  clear hHeld
  try simp only [Act.put, List.getElem_toArray, List.getElem_cons_zero, List.getElem_cons_succ, List.setIfInBounds_toArray, List.set_cons_zero, List.set_cons_succ]
  exact ?shared1
  refine wpAnyH_take (i := 10) (v := ?v9) rfl (by kernel_rfl) (by kernel_rfl) (by kernel_rfl) (fun _ _ _ h => h) (Or.inl ⟨by rfl, ?hy9⟩) (by assumption) ?rest9
  case hy9 => (intro w hSw; (try dsimp only at hSw); go_simp; try with_reducible rfl)
  try simp only [Act.put, List.getElem_toArray, List.getElem_cons_zero, List.getElem_cons_succ, List.setIfInBounds_toArray, List.set_cons_zero, List.set_cons_succ]
  refine wpAnyH_ready (rs := [11]) (by kernel_rfl) (by simp) ?_
  refine AllReadyH.cons rfl (fun K hK => ?_) AllReadyH.nil
  go_simp
  refine (HLF.out V0).mono ?_
  rintro e W1 ⟨rfl, q, rfl⟩
  refine hK.out _ _ (True.intro) (fun hHeld => ?_)
  clear hK K
  try simp only [Act.put, List.getElem_toArray, List.getElem_cons_zero, List.getElem_cons_succ, List.setIfInBounds_toArray, List.set_cons_zero, List.set_cons_succ]
  refine wpAnyH_take (i := 12) (v := ?v10) rfl (by kernel_rfl) (by kernel_rfl) (by kernel_rfl) (fun _ _ _ h => h) (Or.inl ⟨by rfl, ?hy10⟩) (by assumption) ?rest10
  case hy10 => (intro w hSw; (try dsimp only at hSw); go_simp; try with_reducible rfl)
  try simp only [Act.put, List.getElem_toArray, List.getElem_cons_zero, List.getElem_cons_succ, List.setIfInBounds_toArray, List.set_cons_zero, List.set_cons_succ]
  have fz1 := HZ.out q
  have cx2 := HX1.out q
  refine wpAnyH_ready (rs := [13]) (by kernel_rfl) (by simp) ?_
  refine AllReadyH.cons rfl (fun K hK => ?_) AllReadyH.nil
  go_simp
  refine hK.out _ _ (True.intro) (fun hHeld => ?_)
  clear hK K
  try simp only [Act.put, List.getElem_toArray, List.getElem_cons_zero, List.getElem_cons_succ, List.setIfInBounds_toArray, List.set_cons_zero, List.set_cons_succ]
  refine wpAnyH_done (by kernel_rfl) ?_ _
  have O2 := hide (OQ.out q)
  have B2 := hide (BQ.out q)
  obtain ⟨w2, hwm⟩ : ∃ w2, w2 = (V0.drewN q).setCell ⟨g, d, none⟩ (.int .u32 (vr : Int)) := ⟨_, rfl⟩
  rw [← hwm] at O2 B2 ⊢
  clear hwm cx0 cy0 HZ HX1 OQ BQ HLF fz1 cx2 xz hHeld
  go_wp2_with fail
  have cx : w2.cell? ⟨g, c, none⟩ = some (.int .u32 ((L2.getD c 0 : Nat) : Int)) := O2.out.get HL2.out c hc
  have cy : w2.cell? ⟨g, d, none⟩ = some (.int .u32 ((L2.getD d 0 : Nat) : Int)) := O2.out.get HL2.out d hd
  have fz := O2.out.frozen c
  have wz : IntKind.u32.wrap ((L2.getD c 0 : Int) + (L2.getD d 0 : Int)) = (ad (L2.getD c 0) (L2.getD d 0) : Nat) := by rw [IntKind.wrap_u32']; exact ad_int _ _
  obtain ⟨L3, hL⟩ : ∃ L3, L3 = qAdd L2 c d := ⟨_, rfl⟩
  have HL3 : Hid (L3.length = 16) := by rw [hL]; show _ = _; rw [qAdd_length, HL2.out]
  have HW3 : Hid (Ws L3) := by rw [hL]; exact qAdd_ws HW2.out _ _
  have O3 : Hid (OwnW ((w2.setCell ⟨g, c, none⟩ (.int .u32 (ad (L2.getD c 0) (L2.getD d 0) : Nat))).drew) g L3) := by rw [hL]; exact OwnW.set (w := w2.drew) O2.out c _
  have B3 : Hid (Below w.heap.size w ((w2.setCell ⟨g, c, none⟩ (.int .u32 (ad (L2.getD c 0) (L2.getD d 0) : Nat))).drew)) := below_frm B2.out (((Frm.refl (fun i => i = g) w2).drew).trans (Frm.setCell _ _ _ (fun i => i = g) rfl) (fun _ _ h => h)) B2.out.size (fun i hi => by omega)
  have HE3 := hide hL
  clear hL O2 B2 HL2 HW2
  generalize L2.getD c 0 = vx at *
  generalize L2.getD d 0 = vy at *
  generalize ad vx vy = vz at *
  go_still_tail 12, (by kernel_rfl)
  have cx' : w2.drew.cell? ⟨g, c, none⟩ = some (.int .u32 (vx : Int)) := cx
  have fz' : w2.drew.frozen? ⟨g, c, none⟩ = false := fz
  change wpList _ _ _ _ _ w2.drew
  go_wp2_with fail
  obtain ⟨w3, hwm⟩ : ∃ w3, w3 = (w2.setCell ⟨g, c, none⟩ (.int .u32 (vz : Int))).drew := ⟨_, rfl⟩
  rw [← hwm] at O3 B3 ⊢
  clear hwm cx cy fz wz cx' fz'
  have cx : w3.cell? ⟨g, b, none⟩ = some (.int .u32 ((L3.getD b 0 : Nat) : Int)) := O3.out.get HL3.out b hb
  have cy : w3.cell? ⟨g, c, none⟩ = some (.int .u32 ((L3.getD c 0 : Nat) : Int)) := O3.out.get HL3.out c hc
  have fz := O3.out.frozen b
  have lx := HW3.out.get b
  have ly := HW3.out.get c
  have xz := u32_xor_nat (L3.getD b 0) (L3.getD c 0) lx ly
  have lz := xor_lt32 lx ly
  obtain ⟨L4, hL⟩ : ∃ L4, L4 = qTurn L3 b c 12 := ⟨_, rfl⟩
  have HL4 : Hid (L4.length = 16) := by rw [hL]; show _ = _; rw [qTurn_length, HL3.out]
  have HW4 : Hid (Ws L4) := by rw [hL]; exact qTurn_ws HW3.out _ _ _
  have OQ : Hid (∀ q, OwnW ((w3.drew.drewN q).setCell ⟨g, b, none⟩ (.int .u32 (leftN (L3.getD b 0 ^^^ L3.getD c 0) 12 : Nat))) g L4) := by rw [hL]; exact fun q => OwnW.set (w := w3.drew.drewN q) O3.out b _
  have BQ : Hid (∀ q, Below w.heap.size w ((w3.drew.drewN q).setCell ⟨g, b, none⟩ (.int .u32 (leftN (L3.getD b 0 ^^^ L3.getD c 0) 12 : Nat)))) := fun q => below_frm B3.out ((((Frm.refl (fun i => i = g) w3).drew).drewN q).trans (Frm.setCell _ _ _ (fun i => i = g) rfl) (fun _ _ h => h)) B3.out.size (fun i hi => by omega)
  have HE4 := hide hL
  have HLF : Hid (∀ W, Calls Tryd.prog 26 #[.int .u32 ((L3.getD b 0 ^^^ L3.getD c 0 : Nat) : Int), .int .i64 12] W fun e w' => e = .returned (.int .u32 (leftN (L3.getD b 0 ^^^ L3.getD c 0) 12 : Nat)) ∧ ∃ q, w' = W.drewN q) := fun W => left_any _ 12 W lz (by omega) (by omega)
  clear hL O3 B3 HL3 HW3 lx ly lz
  generalize leftN (L3.getD b 0 ^^^ L3.getD c 0) 12 = vr at *
  generalize L3.getD b 0 ^^^ L3.getD c 0 = vz at *
  generalize L3.getD b 0 = vx at *
  generalize L3.getD c 0 = vy at *
  refine wp_region_held_drew (S := fun _ => True) (by kernel_rfl) (True.intro) ?_
  intro hHeld
  have cx0 : w3.drew.cell? ⟨g, b, none⟩ = some (.int .u32 (vx : Int)) := cx
  have cy0 : w3.drew.cell? ⟨g, c, none⟩ = some (.int .u32 (vy : Int)) := cy
  have fz0 : ∀ q, (w3.drew.drewN q).frozen? ⟨g, b, none⟩ = false := fun _ => fz
  have cx1 : ∀ q, (w3.drew.drewN q).cell? ⟨g, b, none⟩ = some (.int .u32 (vx : Int)) := fun _ => cx
  have HZ := hide fz0
  have HX1 := hide cx1
  clear fz0 cx1 cx cy fz
  obtain ⟨V0, hV0⟩ : ∃ V0, V0 = w3.drew := ⟨_, rfl⟩
  rw [← hV0] at cx0 cy0 HZ HX1 OQ BQ ⊢
  clear hV0
  refine wpAnyH_take (i := 0) (v := ?v11) rfl (by kernel_rfl) (by kernel_rfl) (by kernel_rfl) (fun _ _ _ h => h) (Or.inl ⟨by rfl, ?hy11⟩) (by assumption) ?rest11
  case hy11 => (intro w hSw; (try dsimp only at hSw); go_simp; try with_reducible rfl)
  try simp only [Act.put, List.getElem_toArray, List.getElem_cons_zero, List.setIfInBounds_toArray, List.set_cons_zero, List.set_cons_succ]
  refine wpAnyH_take (i := 1) (v := ?v12) rfl (by kernel_rfl) (by kernel_rfl) (by kernel_rfl) (fun _ _ _ h => h) (Or.inl ⟨by rfl, ?hy12⟩) (by assumption) ?rest12
  case hy12 => (intro w hSw; (try dsimp only at hSw); go_simp; try with_reducible rfl)
  try simp only [Act.put, List.getElem_toArray, List.getElem_cons_zero, List.getElem_cons_succ, List.setIfInBounds_toArray, List.set_cons_zero, List.set_cons_succ]
  refine wpAnyH_take (i := 2) (v := ?v13) rfl (by kernel_rfl) (by kernel_rfl) (by kernel_rfl) (fun _ _ _ h => h) (Or.inl ⟨by rfl, ?hy13⟩) (by assumption) ?rest13
  case hy13 => (intro w hSw; (try dsimp only at hSw); go_simp; try with_reducible rfl)
  try simp only [Act.put, List.getElem_toArray, List.getElem_cons_zero, List.getElem_cons_succ, List.setIfInBounds_toArray, List.set_cons_zero, List.set_cons_succ]
  refine wpAnyH_take (i := 3) (v := ?v14) rfl (by kernel_rfl) (by kernel_rfl) (by kernel_rfl) (fun _ _ _ h => h) (Or.inl ⟨by rfl, ?hy14⟩) (by assumption) ?rest14
  case hy14 => (intro w hSw; (try dsimp only at hSw); go_simp; try with_reducible rfl)
  try simp only [Act.put, List.getElem_toArray, List.getElem_cons_zero, List.getElem_cons_succ, List.setIfInBounds_toArray, List.set_cons_zero, List.set_cons_succ]
  refine wpAnyH_take (i := 4) (v := ?v15) rfl (by kernel_rfl) (by kernel_rfl) (by kernel_rfl) (fun _ _ _ h => h) (Or.inl ⟨by rfl, ?hy15⟩) (by assumption) ?rest15
  case hy15 => (intro w hSw; (try dsimp only at hSw); go_simp; try with_reducible rfl)
  try simp only [Act.put, List.getElem_toArray, List.getElem_cons_zero, List.getElem_cons_succ, List.setIfInBounds_toArray, List.set_cons_zero, List.set_cons_succ]
  refine wpAnyH_take (i := 6) (v := ?v16) rfl (by kernel_rfl) (by kernel_rfl) (by kernel_rfl) (fun _ _ _ h => h) (Or.inl ⟨by rfl, ?hy16⟩) (by assumption) ?rest16
  case hy16 => (intro w hSw; (try dsimp only at hSw); go_simp; try with_reducible rfl)
  try simp only [Act.put, List.getElem_toArray, List.getElem_cons_zero, List.getElem_cons_succ, List.setIfInBounds_toArray, List.set_cons_zero, List.set_cons_succ]
  refine wpAnyH_take (i := 7) (v := ?v17) rfl (by kernel_rfl) (by kernel_rfl) (by kernel_rfl) (fun _ _ _ h => h) (Or.inl ⟨by rfl, ?hy17⟩) (by assumption) ?rest17
  case hy17 => (intro w hSw; (try dsimp only at hSw); go_simp; try with_reducible rfl)
  try simp only [Act.put, List.getElem_toArray, List.getElem_cons_zero, List.getElem_cons_succ, List.setIfInBounds_toArray, List.set_cons_zero, List.set_cons_succ]
  refine wpAnyH_take (i := 8) (v := ?v18) rfl (by kernel_rfl) (by kernel_rfl) (by kernel_rfl) (fun _ _ _ h => h) (Or.inl ⟨by rfl, ?hy18⟩) (by assumption) ?rest18
  case hy18 => (intro w hSw; (try dsimp only at hSw); go_simp; try with_reducible rfl)
  try simp only [Act.put, List.getElem_toArray, List.getElem_cons_zero, List.getElem_cons_succ, List.setIfInBounds_toArray, List.set_cons_zero, List.set_cons_succ]
  refine wpAnyH_ready (rs := [5, 9]) (by kernel_rfl) (by simp) ?_
  refine AllReadyH.cons rfl (fun K hK => ?_) ?_
  go_simp
  refine hK.out _ _ (True.intro) (fun hHeld => ?_)
  clear hK K
  clear hHeld
  try simp only [Act.put, List.getElem_toArray, List.getElem_cons_zero, List.getElem_cons_succ, List.setIfInBounds_toArray, List.set_cons_zero, List.set_cons_succ]
  refine wpAnyH_ready (rs := [9]) (by kernel_rfl) (by simp) ?_
  refine AllReadyH.cons rfl (fun K hK => ?_) AllReadyH.nil
  go_simp
  refine hK.out _ _ (True.intro) (fun hHeld => ?_)
  clear hK K
  clear hHeld
  try simp only [Act.put, List.getElem_toArray, List.getElem_cons_zero, List.getElem_cons_succ, List.setIfInBounds_toArray, List.set_cons_zero, List.set_cons_succ]
  refine ?shared3
  rotate_left
  refine AllReadyH.cons rfl (fun K hK => ?_) AllReadyH.nil
  go_simp
  refine hK.out _ _ (True.intro) (fun hHeld => ?_)
  clear hK K
  clear hHeld
  try simp only [Act.put, List.getElem_toArray, List.getElem_cons_zero, List.getElem_cons_succ, List.setIfInBounds_toArray, List.set_cons_zero, List.set_cons_succ]
  refine wpAnyH_ready (rs := [5]) (by kernel_rfl) (by simp) ?_
  refine AllReadyH.cons rfl (fun K hK => ?_) AllReadyH.nil
  go_simp
  refine hK.out _ _ (True.intro) (fun hHeld => ?_)
  clear hK K
  clear hHeld
  try simp only [Act.put, List.getElem_toArray, List.getElem_cons_zero, List.getElem_cons_succ, List.setIfInBounds_toArray, List.set_cons_zero, List.set_cons_succ]
  exact ?shared3
  refine wpAnyH_take (i := 10) (v := ?v19) rfl (by kernel_rfl) (by kernel_rfl) (by kernel_rfl) (fun _ _ _ h => h) (Or.inl ⟨by rfl, ?hy19⟩) (by assumption) ?rest19
  case hy19 => (intro w hSw; (try dsimp only at hSw); go_simp; try with_reducible rfl)
  try simp only [Act.put, List.getElem_toArray, List.getElem_cons_zero, List.getElem_cons_succ, List.setIfInBounds_toArray, List.set_cons_zero, List.set_cons_succ]
  refine wpAnyH_ready (rs := [11]) (by kernel_rfl) (by simp) ?_
  refine AllReadyH.cons rfl (fun K hK => ?_) AllReadyH.nil
  go_simp
  refine (HLF.out V0).mono ?_
  rintro e W1 ⟨rfl, q, rfl⟩
  refine hK.out _ _ (True.intro) (fun hHeld => ?_)
  clear hK K
  try simp only [Act.put, List.getElem_toArray, List.getElem_cons_zero, List.getElem_cons_succ, List.setIfInBounds_toArray, List.set_cons_zero, List.set_cons_succ]
  refine wpAnyH_take (i := 12) (v := ?v20) rfl (by kernel_rfl) (by kernel_rfl) (by kernel_rfl) (fun _ _ _ h => h) (Or.inl ⟨by rfl, ?hy20⟩) (by assumption) ?rest20
  case hy20 => (intro w hSw; (try dsimp only at hSw); go_simp; try with_reducible rfl)
  try simp only [Act.put, List.getElem_toArray, List.getElem_cons_zero, List.getElem_cons_succ, List.setIfInBounds_toArray, List.set_cons_zero, List.set_cons_succ]
  have fz1 := HZ.out q
  have cx2 := HX1.out q
  refine wpAnyH_ready (rs := [13]) (by kernel_rfl) (by simp) ?_
  refine AllReadyH.cons rfl (fun K hK => ?_) AllReadyH.nil
  go_simp
  refine hK.out _ _ (True.intro) (fun hHeld => ?_)
  clear hK K
  try simp only [Act.put, List.getElem_toArray, List.getElem_cons_zero, List.getElem_cons_succ, List.setIfInBounds_toArray, List.set_cons_zero, List.set_cons_succ]
  refine wpAnyH_done (by kernel_rfl) ?_ _
  have O4 := hide (OQ.out q)
  have B4 := hide (BQ.out q)
  obtain ⟨w4, hwm⟩ : ∃ w4, w4 = (V0.drewN q).setCell ⟨g, b, none⟩ (.int .u32 (vr : Int)) := ⟨_, rfl⟩
  rw [← hwm] at O4 B4 ⊢
  clear hwm cx0 cy0 HZ HX1 OQ BQ HLF fz1 cx2 xz hHeld
  go_wp2_with fail
  have cx : w4.cell? ⟨g, a, none⟩ = some (.int .u32 ((L4.getD a 0 : Nat) : Int)) := O4.out.get HL4.out a ha
  have cy : w4.cell? ⟨g, b, none⟩ = some (.int .u32 ((L4.getD b 0 : Nat) : Int)) := O4.out.get HL4.out b hb
  have fz := O4.out.frozen a
  have wz : IntKind.u32.wrap ((L4.getD a 0 : Int) + (L4.getD b 0 : Int)) = (ad (L4.getD a 0) (L4.getD b 0) : Nat) := by rw [IntKind.wrap_u32']; exact ad_int _ _
  obtain ⟨L5, hL⟩ : ∃ L5, L5 = qAdd L4 a b := ⟨_, rfl⟩
  have HL5 : Hid (L5.length = 16) := by rw [hL]; show _ = _; rw [qAdd_length, HL4.out]
  have HW5 : Hid (Ws L5) := by rw [hL]; exact qAdd_ws HW4.out _ _
  have O5 : Hid (OwnW ((w4.setCell ⟨g, a, none⟩ (.int .u32 (ad (L4.getD a 0) (L4.getD b 0) : Nat))).drew) g L5) := by rw [hL]; exact OwnW.set (w := w4.drew) O4.out a _
  have B5 : Hid (Below w.heap.size w ((w4.setCell ⟨g, a, none⟩ (.int .u32 (ad (L4.getD a 0) (L4.getD b 0) : Nat))).drew)) := below_frm B4.out (((Frm.refl (fun i => i = g) w4).drew).trans (Frm.setCell _ _ _ (fun i => i = g) rfl) (fun _ _ h => h)) B4.out.size (fun i hi => by omega)
  have HE5 := hide hL
  clear hL O4 B4 HL4 HW4
  generalize L4.getD a 0 = vx at *
  generalize L4.getD b 0 = vy at *
  generalize ad vx vy = vz at *
  go_still_tail 12, (by kernel_rfl)
  have cx' : w4.drew.cell? ⟨g, a, none⟩ = some (.int .u32 (vx : Int)) := cx
  have fz' : w4.drew.frozen? ⟨g, a, none⟩ = false := fz
  change wpList _ _ _ _ _ w4.drew
  go_wp2_with fail
  obtain ⟨w5, hwm⟩ : ∃ w5, w5 = (w4.setCell ⟨g, a, none⟩ (.int .u32 (vz : Int))).drew := ⟨_, rfl⟩
  rw [← hwm] at O5 B5 ⊢
  clear hwm cx cy fz wz cx' fz'
  have cx : w5.cell? ⟨g, d, none⟩ = some (.int .u32 ((L5.getD d 0 : Nat) : Int)) := O5.out.get HL5.out d hd
  have cy : w5.cell? ⟨g, a, none⟩ = some (.int .u32 ((L5.getD a 0 : Nat) : Int)) := O5.out.get HL5.out a ha
  have fz := O5.out.frozen d
  have lx := HW5.out.get d
  have ly := HW5.out.get a
  have xz := u32_xor_nat (L5.getD d 0) (L5.getD a 0) lx ly
  have lz := xor_lt32 lx ly
  obtain ⟨L6, hL⟩ : ∃ L6, L6 = qTurn L5 d a 8 := ⟨_, rfl⟩
  have HL6 : Hid (L6.length = 16) := by rw [hL]; show _ = _; rw [qTurn_length, HL5.out]
  have HW6 : Hid (Ws L6) := by rw [hL]; exact qTurn_ws HW5.out _ _ _
  have OQ : Hid (∀ q, OwnW ((w5.drew.drewN q).setCell ⟨g, d, none⟩ (.int .u32 (leftN (L5.getD d 0 ^^^ L5.getD a 0) 8 : Nat))) g L6) := by rw [hL]; exact fun q => OwnW.set (w := w5.drew.drewN q) O5.out d _
  have BQ : Hid (∀ q, Below w.heap.size w ((w5.drew.drewN q).setCell ⟨g, d, none⟩ (.int .u32 (leftN (L5.getD d 0 ^^^ L5.getD a 0) 8 : Nat)))) := fun q => below_frm B5.out ((((Frm.refl (fun i => i = g) w5).drew).drewN q).trans (Frm.setCell _ _ _ (fun i => i = g) rfl) (fun _ _ h => h)) B5.out.size (fun i hi => by omega)
  have HE6 := hide hL
  have HLF : Hid (∀ W, Calls Tryd.prog 26 #[.int .u32 ((L5.getD d 0 ^^^ L5.getD a 0 : Nat) : Int), .int .i64 8] W fun e w' => e = .returned (.int .u32 (leftN (L5.getD d 0 ^^^ L5.getD a 0) 8 : Nat)) ∧ ∃ q, w' = W.drewN q) := fun W => left_any _ 8 W lz (by omega) (by omega)
  clear hL O5 B5 HL5 HW5 lx ly lz
  generalize leftN (L5.getD d 0 ^^^ L5.getD a 0) 8 = vr at *
  generalize L5.getD d 0 ^^^ L5.getD a 0 = vz at *
  generalize L5.getD d 0 = vx at *
  generalize L5.getD a 0 = vy at *
  refine wp_region_held_drew (S := fun _ => True) (by kernel_rfl) (True.intro) ?_
  intro hHeld
  have cx0 : w5.drew.cell? ⟨g, d, none⟩ = some (.int .u32 (vx : Int)) := cx
  have cy0 : w5.drew.cell? ⟨g, a, none⟩ = some (.int .u32 (vy : Int)) := cy
  have fz0 : ∀ q, (w5.drew.drewN q).frozen? ⟨g, d, none⟩ = false := fun _ => fz
  have cx1 : ∀ q, (w5.drew.drewN q).cell? ⟨g, d, none⟩ = some (.int .u32 (vx : Int)) := fun _ => cx
  have HZ := hide fz0
  have HX1 := hide cx1
  clear fz0 cx1 cx cy fz
  obtain ⟨V0, hV0⟩ : ∃ V0, V0 = w5.drew := ⟨_, rfl⟩
  rw [← hV0] at cx0 cy0 HZ HX1 OQ BQ ⊢
  clear hV0
  refine wpAnyH_take (i := 0) (v := ?v21) rfl (by kernel_rfl) (by kernel_rfl) (by kernel_rfl) (fun _ _ _ h => h) (Or.inl ⟨by rfl, ?hy21⟩) (by assumption) ?rest21
  case hy21 => (intro w hSw; (try dsimp only at hSw); go_simp; try with_reducible rfl)
  try simp only [Act.put, List.getElem_toArray, List.getElem_cons_zero, List.setIfInBounds_toArray, List.set_cons_zero, List.set_cons_succ]
  refine wpAnyH_take (i := 1) (v := ?v22) rfl (by kernel_rfl) (by kernel_rfl) (by kernel_rfl) (fun _ _ _ h => h) (Or.inl ⟨by rfl, ?hy22⟩) (by assumption) ?rest22
  case hy22 => (intro w hSw; (try dsimp only at hSw); go_simp; try with_reducible rfl)
  try simp only [Act.put, List.getElem_toArray, List.getElem_cons_zero, List.getElem_cons_succ, List.setIfInBounds_toArray, List.set_cons_zero, List.set_cons_succ]
  refine wpAnyH_take (i := 2) (v := ?v23) rfl (by kernel_rfl) (by kernel_rfl) (by kernel_rfl) (fun _ _ _ h => h) (Or.inl ⟨by rfl, ?hy23⟩) (by assumption) ?rest23
  case hy23 => (intro w hSw; (try dsimp only at hSw); go_simp; try with_reducible rfl)
  try simp only [Act.put, List.getElem_toArray, List.getElem_cons_zero, List.getElem_cons_succ, List.setIfInBounds_toArray, List.set_cons_zero, List.set_cons_succ]
  refine wpAnyH_take (i := 3) (v := ?v24) rfl (by kernel_rfl) (by kernel_rfl) (by kernel_rfl) (fun _ _ _ h => h) (Or.inl ⟨by rfl, ?hy24⟩) (by assumption) ?rest24
  case hy24 => (intro w hSw; (try dsimp only at hSw); go_simp; try with_reducible rfl)
  try simp only [Act.put, List.getElem_toArray, List.getElem_cons_zero, List.getElem_cons_succ, List.setIfInBounds_toArray, List.set_cons_zero, List.set_cons_succ]
  refine wpAnyH_take (i := 4) (v := ?v25) rfl (by kernel_rfl) (by kernel_rfl) (by kernel_rfl) (fun _ _ _ h => h) (Or.inl ⟨by rfl, ?hy25⟩) (by assumption) ?rest25
  case hy25 => (intro w hSw; (try dsimp only at hSw); go_simp; try with_reducible rfl)
  try simp only [Act.put, List.getElem_toArray, List.getElem_cons_zero, List.getElem_cons_succ, List.setIfInBounds_toArray, List.set_cons_zero, List.set_cons_succ]
  refine wpAnyH_take (i := 6) (v := ?v26) rfl (by kernel_rfl) (by kernel_rfl) (by kernel_rfl) (fun _ _ _ h => h) (Or.inl ⟨by rfl, ?hy26⟩) (by assumption) ?rest26
  case hy26 => (intro w hSw; (try dsimp only at hSw); go_simp; try with_reducible rfl)
  try simp only [Act.put, List.getElem_toArray, List.getElem_cons_zero, List.getElem_cons_succ, List.setIfInBounds_toArray, List.set_cons_zero, List.set_cons_succ]
  refine wpAnyH_take (i := 7) (v := ?v27) rfl (by kernel_rfl) (by kernel_rfl) (by kernel_rfl) (fun _ _ _ h => h) (Or.inl ⟨by rfl, ?hy27⟩) (by assumption) ?rest27
  case hy27 => (intro w hSw; (try dsimp only at hSw); go_simp; try with_reducible rfl)
  try simp only [Act.put, List.getElem_toArray, List.getElem_cons_zero, List.getElem_cons_succ, List.setIfInBounds_toArray, List.set_cons_zero, List.set_cons_succ]
  refine wpAnyH_take (i := 8) (v := ?v28) rfl (by kernel_rfl) (by kernel_rfl) (by kernel_rfl) (fun _ _ _ h => h) (Or.inl ⟨by rfl, ?hy28⟩) (by assumption) ?rest28
  case hy28 => (intro w hSw; (try dsimp only at hSw); go_simp; try with_reducible rfl)
  try simp only [Act.put, List.getElem_toArray, List.getElem_cons_zero, List.getElem_cons_succ, List.setIfInBounds_toArray, List.set_cons_zero, List.set_cons_succ]
  refine wpAnyH_ready (rs := [5, 9]) (by kernel_rfl) (by simp) ?_
  refine AllReadyH.cons rfl (fun K hK => ?_) ?_
  go_simp
  refine hK.out _ _ (True.intro) (fun hHeld => ?_)
  clear hK K
  clear hHeld
  try simp only [Act.put, List.getElem_toArray, List.getElem_cons_zero, List.getElem_cons_succ, List.setIfInBounds_toArray, List.set_cons_zero, List.set_cons_succ]
  refine wpAnyH_ready (rs := [9]) (by kernel_rfl) (by simp) ?_
  refine AllReadyH.cons rfl (fun K hK => ?_) AllReadyH.nil
  go_simp
  refine hK.out _ _ (True.intro) (fun hHeld => ?_)
  clear hK K
  clear hHeld
  try simp only [Act.put, List.getElem_toArray, List.getElem_cons_zero, List.getElem_cons_succ, List.setIfInBounds_toArray, List.set_cons_zero, List.set_cons_succ]
  refine ?shared5
  rotate_left
  refine AllReadyH.cons rfl (fun K hK => ?_) AllReadyH.nil
  go_simp
  refine hK.out _ _ (True.intro) (fun hHeld => ?_)
  clear hK K
  clear hHeld
  try simp only [Act.put, List.getElem_toArray, List.getElem_cons_zero, List.getElem_cons_succ, List.setIfInBounds_toArray, List.set_cons_zero, List.set_cons_succ]
  refine wpAnyH_ready (rs := [5]) (by kernel_rfl) (by simp) ?_
  refine AllReadyH.cons rfl (fun K hK => ?_) AllReadyH.nil
  go_simp
  refine hK.out _ _ (True.intro) (fun hHeld => ?_)
  clear hK K
  clear hHeld
  try simp only [Act.put, List.getElem_toArray, List.getElem_cons_zero, List.getElem_cons_succ, List.setIfInBounds_toArray, List.set_cons_zero, List.set_cons_succ]
  exact ?shared5
  refine wpAnyH_take (i := 10) (v := ?v29) rfl (by kernel_rfl) (by kernel_rfl) (by kernel_rfl) (fun _ _ _ h => h) (Or.inl ⟨by rfl, ?hy29⟩) (by assumption) ?rest29
  case hy29 => (intro w hSw; (try dsimp only at hSw); go_simp; try with_reducible rfl)
  try simp only [Act.put, List.getElem_toArray, List.getElem_cons_zero, List.getElem_cons_succ, List.setIfInBounds_toArray, List.set_cons_zero, List.set_cons_succ]
  refine wpAnyH_ready (rs := [11]) (by kernel_rfl) (by simp) ?_
  refine AllReadyH.cons rfl (fun K hK => ?_) AllReadyH.nil
  go_simp
  refine (HLF.out V0).mono ?_
  rintro e W1 ⟨rfl, q, rfl⟩
  refine hK.out _ _ (True.intro) (fun hHeld => ?_)
  clear hK K
  try simp only [Act.put, List.getElem_toArray, List.getElem_cons_zero, List.getElem_cons_succ, List.setIfInBounds_toArray, List.set_cons_zero, List.set_cons_succ]
  refine wpAnyH_take (i := 12) (v := ?v30) rfl (by kernel_rfl) (by kernel_rfl) (by kernel_rfl) (fun _ _ _ h => h) (Or.inl ⟨by rfl, ?hy30⟩) (by assumption) ?rest30
  case hy30 => (intro w hSw; (try dsimp only at hSw); go_simp; try with_reducible rfl)
  try simp only [Act.put, List.getElem_toArray, List.getElem_cons_zero, List.getElem_cons_succ, List.setIfInBounds_toArray, List.set_cons_zero, List.set_cons_succ]
  have fz1 := HZ.out q
  have cx2 := HX1.out q
  refine wpAnyH_ready (rs := [13]) (by kernel_rfl) (by simp) ?_
  refine AllReadyH.cons rfl (fun K hK => ?_) AllReadyH.nil
  go_simp
  refine hK.out _ _ (True.intro) (fun hHeld => ?_)
  clear hK K
  try simp only [Act.put, List.getElem_toArray, List.getElem_cons_zero, List.getElem_cons_succ, List.setIfInBounds_toArray, List.set_cons_zero, List.set_cons_succ]
  refine wpAnyH_done (by kernel_rfl) ?_ _
  have O6 := hide (OQ.out q)
  have B6 := hide (BQ.out q)
  obtain ⟨w6, hwm⟩ : ∃ w6, w6 = (V0.drewN q).setCell ⟨g, d, none⟩ (.int .u32 (vr : Int)) := ⟨_, rfl⟩
  rw [← hwm] at O6 B6 ⊢
  clear hwm cx0 cy0 HZ HX1 OQ BQ HLF fz1 cx2 xz hHeld
  go_wp2_with fail
  have cx : w6.cell? ⟨g, c, none⟩ = some (.int .u32 ((L6.getD c 0 : Nat) : Int)) := O6.out.get HL6.out c hc
  have cy : w6.cell? ⟨g, d, none⟩ = some (.int .u32 ((L6.getD d 0 : Nat) : Int)) := O6.out.get HL6.out d hd
  have fz := O6.out.frozen c
  have wz : IntKind.u32.wrap ((L6.getD c 0 : Int) + (L6.getD d 0 : Int)) = (ad (L6.getD c 0) (L6.getD d 0) : Nat) := by rw [IntKind.wrap_u32']; exact ad_int _ _
  obtain ⟨L7, hL⟩ : ∃ L7, L7 = qAdd L6 c d := ⟨_, rfl⟩
  have HL7 : Hid (L7.length = 16) := by rw [hL]; show _ = _; rw [qAdd_length, HL6.out]
  have HW7 : Hid (Ws L7) := by rw [hL]; exact qAdd_ws HW6.out _ _
  have O7 : Hid (OwnW ((w6.setCell ⟨g, c, none⟩ (.int .u32 (ad (L6.getD c 0) (L6.getD d 0) : Nat))).drew) g L7) := by rw [hL]; exact OwnW.set (w := w6.drew) O6.out c _
  have B7 : Hid (Below w.heap.size w ((w6.setCell ⟨g, c, none⟩ (.int .u32 (ad (L6.getD c 0) (L6.getD d 0) : Nat))).drew)) := below_frm B6.out (((Frm.refl (fun i => i = g) w6).drew).trans (Frm.setCell _ _ _ (fun i => i = g) rfl) (fun _ _ h => h)) B6.out.size (fun i hi => by omega)
  have HE7 := hide hL
  clear hL O6 B6 HL6 HW6
  generalize L6.getD c 0 = vx at *
  generalize L6.getD d 0 = vy at *
  generalize ad vx vy = vz at *
  go_still_tail 12, (by kernel_rfl)
  have cx' : w6.drew.cell? ⟨g, c, none⟩ = some (.int .u32 (vx : Int)) := cx
  have fz' : w6.drew.frozen? ⟨g, c, none⟩ = false := fz
  change wpList _ _ _ _ _ w6.drew
  go_wp2_with fail
  obtain ⟨w7, hwm⟩ : ∃ w7, w7 = (w6.setCell ⟨g, c, none⟩ (.int .u32 (vz : Int))).drew := ⟨_, rfl⟩
  rw [← hwm] at O7 B7 ⊢
  clear hwm cx cy fz wz cx' fz'
  have cx : w7.cell? ⟨g, b, none⟩ = some (.int .u32 ((L7.getD b 0 : Nat) : Int)) := O7.out.get HL7.out b hb
  have cy : w7.cell? ⟨g, c, none⟩ = some (.int .u32 ((L7.getD c 0 : Nat) : Int)) := O7.out.get HL7.out c hc
  have fz := O7.out.frozen b
  have lx := HW7.out.get b
  have ly := HW7.out.get c
  have xz := u32_xor_nat (L7.getD b 0) (L7.getD c 0) lx ly
  have lz := xor_lt32 lx ly
  obtain ⟨L8, hL⟩ : ∃ L8, L8 = qTurn L7 b c 7 := ⟨_, rfl⟩
  have HL8 : Hid (L8.length = 16) := by rw [hL]; show _ = _; rw [qTurn_length, HL7.out]
  have HW8 : Hid (Ws L8) := by rw [hL]; exact qTurn_ws HW7.out _ _ _
  have OQ : Hid (∀ q, OwnW ((w7.drew.drewN q).setCell ⟨g, b, none⟩ (.int .u32 (leftN (L7.getD b 0 ^^^ L7.getD c 0) 7 : Nat))) g L8) := by rw [hL]; exact fun q => OwnW.set (w := w7.drew.drewN q) O7.out b _
  have BQ : Hid (∀ q, Below w.heap.size w ((w7.drew.drewN q).setCell ⟨g, b, none⟩ (.int .u32 (leftN (L7.getD b 0 ^^^ L7.getD c 0) 7 : Nat)))) := fun q => below_frm B7.out ((((Frm.refl (fun i => i = g) w7).drew).drewN q).trans (Frm.setCell _ _ _ (fun i => i = g) rfl) (fun _ _ h => h)) B7.out.size (fun i hi => by omega)
  have HE8 := hide hL
  have HLF : Hid (∀ W, Calls Tryd.prog 26 #[.int .u32 ((L7.getD b 0 ^^^ L7.getD c 0 : Nat) : Int), .int .i64 7] W fun e w' => e = .returned (.int .u32 (leftN (L7.getD b 0 ^^^ L7.getD c 0) 7 : Nat)) ∧ ∃ q, w' = W.drewN q) := fun W => left_any _ 7 W lz (by omega) (by omega)
  clear hL O7 B7 HL7 HW7 lx ly lz
  generalize leftN (L7.getD b 0 ^^^ L7.getD c 0) 7 = vr at *
  generalize L7.getD b 0 ^^^ L7.getD c 0 = vz at *
  generalize L7.getD b 0 = vx at *
  generalize L7.getD c 0 = vy at *
  refine wp_region_held_drew (S := fun _ => True) (by kernel_rfl) (True.intro) ?_
  intro hHeld
  have cx0 : w7.drew.cell? ⟨g, b, none⟩ = some (.int .u32 (vx : Int)) := cx
  have cy0 : w7.drew.cell? ⟨g, c, none⟩ = some (.int .u32 (vy : Int)) := cy
  have fz0 : ∀ q, (w7.drew.drewN q).frozen? ⟨g, b, none⟩ = false := fun _ => fz
  have cx1 : ∀ q, (w7.drew.drewN q).cell? ⟨g, b, none⟩ = some (.int .u32 (vx : Int)) := fun _ => cx
  have HZ := hide fz0
  have HX1 := hide cx1
  clear fz0 cx1 cx cy fz
  obtain ⟨V0, hV0⟩ : ∃ V0, V0 = w7.drew := ⟨_, rfl⟩
  rw [← hV0] at cx0 cy0 HZ HX1 OQ BQ ⊢
  clear hV0
  refine wpAnyH_take (i := 0) (v := ?v31) rfl (by kernel_rfl) (by kernel_rfl) (by kernel_rfl) (fun _ _ _ h => h) (Or.inl ⟨by rfl, ?hy31⟩) (by assumption) ?rest31
  case hy31 => (intro w hSw; (try dsimp only at hSw); go_simp; try with_reducible rfl)
  try simp only [Act.put, List.getElem_toArray, List.getElem_cons_zero, List.setIfInBounds_toArray, List.set_cons_zero, List.set_cons_succ]
  refine wpAnyH_take (i := 1) (v := ?v32) rfl (by kernel_rfl) (by kernel_rfl) (by kernel_rfl) (fun _ _ _ h => h) (Or.inl ⟨by rfl, ?hy32⟩) (by assumption) ?rest32
  case hy32 => (intro w hSw; (try dsimp only at hSw); go_simp; try with_reducible rfl)
  try simp only [Act.put, List.getElem_toArray, List.getElem_cons_zero, List.getElem_cons_succ, List.setIfInBounds_toArray, List.set_cons_zero, List.set_cons_succ]
  refine wpAnyH_take (i := 2) (v := ?v33) rfl (by kernel_rfl) (by kernel_rfl) (by kernel_rfl) (fun _ _ _ h => h) (Or.inl ⟨by rfl, ?hy33⟩) (by assumption) ?rest33
  case hy33 => (intro w hSw; (try dsimp only at hSw); go_simp; try with_reducible rfl)
  try simp only [Act.put, List.getElem_toArray, List.getElem_cons_zero, List.getElem_cons_succ, List.setIfInBounds_toArray, List.set_cons_zero, List.set_cons_succ]
  refine wpAnyH_take (i := 3) (v := ?v34) rfl (by kernel_rfl) (by kernel_rfl) (by kernel_rfl) (fun _ _ _ h => h) (Or.inl ⟨by rfl, ?hy34⟩) (by assumption) ?rest34
  case hy34 => (intro w hSw; (try dsimp only at hSw); go_simp; try with_reducible rfl)
  try simp only [Act.put, List.getElem_toArray, List.getElem_cons_zero, List.getElem_cons_succ, List.setIfInBounds_toArray, List.set_cons_zero, List.set_cons_succ]
  refine wpAnyH_take (i := 4) (v := ?v35) rfl (by kernel_rfl) (by kernel_rfl) (by kernel_rfl) (fun _ _ _ h => h) (Or.inl ⟨by rfl, ?hy35⟩) (by assumption) ?rest35
  case hy35 => (intro w hSw; (try dsimp only at hSw); go_simp; try with_reducible rfl)
  try simp only [Act.put, List.getElem_toArray, List.getElem_cons_zero, List.getElem_cons_succ, List.setIfInBounds_toArray, List.set_cons_zero, List.set_cons_succ]
  refine wpAnyH_take (i := 6) (v := ?v36) rfl (by kernel_rfl) (by kernel_rfl) (by kernel_rfl) (fun _ _ _ h => h) (Or.inl ⟨by rfl, ?hy36⟩) (by assumption) ?rest36
  case hy36 => (intro w hSw; (try dsimp only at hSw); go_simp; try with_reducible rfl)
  try simp only [Act.put, List.getElem_toArray, List.getElem_cons_zero, List.getElem_cons_succ, List.setIfInBounds_toArray, List.set_cons_zero, List.set_cons_succ]
  refine wpAnyH_take (i := 7) (v := ?v37) rfl (by kernel_rfl) (by kernel_rfl) (by kernel_rfl) (fun _ _ _ h => h) (Or.inl ⟨by rfl, ?hy37⟩) (by assumption) ?rest37
  case hy37 => (intro w hSw; (try dsimp only at hSw); go_simp; try with_reducible rfl)
  try simp only [Act.put, List.getElem_toArray, List.getElem_cons_zero, List.getElem_cons_succ, List.setIfInBounds_toArray, List.set_cons_zero, List.set_cons_succ]
  refine wpAnyH_take (i := 8) (v := ?v38) rfl (by kernel_rfl) (by kernel_rfl) (by kernel_rfl) (fun _ _ _ h => h) (Or.inl ⟨by rfl, ?hy38⟩) (by assumption) ?rest38
  case hy38 => (intro w hSw; (try dsimp only at hSw); go_simp; try with_reducible rfl)
  try simp only [Act.put, List.getElem_toArray, List.getElem_cons_zero, List.getElem_cons_succ, List.setIfInBounds_toArray, List.set_cons_zero, List.set_cons_succ]
  refine wpAnyH_ready (rs := [5, 9]) (by kernel_rfl) (by simp) ?_
  refine AllReadyH.cons rfl (fun K hK => ?_) ?_
  go_simp
  refine hK.out _ _ (True.intro) (fun hHeld => ?_)
  clear hK K
  clear hHeld
  try simp only [Act.put, List.getElem_toArray, List.getElem_cons_zero, List.getElem_cons_succ, List.setIfInBounds_toArray, List.set_cons_zero, List.set_cons_succ]
  refine wpAnyH_ready (rs := [9]) (by kernel_rfl) (by simp) ?_
  refine AllReadyH.cons rfl (fun K hK => ?_) AllReadyH.nil
  go_simp
  refine hK.out _ _ (True.intro) (fun hHeld => ?_)
  clear hK K
  clear hHeld
  try simp only [Act.put, List.getElem_toArray, List.getElem_cons_zero, List.getElem_cons_succ, List.setIfInBounds_toArray, List.set_cons_zero, List.set_cons_succ]
  refine ?shared7
  rotate_left
  refine AllReadyH.cons rfl (fun K hK => ?_) AllReadyH.nil
  go_simp
  refine hK.out _ _ (True.intro) (fun hHeld => ?_)
  clear hK K
  clear hHeld
  try simp only [Act.put, List.getElem_toArray, List.getElem_cons_zero, List.getElem_cons_succ, List.setIfInBounds_toArray, List.set_cons_zero, List.set_cons_succ]
  refine wpAnyH_ready (rs := [5]) (by kernel_rfl) (by simp) ?_
  refine AllReadyH.cons rfl (fun K hK => ?_) AllReadyH.nil
  go_simp
  refine hK.out _ _ (True.intro) (fun hHeld => ?_)
  clear hK K
  clear hHeld
  try simp only [Act.put, List.getElem_toArray, List.getElem_cons_zero, List.getElem_cons_succ, List.setIfInBounds_toArray, List.set_cons_zero, List.set_cons_succ]
  exact ?shared7
  refine wpAnyH_take (i := 10) (v := ?v39) rfl (by kernel_rfl) (by kernel_rfl) (by kernel_rfl) (fun _ _ _ h => h) (Or.inl ⟨by rfl, ?hy39⟩) (by assumption) ?rest39
  case hy39 => (intro w hSw; (try dsimp only at hSw); go_simp; try with_reducible rfl)
  try simp only [Act.put, List.getElem_toArray, List.getElem_cons_zero, List.getElem_cons_succ, List.setIfInBounds_toArray, List.set_cons_zero, List.set_cons_succ]
  refine wpAnyH_ready (rs := [11]) (by kernel_rfl) (by simp) ?_
  refine AllReadyH.cons rfl (fun K hK => ?_) AllReadyH.nil
  go_simp
  refine (HLF.out V0).mono ?_
  rintro e W1 ⟨rfl, q, rfl⟩
  refine hK.out _ _ (True.intro) (fun hHeld => ?_)
  clear hK K
  try simp only [Act.put, List.getElem_toArray, List.getElem_cons_zero, List.getElem_cons_succ, List.setIfInBounds_toArray, List.set_cons_zero, List.set_cons_succ]
  refine wpAnyH_take (i := 12) (v := ?v40) rfl (by kernel_rfl) (by kernel_rfl) (by kernel_rfl) (fun _ _ _ h => h) (Or.inl ⟨by rfl, ?hy40⟩) (by assumption) ?rest40
  case hy40 => (intro w hSw; (try dsimp only at hSw); go_simp; try with_reducible rfl)
  try simp only [Act.put, List.getElem_toArray, List.getElem_cons_zero, List.getElem_cons_succ, List.setIfInBounds_toArray, List.set_cons_zero, List.set_cons_succ]
  have fz1 := HZ.out q
  have cx2 := HX1.out q
  refine wpAnyH_ready (rs := [13]) (by kernel_rfl) (by simp) ?_
  refine AllReadyH.cons rfl (fun K hK => ?_) AllReadyH.nil
  go_simp
  refine hK.out _ _ (True.intro) (fun hHeld => ?_)
  clear hK K
  try simp only [Act.put, List.getElem_toArray, List.getElem_cons_zero, List.getElem_cons_succ, List.setIfInBounds_toArray, List.set_cons_zero, List.set_cons_succ]
  refine wpAnyH_done (by kernel_rfl) ?_ _
  have O8 := hide (OQ.out q)
  have B8 := hide (BQ.out q)
  obtain ⟨w8, hwm⟩ : ∃ w8, w8 = (V0.drewN q).setCell ⟨g, b, none⟩ (.int .u32 (vr : Int)) := ⟨_, rfl⟩
  rw [← hwm] at O8 B8 ⊢
  clear hwm cx0 cy0 HZ HX1 OQ BQ HLF fz1 cx2 xz hHeld
  go_wp2_with fail
  go_ret
  have hq : quarterL L a b c d = L8 := by
    rw [HE8.out, HE7.out, HE6.out, HE5.out, HE4.out, HE3.out, HE2.out, HE1.out, HE0.out]
    rfl
  rw [hq]
  exact ⟨_, _, rfl, O8.out.rds HL8.out, B8.out⟩
end Go.Proofs.YtjdffceeinflcaaDoor
