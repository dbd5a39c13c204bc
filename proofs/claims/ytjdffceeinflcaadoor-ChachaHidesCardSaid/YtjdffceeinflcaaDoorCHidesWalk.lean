/-
  ChachaHides, walked.
-/
import Derived.Test.YtjdffceeinflcaaDoorCh9
import Derived.Deep.RegionHeld
namespace Go.Proofs.YtjdffceeinflcaaDoor
set_option linter.unusedVariables false
open Go.RowKit

theorem xorB_twice : ∀ (a t : List UInt8), a.length ≤ t.length → xorB (xorB a t) t = a
  | [], _, _ => by simp [xorB]
  | x :: a, [], h => by simp at h
  | x :: a, y :: t, h => by
    have ih := xorB_twice a t (by simpa using h)
    have hx : (x ^^^ y) ^^^ y = x := by rw [UInt8.xor_assoc, UInt8.xor_self, UInt8.xor_zero]
    simp only [xorB, List.zipWith_cons_cons, hx] at ih ⊢
    rw [ih]
theorem xorB_zero : ∀ (n : Nat) (t : List UInt8), t.length = n → xorB (List.replicate n 0) t = t
  | 0, [], _ => rfl
  | 0, x :: t, h => by simp at h
  | n + 1, [], h => by simp at h
  | n + 1, x :: t, h => by
    have ih := xorB_zero n t (by simpa using h)
    simp only [xorB, List.replicate_succ, List.zipWith_cons_cons, UInt8.zero_xor] at ih ⊢
    rw [ih]

/-- make of bytes, as a step of a region. -/
theorem step_make8 {ops : Array Oper} {op : Oper} {a : Act} {w : World} {K : Act → World → Prop} {Q : Exit → Act → World → Prop} {E : Prop} (hw : Region.wanted op (yielded ops a.tmps) = true) (x : Operand) (ho : op.op = .makeSlice 29 x x)
    (k : IntKind) (c : Nat) (hx : a.eval x = .int k (c : Int)) (hc : c ≤ 1000000)
    (h : ∀ g w', Blk w' g 5 (cellsB (List.replicate c 0)).toArray → w.heap.size ≤ g → Frm (fun _ => False) w w' → K (a.put op.dst (.slice (some ⟨g, 0, none⟩) c c)) w') : if Region.wanted op (yielded ops a.tmps) = true then Oper.wp Tryd.prog op a w K Q else E := by
  rw [if_pos hw]
  have hinfo := info8
  cases hq : Tryd.prog.info? 5 with
  | none => rw [hq] at hinfo; cases hinfo
  | some i =>
    rw [hq] at hinfo
    simp at hinfo
    obtain ⟨hz, hs, hb⟩ := hinfo
    have hr := run_make (P := Tryd.prog) w 29 5 i _ under24 hq hz k k (c : Int) (c : Int) (by omega) (by omega) (by rw [hb]; omega) (by omega)
    rw [hs] at hr
    simp only [Int.toNat_natCast, Nat.mul_one, Value.cells, madeCells1] at hr
    have hcell : (List.replicate c (Value.int .u8 0)) = cellsB (List.replicate c 0) := by simp [cellsB]
    rw [hcell] at hr
    unfold Oper.wp execOp
    simp [ho, hx, hr, Oper.upon, Result.andThen]
    exact h _ _ (Blk.new _ _ _) (Nat.le_refl _) (Frm.alloc _ _ _)

structure HInv (w0 : World) (gk gn gs gx m : Nat) (key nonce : List UInt8) (A : Option Addr) (B T X : List UInt8) (W : World) : Prop where
  key : Blk W gk 23 (cellsB key).toArray
  nonce : Blk W gn 25 (cellsB nonce).toArray
  b : Rds W A m (cellsB B)
  s : Rds W (some ⟨gs, 0, none⟩) m (cellsB T)
  x : Rds W (some ⟨gx, 0, none⟩) m (cellsB X)
  run : CRun w0 W
theorem HInv.frm0 {w0 : World} {gk gn gs gx m : Nat} {key nonce : List UInt8} {A : Option Addr} {B T X : List UInt8} {W W' : World} (h : HInv w0 gk gn gs gx m key nonce A B T X W) (f : Frm (fun _ => False) W W') : HInv w0 gk gn gs gx m key nonce A B T X W' :=
  ⟨h.key.frm f (fun h => h), h.nonce.frm f (fun h => h), h.b.frm f (fun _ _ _ h => h), h.s.frm f (fun _ _ _ h => h), h.x.frm f (fun _ _ _ h => h), h.run.frm0 f⟩

set_option maxHeartbeats 8000000 in
theorem chides_walk (key nonce : List UInt8) (A : Option Addr) (len cap : Nat) (l : List UInt8) (w : World) (hG : Gc w) (hg0 : 2 ≤ w.heap.size) (hk : key.length = 32) (hno : nonce.length = 12) (hr : Rds w A len (cellsB l)) (hcap : len ≤ cap) (hmx : cap ≤ 9223372036854775807) :
    Calls Tryd.prog 6 #[.agg (cellsB key).toArray, .agg (cellsB nonce).toArray, .slice A len cap] w fun e w' => e = .returned (.bool true) ∧ Below w.heap.size w w' := by
  obtain ⟨hbx, hrun⟩ := boxed_start w key nonce hG hg0
  obtain ⟨m, HM, ml, mr, me⟩ := nat_min len 1000
  have HRB := hide (hr.take m ml)
  rw [cellsB_take] at HRB
  have HBL : Hid ((l.take m).length = m) := by have := HRB.out.1; rwa [cellsB_length] at this
  generalize l.take m = B at *
  have hcut := fun w => run_cut0 A len cap m (by omega) w
  have HKL : Hid ((cellsB key).length = 32) := by show _ = _; rw [cellsB_length, hk]
  have HNL : Hid ((cellsB nonce).length = 12) := by show _ = _; rw [cellsB_length, hno]
  have HK0 := hide hk
  have HN0 := hide hno
  have HSR := hide (fun w' (hR : CRun w w') => stream_run w w' key nonce m hR hk hno (by omega))
  have HTL : Hid ((streamL key nonce m).length = m) := streamL_length _ _ _
  obtain ⟨T, hT⟩ : ∃ T, T = streamL key nonce m := ⟨_, rfl⟩
  rw [← hT] at HSR HTL
  have HXL : Hid ((xorB B T).length = m) := by show _ = _; rw [xorB_length, HBL.out, HTL.out, Nat.min_self]
  have HXX : Hid (xorB (xorB B T) T = B) := xorB_twice B T (by rw [HBL.out, HTL.out]; exact Nat.le_refl _)
  have HXZ : Hid (xorB (List.replicate m 0) T = T) := xorB_zero m T HTL.out
  obtain ⟨X, hX⟩ : ∃ X, X = xorB B T := ⟨_, rfl⟩
  have HX1 := fun w' A n c (hA : Rds w' A n (cellsB B)) B' d (hB : Rds w' B' m (cellsB T)) (hR : CRun w w') (hn : n ≤ 1000000) => xor_run w w' A B' n m c d B T m hA hB hR hn (by omega) HXL.out
  rw [← hX] at HXL HXX HX1
  have HBX := hide hbx
  have HRUN := hide hrun
  have HX1 := hide HX1
  have hm6 : m ≤ 1000000 := by omega
  clear hbx hrun hk hno hT hG hr me hX
  go_enter Tryd.func6, Tryd.ntmps6
  go_wp2_with fail
  refine (cshown_run w _ HRUN.out).mono ?_
  rintro e w1 ⟨rfl, hF1, hR1⟩
  have hb1 := HBX.out.frm0 hF1
  obtain ⟨gn, hgn⟩ : ∃ gn, gn = w.heap.size + 1 := ⟨_, rfl⟩
  rw [← hgn] at hb1 ⊢
  obtain ⟨gk, hgk⟩ : ∃ gk, gk = w.heap.size := ⟨_, rfl⟩
  rw [← hgk] at hb1 ⊢
  clear hgk hgn HBX HRUN hF1
  have hbk := hb1.key
  have hbn := hb1.nonce
  go_wp2_with (first
    | (with_reducible refine wpl_min (op := ⟨some 14, _, _, _, _, _⟩) rfl _ _ _ _ rfl _ _ _ (m : Int) rfl rfl HM.out ?_)
    | (with_reducible refine wpl_loadg (op := ⟨some 16, _, _, _, _, _⟩) aggK _ rfl gk rfl _ _ hbk HKL.out rfl ?_)
    | (with_reducible refine wpl_loadg (op := ⟨some 17, _, _, _, _, _⟩) agg12 _ rfl gn rfl _ _ hbn HNL.out rfl ?_))
  refine (HSR.out w1 hR1).mono ?_
  rintro e w2 ⟨gs, rfl, hrow, hge, hF2, hR2⟩
  have hrs := hrow.rds
  rw [HTL.out] at hrs
  have HRS := hide hrs
  have HR2 := hide hR2
  have HB2 := hide (hb1.frm0 hF2)
  clear hrs hrow hR2 hF2 hbk hbn hb1 hR1 HM hcut
  go_wp2_with fail
  refine (HX1.out w2 A m cap (HRB.out.below HR2.out.below) (some ⟨gs, 0, none⟩) m HRS.out HR2.out hm6).mono ?_
  rintro e w3 ⟨gx, rfl, hrow, hge, hF3, hR3⟩
  have hrx := hrow.rds
  rw [HXL.out] at hrx
  have FD : Frm (fun _ => False) w3 w3.drew := (Frm.refl _ _).drew
  have H0 : HInv w gk gn gs gx m key nonce A B T X w3.drew := HInv.frm0 ⟨(HB2.out.frm0 hF3).key, (HB2.out.frm0 hF3).nonce, HRB.out.below hR3.below, HRS.out.frm hF3 (fun _ _ _ h => h), hrx, hR3⟩ FD
  clear hrx hrow hF3 hR3 HB2 HRS HR2 HRB FD
  go_wp2_with fail
  refine wp_region_held_drew (S := HInv w gk gn gs gx m key nonce A B T X) (by kernel_rfl) H0 ?_
  intro hHeld
  obtain ⟨W0, hW0⟩ : ∃ W', W' = w3.drew := ⟨_, rfl⟩
  rw [← hW0] at H0 hHeld ⊢
  clear hW0
  refine wpAnyH_take (i := 0) (v := ?v1) rfl (by kernel_rfl) (by kernel_rfl) (by kernel_rfl) (fun _ _ _ h => h) (Or.inl ⟨by rfl, ?hy1⟩) (by assumption) ?rest1
  case hy1 => (intro w hSw; (try dsimp only at hSw); go_simp; try with_reducible rfl)
  try simp only [Act.put, List.getElem_toArray, List.getElem_cons_zero, List.setIfInBounds_toArray, List.set_cons_zero, List.set_cons_succ]
  refine wpAnyH_take (i := 1) (v := ?v2) rfl (by kernel_rfl) (by kernel_rfl) (by kernel_rfl) (fun _ _ _ h => h) (Or.inl ⟨by rfl, ?hy2⟩) (by assumption) ?rest2
  case hy2 => (intro w hSw; (try dsimp only at hSw); go_simp; try with_reducible rfl)
  try simp only [Act.put, List.getElem_toArray, List.getElem_cons_zero, List.getElem_cons_succ, List.setIfInBounds_toArray, List.set_cons_zero, List.set_cons_succ]
  refine wpAnyH_take (i := 2) (v := ?v3) rfl (by kernel_rfl) (by kernel_rfl) (by kernel_rfl) (fun _ _ _ h => h) (Or.inl ⟨by rfl, ?hy3⟩) (by assumption) ?rest3
  case hy3 => (intro w hSw; (try dsimp only at hSw); go_simp; try with_reducible rfl)
  try simp only [Act.put, List.getElem_toArray, List.getElem_cons_zero, List.getElem_cons_succ, List.setIfInBounds_toArray, List.set_cons_zero, List.set_cons_succ]
  refine wpAnyH_take (i := 3) (v := ?v4) rfl (by kernel_rfl) (by kernel_rfl) (by kernel_rfl) (fun _ _ _ h => h) (Or.inl ⟨by rfl, ?hy4⟩) (by assumption) ?rest4
  case hy4 => (intro w hSw; (try dsimp only at hSw); go_simp; try with_reducible rfl)
  try simp only [Act.put, List.getElem_toArray, List.getElem_cons_zero, List.getElem_cons_succ, List.setIfInBounds_toArray, List.set_cons_zero, List.set_cons_succ]
  refine wpAnyH_take (i := 4) (v := ?v5) rfl (by kernel_rfl) (by kernel_rfl) (by kernel_rfl) (fun _ _ _ h => h) (Or.inl ⟨by rfl, ?hy5⟩) (by assumption) ?rest5
  case hy5 => (intro w hSw; (try dsimp only at hSw); go_simp; try with_reducible rfl)
  try simp only [Act.put, List.getElem_toArray, List.getElem_cons_zero, List.getElem_cons_succ, List.setIfInBounds_toArray, List.set_cons_zero, List.set_cons_succ]
  refine wpAnyH_take (i := 5) (v := ?v6) rfl (by kernel_rfl) (by kernel_rfl) (by kernel_rfl) (fun _ _ _ h => h) (Or.inl ⟨by rfl, ?hy6⟩) (by assumption) ?rest6
  case hy6 => (intro w hSw; (try dsimp only at hSw); go_simp; try with_reducible rfl)
  try simp only [Act.put, List.getElem_toArray, List.getElem_cons_zero, List.getElem_cons_succ, List.setIfInBounds_toArray, List.set_cons_zero, List.set_cons_succ]
  refine wpAnyH_take (i := 6) (v := ?v7) rfl (by kernel_rfl) (by kernel_rfl) (by kernel_rfl) (fun _ _ _ h => h) (Or.inl ⟨by rfl, ?hy7⟩) (by assumption) ?rest7
  case hy7 => (intro w hSw; (try dsimp only at hSw); go_simp; try with_reducible rfl)
  try simp only [Act.put, List.getElem_toArray, List.getElem_cons_zero, List.getElem_cons_succ, List.setIfInBounds_toArray, List.set_cons_zero, List.set_cons_succ]
  refine wpAnyH_take (i := 7) (v := ?v8) rfl (by kernel_rfl) (by kernel_rfl) (by kernel_rfl) (fun _ _ _ h => h) (Or.inl ⟨by rfl, ?hy8⟩) (by assumption) ?rest8
  case hy8 => (intro w hSw; (try dsimp only at hSw); go_simp; try with_reducible rfl)
  try simp only [Act.put, List.getElem_toArray, List.getElem_cons_zero, List.getElem_cons_succ, List.setIfInBounds_toArray, List.set_cons_zero, List.set_cons_succ]
  refine wpAnyH_take (i := 8) (v := ?v9) rfl (by kernel_rfl) (by kernel_rfl) (by kernel_rfl) (fun _ _ _ h => h) (Or.inl ⟨by rfl, ?hy9⟩) (by assumption) ?rest9
  case hy9 => (intro w hSw; (try dsimp only at hSw); go_simp; try with_reducible rfl)
  try simp only [Act.put, List.getElem_toArray, List.getElem_cons_zero, List.getElem_cons_succ, List.setIfInBounds_toArray, List.set_cons_zero, List.set_cons_succ]
  refine wpAnyH_take (i := 9) (v := ?v10) rfl (by kernel_rfl) (by kernel_rfl) (by kernel_rfl) (fun _ _ _ h => h) (Or.inl ⟨by rfl, ?hy10⟩) (by assumption) ?rest10
  case hy10 => (intro w hSw; (try dsimp only at hSw); go_simp; try with_reducible rfl)
  try simp only [Act.put, List.getElem_toArray, List.getElem_cons_zero, List.getElem_cons_succ, List.setIfInBounds_toArray, List.set_cons_zero, List.set_cons_succ]
  refine wpAnyH_take (i := 10) (v := ?v11) rfl (by kernel_rfl) (by kernel_rfl) (by kernel_rfl) (fun _ _ _ h => h) (Or.inl ⟨by rfl, ?hy11⟩) (by assumption) ?rest11
  case hy11 => (intro w hSw; refine held_loadG aggK (.tmp 3) ?_ gk ?_ key HK0.out _ hSw.key <;> rfl)
  try simp only [Act.put, List.getElem_toArray, List.getElem_cons_zero, List.getElem_cons_succ, List.setIfInBounds_toArray, List.set_cons_zero, List.set_cons_succ]
  refine wpAnyH_take (i := 11) (v := ?v12) rfl (by kernel_rfl) (by kernel_rfl) (by kernel_rfl) (fun _ _ _ h => h) (Or.inl ⟨by rfl, ?hy12⟩) (by assumption) ?rest12
  case hy12 => (intro w hSw; refine held_loadG agg12 (.tmp 4) ?_ gn ?_ nonce HN0.out _ hSw.nonce <;> rfl)
  try simp only [Act.put, List.getElem_toArray, List.getElem_cons_zero, List.getElem_cons_succ, List.setIfInBounds_toArray, List.set_cons_zero, List.set_cons_succ]
  refine wpAnyH_take (i := 12) (v := ?v13) rfl (by kernel_rfl) (by kernel_rfl) (by kernel_rfl) (fun _ _ _ h => h) (Or.inl ⟨by rfl, ?hy13⟩) (by assumption) ?rest13
  case hy13 => (intro w hSw; (try dsimp only at hSw); go_simp; try with_reducible rfl)
  try simp only [Act.put, List.getElem_toArray, List.getElem_cons_zero, List.getElem_cons_succ, List.setIfInBounds_toArray, List.set_cons_zero, List.set_cons_succ]
  refine wpAnyH_take (i := 13) (v := ?v14) rfl (by kernel_rfl) (by kernel_rfl) (by kernel_rfl) (fun _ _ _ h => h) (Or.inl ⟨by rfl, ?hy14⟩) (by assumption) ?rest14
  case hy14 => (intro w hSw; (try dsimp only at hSw); go_simp; try with_reducible rfl)
  try simp only [Act.put, List.getElem_toArray, List.getElem_cons_zero, List.getElem_cons_succ, List.setIfInBounds_toArray, List.set_cons_zero, List.set_cons_succ]
  refine wpAnyH_take (i := 17) (v := ?v15) rfl (by kernel_rfl) (by kernel_rfl) (by kernel_rfl) (fun _ _ _ h => h) (Or.inl ⟨by rfl, ?hy15⟩) (by assumption) ?rest15
  case hy15 => (intro w hSw; (try dsimp only at hSw); go_simp; try with_reducible rfl)
  try simp only [Act.put, List.getElem_toArray, List.getElem_cons_zero, List.getElem_cons_succ, List.setIfInBounds_toArray, List.set_cons_zero, List.set_cons_succ]
  refine wpAnyH_take (i := 18) (v := ?v16) rfl (by kernel_rfl) (by kernel_rfl) (by kernel_rfl) (fun _ _ _ h => h) (Or.inl ⟨by rfl, ?hy16⟩) (by assumption) ?rest16
  case hy16 => (intro w hSw; refine held_convR (.tmp 41) ?_ A m cap ?_ B hSw.b <;> rfl)
  try simp only [Act.put, List.getElem_toArray, List.getElem_cons_zero, List.getElem_cons_succ, List.setIfInBounds_toArray, List.set_cons_zero, List.set_cons_succ]
  refine wpAnyH_ready (rs := [14]) (by kernel_rfl) (by simp) ?_
  refine AllReadyH.cons rfl (fun K hK => ?_) AllReadyH.nil
  go_simp
  refine (HSR.out W0 H0.run).mono ?_
  rintro e W1 ⟨g1, rfl, r1, hg1, F1, R1⟩
  have s1 := r1.rds
  rw [HTL.out] at s1
  have H1 := H0.frm0 F1
  refine hK.out _ _ (H1) (fun hHeld => ?_)
  clear hK K
  refine wpAnyH_ready (rs := [15]) (by kernel_rfl) (by simp) ?_
  refine AllReadyH.cons rfl (fun K hK => ?_) AllReadyH.nil
  go_simp
  refine (xor_run w W1 (some ⟨gx, 0, none⟩) (some ⟨g1, 0, none⟩) m m m m X T m H1.x s1 H1.run hm6 hm6 (by rw [HXX.out, HBL.out])).mono ?_
  rintro e W2 ⟨g2, rfl, r2, hg2, F2, R2⟩
  rw [HXX.out] at r2
  have s2 := r2.rds
  rw [HBL.out] at s2
  have H2 := H1.frm0 F2
  refine hK.out _ _ (H2) (fun hHeld => ?_)
  clear hK K
  have cv2 := s2.conv m
  refine wpAnyH_ready (rs := [16]) (by kernel_rfl) (by simp) ?_
  refine AllReadyH.cons rfl (fun K hK => ?_) AllReadyH.nil
  go_simp
  refine hK.out _ _ (H2) (fun hHeld => ?_)
  clear hK K
  try simp only [Act.put, List.getElem_toArray, List.getElem_cons_zero, List.getElem_cons_succ, List.setIfInBounds_toArray, List.set_cons_zero, List.set_cons_succ]
  refine wpAnyH_take (i := 19) (v := ?v17) rfl (by kernel_rfl) (by kernel_rfl) (by kernel_rfl) (fun _ _ _ h => h) (Or.inl ⟨by rfl, ?hy17⟩) (by assumption) ?rest17
  case hy17 => (intro w hSw; (try dsimp only at hSw); go_simp; try with_reducible rfl)
  try simp only [Act.put, List.getElem_toArray, List.getElem_cons_zero, List.getElem_cons_succ, List.setIfInBounds_toArray, List.set_cons_zero, List.set_cons_succ]
  refine wpAnyH_take (i := 20) (v := ?v18) rfl (by kernel_rfl) (by kernel_rfl) (by kernel_rfl) (fun _ _ _ h => h) (Or.inl ⟨by rfl, ?hy18⟩) (by assumption) ?rest18
  case hy18 => (intro w hSw; (try dsimp only at hSw); go_simp; try with_reducible rfl)
  try simp only [Act.put, List.getElem_toArray, List.getElem_cons_zero, List.getElem_cons_succ, List.setIfInBounds_toArray, List.set_cons_zero, List.set_cons_succ]
  refine wpAnyH_take (i := 21) (v := ?v19) rfl (by kernel_rfl) (by kernel_rfl) (by kernel_rfl) (fun _ _ _ h => h) (Or.inl ⟨by rfl, ?hy19⟩) (by assumption) ?rest19
  case hy19 => (intro w hSw; (try dsimp only at hSw); go_simp; try with_reducible rfl)
  try simp only [Act.put, List.getElem_toArray, List.getElem_cons_zero, List.getElem_cons_succ, List.setIfInBounds_toArray, List.set_cons_zero, List.set_cons_succ]
  refine wpAnyH_take (i := 22) (v := ?v20) rfl (by kernel_rfl) (by kernel_rfl) (by kernel_rfl) (fun _ _ _ h => h) (Or.inl ⟨by rfl, ?hy20⟩) (by assumption) ?rest20
  case hy20 => (intro w hSw; (try dsimp only at hSw); go_simp; try with_reducible rfl)
  try simp only [Act.put, List.getElem_toArray, List.getElem_cons_zero, List.getElem_cons_succ, List.setIfInBounds_toArray, List.set_cons_zero, List.set_cons_succ]
  refine wpAnyH_take (i := 23) (v := ?v21) rfl (by kernel_rfl) (by kernel_rfl) (by kernel_rfl) (fun _ _ _ h => h) (Or.inl ⟨by rfl, ?hy21⟩) (by assumption) ?rest21
  case hy21 => (intro w hSw; (try dsimp only at hSw); go_simp; try with_reducible rfl)
  try simp only [Act.put, List.getElem_toArray, List.getElem_cons_zero, List.getElem_cons_succ, List.setIfInBounds_toArray, List.set_cons_zero, List.set_cons_succ]
  refine wpAnyH_take (i := 25) (v := ?v22) rfl (by kernel_rfl) (by kernel_rfl) (by kernel_rfl) (fun _ _ _ h => h) (Or.inl ⟨by rfl, ?hy22⟩) (by assumption) ?rest22
  case hy22 => (intro w hSw; (try dsimp only at hSw); go_simp; try with_reducible rfl)
  try simp only [Act.put, List.getElem_toArray, List.getElem_cons_zero, List.getElem_cons_succ, List.setIfInBounds_toArray, List.set_cons_zero, List.set_cons_succ]
  refine wpAnyH_take (i := 28) (v := ?v23) rfl (by kernel_rfl) (by kernel_rfl) (by kernel_rfl) (fun _ _ _ h => h) (Or.inl ⟨by rfl, ?hy23⟩) (by assumption) ?rest23
  case hy23 => (intro w hSw; (try dsimp only at hSw); go_simp; try with_reducible rfl)
  try simp only [Act.put, List.getElem_toArray, List.getElem_cons_zero, List.getElem_cons_succ, List.setIfInBounds_toArray, List.set_cons_zero, List.set_cons_succ]
  refine wpAnyH_take (i := 29) (v := ?v24) rfl (by kernel_rfl) (by kernel_rfl) (by kernel_rfl) (fun _ _ _ h => h) (Or.inl ⟨by rfl, ?hy24⟩) (by assumption) ?rest24
  case hy24 => (intro w hSw; refine held_convR (.tmp 52) ?_ (some ⟨gs, 0, none⟩) m m ?_ T hSw.s <;> rfl)
  try simp only [Act.put, List.getElem_toArray, List.getElem_cons_zero, List.getElem_cons_succ, List.setIfInBounds_toArray, List.set_cons_zero, List.set_cons_succ]
  refine wpAnyH_ready (rs := [24]) (by kernel_rfl) (by simp) ?_
  refine AllReadyH.cons rfl (fun K hK => ?_) AllReadyH.nil
  refine step_make8 (by rfl) (.tmp 47) rfl .i64 m rfl hm6 ?_
  intro g3 W3 b3 hg3 F3
  have H3 := H2.frm0 F3
  refine hK.out _ _ (H3) (fun hHeld => ?_)
  clear hK K
  try simp only [Act.put, List.getElem_toArray, List.getElem_cons_zero, List.getElem_cons_succ, List.setIfInBounds_toArray, List.set_cons_zero, List.set_cons_succ]
  have s3 := b3.rds
  rw [cellsB_length, List.length_replicate] at s3
  refine wpAnyH_ready (rs := [26]) (by kernel_rfl) (by simp) ?_
  refine AllReadyH.cons rfl (fun K hK => ?_) AllReadyH.nil
  go_simp
  refine (xor_run w W3 (some ⟨g3, 0, none⟩) (some ⟨gs, 0, none⟩) m m m m (List.replicate m 0) T m s3 H3.s H3.run hm6 hm6 (by rw [HXZ.out, HTL.out])).mono ?_
  rintro e W4 ⟨g4, rfl, r4, hg4, F4, R4⟩
  rw [HXZ.out] at r4
  have s4 := r4.rds
  rw [HTL.out] at s4
  have H4 := H3.frm0 F4
  refine hK.out _ _ (H4) (fun hHeld => ?_)
  clear hK K
  have cv4 := s4.conv m
  refine wpAnyH_ready (rs := [27]) (by kernel_rfl) (by simp) ?_
  refine AllReadyH.cons rfl (fun K hK => ?_) AllReadyH.nil
  go_simp
  refine hK.out _ _ (H4) (fun hHeld => ?_)
  clear hK K
  try simp only [Act.put, List.getElem_toArray, List.getElem_cons_zero, List.getElem_cons_succ, List.setIfInBounds_toArray, List.set_cons_zero, List.set_cons_succ]
  refine wpAnyH_take (i := 30) (v := ?v25) rfl (by kernel_rfl) (by kernel_rfl) (by kernel_rfl) (fun _ _ _ h => h) (Or.inl ⟨by rfl, ?hy25⟩) (by assumption) ?rest25
  case hy25 => (intro w hSw; (try dsimp only at hSw); go_simp; try with_reducible rfl)
  try simp only [Act.put, List.getElem_toArray, List.getElem_cons_zero, List.getElem_cons_succ, List.setIfInBounds_toArray, List.set_cons_zero, List.set_cons_succ]
  refine wpAnyH_take (i := 31) (v := ?v26) rfl (by kernel_rfl) (by kernel_rfl) (by kernel_rfl) (fun _ _ _ h => h) (Or.inl ⟨by rfl, ?hy26⟩) (by assumption) ?rest26
  case hy26 => (intro w hSw; (try dsimp only at hSw); go_simp; try with_reducible rfl)
  try simp only [Act.put, List.getElem_toArray, List.getElem_cons_zero, List.getElem_cons_succ, List.setIfInBounds_toArray, List.set_cons_zero, List.set_cons_succ]
  refine wpAnyH_take (i := 32) (v := ?v27) rfl (by kernel_rfl) (by kernel_rfl) (by kernel_rfl) (fun _ _ _ h => h) (Or.inl ⟨by rfl, ?hy27⟩) (by assumption) ?rest27
  case hy27 => (intro w hSw; (try dsimp only at hSw); go_simp; try with_reducible rfl)
  try simp only [Act.put, List.getElem_toArray, List.getElem_cons_zero, List.getElem_cons_succ, List.setIfInBounds_toArray, List.set_cons_zero, List.set_cons_succ]
  refine wpAnyH_done (by kernel_rfl) ?_ _
  go_wp2
  go_ret
  exact ⟨rfl, H4.run.below⟩
end Go.Proofs.YtjdffceeinflcaaDoor
