/-
  ChachaCuts, walked.
-/
import Derived.Test.YtjdffceeinflcaaDoorCh9
namespace Go.Proofs.YtjdffceeinflcaaDoor
set_option linter.unusedVariables false
open Go.RowKit

theorem xorB_cut (a t : List UInt8) (j : Nat) (h : a.length = t.length) (hj : j ≤ a.length) : xorB (a.take j) t ++ xorB (a.drop j) (t.drop j) = xorB a t := by
  have h1 : xorB (a.take j) t = xorB (a.take j) (t.take j) := by
    conv => lhs; rw [xorB, ← List.take_append_drop j t]
    rw [show a.take j = a.take j ++ [] by simp, List.zipWith_append (by simp; omega)]
    simp [xorB]
  rw [h1, xorB, xorB, xorB, ← List.zipWith_append (by simp; omega), List.take_append_drop, List.take_append_drop]
theorem str_add (p q r : List UInt8) (h : p ++ q = r) : (⟨p.toArray⟩ ++ ⟨q.toArray⟩ : ByteArray) = ⟨r.toArray⟩ := by
  subst h
  apply ByteArray.ext
  simp

set_option maxHeartbeats 4000000 in
theorem ccuts_walk (key nonce : List UInt8) (A : Option Addr) (len cap : Nat) (l : List UInt8) (at' : Int) (w : World) (hG : Gc w) (hg0 : 2 ≤ w.heap.size) (hk : key.length = 32) (hno : nonce.length = 12) (hr : Rds w A len (cellsB l)) (hcap : len ≤ cap) (hmx : cap ≤ 9223372036854775807) :
    Calls Tryd.prog 7 #[.agg (cellsB key).toArray, .agg (cellsB nonce).toArray, .slice A len cap, .int .i64 at'] w fun e w' => e = .returned (.bool true) ∧ Below w.heap.size w w' := by
  obtain ⟨hbx, hrun⟩ := boxed_start w key nonce hG hg0
  obtain ⟨m, HM, ml, mr, me⟩ := nat_min len 500
  have HRB := hide (hr.take m ml)
  rw [cellsB_take] at HRB
  have HBL : Hid ((l.take m).length = m) := by have := HRB.out.1; rwa [cellsB_length] at this
  generalize l.take m = B at *
  obtain ⟨x, hx, _⟩ := mask_nat at'
  obtain ⟨j, hj, hjm⟩ := mod_nat x (m + 1) (by omega)
  have hj' : Int.tmod (x : Int) ((m : Int) + 1) = (j : Int) := by rw [← hj]; rfl
  have hjm' : j ≤ m := by omega
  have hcut := fun w => run_cut0 A len cap m (by omega) w
  have hcut2 := fun w => run_cut0 A m cap j (by omega) w
  have HKL : Hid ((cellsB key).length = 32) := by show _ = _; rw [cellsB_length, hk]
  have HNL : Hid ((cellsB nonce).length = 12) := by show _ = _; rw [cellsB_length, hno]
  have HSR := hide (fun w' (hR : CRun w w') => stream_run w w' key nonce m hR hk hno (by omega))
  have HTL : Hid ((streamL key nonce m).length = m) := streamL_length _ _ _
  obtain ⟨T, hT⟩ : ∃ T, T = streamL key nonce m := ⟨_, rfl⟩
  rw [← hT] at HSR HTL
  have HBX := hide hbx
  have HRUN := hide hrun
  have HX1 : Hid ((xorB B T).length = m) := by show _ = _; rw [xorB_length, HBL.out, HTL.out, Nat.min_self]
  have HX2 : Hid ((xorB (B.take j) T).length = j) := by show _ = _; rw [xorB_length, List.length_take, HBL.out, HTL.out]; omega
  have HX3 : Hid ((xorB (B.drop j) (T.drop j)).length = m - j) := by show _ = _; rw [xorB_length, List.length_drop, List.length_drop, HBL.out, HTL.out, Nat.min_self]
  have HADD : Hid ((⟨(xorB (B.take j) T).toArray⟩ ++ ⟨(xorB (B.drop j) (T.drop j)).toArray⟩ : ByteArray) = ⟨(xorB B T).toArray⟩) := str_add _ _ _ (xorB_cut B T j (by rw [HBL.out, HTL.out]) (by rw [HBL.out]; exact hjm'))
  have HR2 : Hid (Rds w A j (cellsB (B.take j))) := by have := HRB.out.take j hjm'; rwa [cellsB_take] at this
  obtain ⟨A3, hA3⟩ : ∃ A3, A3 = if cap = j then A else A.map (·.add j) := ⟨_, rfl⟩
  have HR3 : Hid (Rds w A3 (m - j) (cellsB (B.drop j))) := by have := HRB.out.cut cap j hjm' (by omega); rw [cellsB_drop] at this; rw [hA3]; exact this
  have hcut3 : ∀ w, _ := fun w => run_cut1 A m cap j hjm' w
  rw [← hA3] at hcut3
  have hwm : IntKind.i64.wrap ((m : Int) + 1) = (m : Int) + 1 := IntWalk.i64_in _ (by omega)
  clear hbx hrun hj hk hno hT hG hr hA3 me
  go_enter Tryd.func7, Tryd.ntmps7
  go_wp2_with fail
  refine (cshown_run w _ HRUN.out).mono ?_
  rintro e w1 ⟨rfl, hF1, hR1⟩
  have hb1 := HBX.out.frm0 hF1
  obtain ⟨gn, hgn⟩ : ∃ gn, gn = w.heap.size + 1 := ⟨_, rfl⟩
  rw [← hgn] at hb1 ⊢
  obtain ⟨gk, hgk⟩ : ∃ gk, gk = w.heap.size := ⟨_, rfl⟩
  rw [← hgk] at hb1 ⊢
  clear hgk hgn HBX HRUN hF1
  have hbk := hb1.key
  have hbn := hb1.nonce
  go_wp2_with (first
    | (with_reducible refine wpl_min (op := ⟨some 18, _, _, _, _, _⟩) rfl _ _ _ _ rfl _ _ _ (m : Int) rfl rfl HM.out ?_)
    | (with_reducible refine wpl_loadg (op := ⟨some 26, _, _, _, _, _⟩) aggK _ rfl gk rfl _ _ hbk HKL.out rfl ?_)
    | (with_reducible refine wpl_loadg (op := ⟨some 27, _, _, _, _, _⟩) agg12 _ rfl gn rfl _ _ hbn HNL.out rfl ?_))
  refine (HSR.out w1 hR1).mono ?_
  rintro e w2 ⟨g, rfl, hrow, hge, hF2, hR2⟩
  clear hb1 hbk hbn HSR hF2 hR1 hcut HM
  have hrs := hrow.rds
  rw [HTL.out] at hrs
  have HRS := hide hrs
  have HROW := hide hrow
  have HR2' := hide hR2
  clear hrs hrow hR2
  go_wp2_with fail
  refine (xor_run w w2 A (some ⟨g, 0, none⟩) m m cap m B T m (HRB.out.below HR2'.out.below) HRS.out HR2'.out (by omega) (by omega) HX1.out).mono ?_
  rintro e w3 ⟨g1, rfl, hrow1, hge1, hF3, hR3⟩
  go_wp2_with fail
  refine (xor_run w w3 A (some ⟨g, 0, none⟩) j m cap m (B.take j) T j (HR2.out.below hR3.below) (HRS.out.frm hF3 (fun _ _ _ h => h)) hR3 (by omega) (by omega) HX2.out).mono ?_
  rintro e w4 ⟨g2, rfl, hrow2, hge2, hF4, hR4⟩
  have hF34 := hF3.trans hF4 (fun _ _ h => h)
  have hFD : Frm (fun _ => False) w4 w4.drew := (Frm.refl _ _).drew
  have hR4d := hR4.frm0 hFD
  obtain ⟨A4, hA4⟩ : ∃ A4, A4 = if m = j then some (⟨g, 0, none⟩ : Addr) else (some (⟨g, 0, none⟩ : Addr)).map (·.add j) := ⟨_, rfl⟩
  have hcut4 : ∀ w, _ := fun w => run_cut1 (some ⟨g, 0, none⟩) m m j hjm' w
  rw [← hA4] at hcut4
  have HR4 : Hid (Rds w4.drew A4 (m - j) (cellsB (T.drop j))) := by
    have := ((HRS.out.frm hF34 (fun _ _ _ h => h)).frm hFD (fun _ _ _ h => h)).cut m j hjm' (Nat.le_refl _)
    rw [cellsB_drop] at this
    rw [hA4]
    exact this
  have hr1 := (hrow1.frm0 hF4).frm0 hFD
  have hr2 := hrow2.frm0 hFD
  have H1 := hide hr1
  have H2 := hide hr2
  have HRD := hide hR4d
  obtain ⟨mj, hmj⟩ : ∃ mj, mj = m - j := ⟨_, rfl⟩
  rw [← hmj] at HX3 HR3 HR4 hcut3 hcut4
  obtain ⟨cj, hcj⟩ : ∃ cj, cj = cap - j := ⟨_, rfl⟩
  rw [← hcj] at hcut3
  have hmj5 : mj ≤ 1000000 := by omega
  have hmjj : j + mj ≤ 1000 := by omega
  clear hr1 hr2 hR4d hrow1 hrow2 hF3 hF4 hF34 hFD hA4 hmj hcj hR3 hR4 hcut2
  go_wp2_with fail
  go_still_tail 6, (by kernel_rfl)
  change wpList _ _ _ _ _ w4.drew
  go_wp2_with fail
  refine (xor_run w w4.drew A3 A4 mj mj cj mj (B.drop j) (T.drop j) mj (HR3.out.below HRD.out.below) HR4.out HRD.out hmj5 hmj5 HX3.out).mono ?_
  rintro e w5 ⟨g3, rfl, hrow3, hge3, hF5, hR5⟩
  have c1 := (H1.out.frm0 hF5).rds.conv m
  rw [HX1.out] at c1
  have c2 := (H2.out.frm0 hF5).rds.conv j
  rw [HX2.out] at c2
  have c3 := hrow3.rds.conv mj
  rw [HX3.out] at c3
  have hadd := HADD.out
  have hsz : (⟨(xorB (B.take j) T).toArray⟩ : ByteArray).size + (⟨(xorB (B.drop j) (T.drop j)).toArray⟩ : ByteArray).size ≤ 1000 := by
    show (xorB (B.take j) T).toArray.size + (xorB (B.drop j) (T.drop j)).toArray.size ≤ 1000
    rw [List.size_toArray, List.size_toArray, HX2.out, HX3.out]
    omega
  have HB := hide hR5.below
  clear H1 H2 hrow3 hF5 hR5 HRD HR3 HR4 HADD HX1 HX2 HX3 HRS HROW hcut3 hcut4
  generalize (⟨(xorB B T).toArray⟩ : ByteArray) = s1 at *
  generalize (⟨(xorB (B.take j) T).toArray⟩ : ByteArray) = s2 at *
  generalize (⟨(xorB (B.drop j) (T.drop j)).toArray⟩ : ByteArray) = s3 at *
  go_wp2_with fail
  go_ret
  exact ⟨rfl, HB.out⟩
end Go.Proofs.YtjdffceeinflcaaDoor
