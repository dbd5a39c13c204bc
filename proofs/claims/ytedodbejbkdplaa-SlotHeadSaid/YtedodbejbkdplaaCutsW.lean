/-
  SlotCuts: the walk.
-/
import Derived.Test.YtedodbejbkdplaaTimesW
namespace Go.Proofs.Ytedodbejbkdplaa
set_option linter.unusedVariables false
set_option linter.unusedSimpArgs false
open Go.RowKit

theorem up_pkt {p : Pkt} (h : p.ok) : upM (packM p) = p ∧ errU (packM p) = 0 := by
  have hl := packM_length h
  refine ⟨by unfold upM; rw [if_pos hl, unpack_pack h], by unfold errU; rw [if_neg (by omega), if_neg (by omega)]⟩
theorem up_short {b : List UInt8} (h : b.length < 614) : upM b = pkt0 ∧ errU b = 2 := ⟨by unfold upM; rw [if_neg (by omega)], by unfold errU; rw [if_pos h]⟩
theorem up_long {b : List UInt8} (h : 614 < b.length) : upM b = pkt0 ∧ errU b = 3 := ⟨by unfold upM; rw [if_neg (by omega)], by unfold errU; rw [if_neg (by omega), if_pos h]⟩
theorem own_rdsB {w : World} {B n c : Nat} {A : Option Addr} {xs : List Value} (h : w.ownsRow B 5 1 (.slice A n c) n xs) : Rds w A n xs ∧ n ≤ c := by
  have hl := h.1
  rw [Nat.mul_one] at hl
  have h2 := Seg.of_own h
  subst hl
  refine ⟨h2.rds, ?_⟩
  rcases h.2 with ⟨hv, h0⟩ | ⟨g', cap, cur, hv, _, hg, h1, _⟩
  · rw [h0]; exact Nat.zero_le _
  · injection hv with _ _ h3
    omega
/-- A row made just now that grew: nothing that lay turned. -/
theorem made_below {W W1 : World} {o : Obj} {v : Value} (hv : v.ownBlock = none ∨ v.ownBlock = some W.heap.size) (hg : (W.alloc o).grownBy W1 v.ownBlock) : Below W.heap.size W W1 :=
  ((Below.refl _ _).alloc (Nat.le_refl _) _).trans ((Frm.of_grown hg).below (by simp) (fun k hk => by rcases hv with h | h <;> rw [h] at hk <;> simp at hk; omega))
theorem At.lts {w W : World} {l : List (Nat × TypeId × List Value)} (h : At w l W) : ∀ x ∈ l, x.1 < W.heap.size := fun x hx => (h.has x hx).lt
theorem At.wle {w W : World} {l : List (Nat × TypeId × List Value)} (h : At w l W) : w.heap.size ≤ W.heap.size := h.bel.size
theorem At.grown {w W W1 : World} {l : List (Nat × TypeId × List Value)} {B : Nat} (h : At w l W) (hlt : ∀ x ∈ l, x.1 < B) (hB : w.heap.size ≤ B) (f : Frm (fun k => B ≤ k) W W1) : At w l W1 :=
  ⟨fun x hx => (h.has x hx).frm f (fun e => by have := hlt x hx; omega), h.low, h.nd, below_frm h.bel f h.bel.size (fun k hk => by omega)⟩
theorem grown_below {W W1 W2 : World} {B : Nat} {v : Value} (h : Below B W W1) (hB : B ≤ W1.heap.size) (hv : ∀ k, v.ownBlock = some k → B ≤ k) (hg : W1.grownBy W2 v.ownBlock) : Below B W W2 :=
  h.trans ((Frm.of_grown hg).below hB (fun k hk => hv k hk.symm))

set_option maxHeartbeats 16000000 in
set_option maxRecDepth 100000 in
theorem cuts_walk (w : World) (p : Pkt) (hp : p.ok) (a : Int) (hab : -9223372036854775808 ≤ a ∧ a ≤ 9223372036854775807) (A : Option Addr) (n c : Nat) (L : List UInt8) (hr : Rds w A n (cellsB L)) (hnc : n ≤ c) (hc : c ≤ 9223372036854775807) : Calls Try.prog 9 #[.agg (pktC p).toArray, .int .i64 a, .slice A n c] w fun e w' => e = .returned (.bool true) ∧ Below w.heap.size w w' := by
  have hsh := hide shown_any
  obtain ⟨m, HM, ml, mr, me⟩ := nat_min n 20
  clear me
  replace HM : Hid ((m : Int) = if (20 : Int) < (n : Int) then (20 : Int) else (n : Int)) := HM
  have hrm := hr.take m ml
  rw [cellsB_take] at hrm
  obtain ⟨M, hM⟩ : ∃ x, x = L.take m := ⟨_, rfl⟩
  rw [← hM] at hrm
  have HRM := hide hrm
  have hMl : M.length = m := by have := hrm.1; rwa [cellsB_length] at this
  have hmc : Hid (m ≤ c) := Nat.le_trans ml hnc
  have hm20 : Hid (m ≤ 20) := mr
  obtain ⟨k, hk0⟩ : ∃ k : Nat, a % 65536 % 614 = (k : Int) := ⟨(a % 65536 % 614).toNat, by omega⟩
  have hk6 : Hid (k < 614) := by show _ < _; omega
  have hk := hide hk0
  have hmask := mask16 a
  have hP := hide (pack_any p hp)
  have hpl0 := hide (packM_length hp)
  obtain ⟨PK, hPK⟩ : ∃ l, l = packM p := ⟨_, rfl⟩
  rw [← hPK] at hP hpl0
  have hpl : Hid ((cellsB PK).length = 614) := by show _ = _; rw [cellsB_length]; exact hpl0.out
  have hu1 : Hid (∀ W, Rds W (some ⟨0, 0, none⟩) 0 [] → True) := fun _ _ => trivial
  clear hu1
  have hu1 : Hid (∀ W {gp : Nat}, Rds W (some ⟨gp, 0, none⟩) 614 (cellsB PK) → ∀ cp, Calls Try.prog 20 #[.slice (some ⟨gp, 0, none⟩) k cp] W fun e w' => e = .returned (.tuple #[.agg (pktC pkt0).toArray, .int .i64 2]) ∧ Below W.heap.size W w') := fun W gp h cp => by
    have h2 := h.take k (by have := hk6.out; omega)
    rw [cellsB_take] at h2
    have hs := up_short (b := PK.take k) (by rw [List.length_take]; have := hk6.out; omega)
    have := unpack_any _ k cp _ W h2 (by have := hk6.out; omega)
    rw [hs.1, hs.2] at this
    exact this
  have hCC : Hid (∀ w, (Op.equalIn 10000 50 (.agg (pktC p).toArray) (.agg (pktC p).toArray)).run Try.prog w = .ok true w) := fun w => by
    have h := eq_pkt hp hp w
    rw [show pktEq p p = true from pktEq_iff.2 rfl] at h
    exact h
  have hZZ : Hid (∀ w, (Op.equalIn 10000 50 (.agg (pktC pkt0).toArray) (.agg (pktC pkt0).toArray)).run Try.prog w = .ok true w) := fun w => by
    have h := eq_pkt pkt0_ok pkt0_ok w
    rw [show pktEq pkt0 pkt0 = true from pktEq_iff.2 rfl] at h
    exact h
  have h610 := hide (pktC_length hp)
  have hCo := hide (pktC_one p)
  have h610z := hide (pktC_length pkt0_ok)
  have hZo := hide (pktC_one pkt0)
  have hbd := hide build_pkt0
  have hU : Hid (∀ W A c, Rds W A (614 + m) (cellsB (PK ++ M)) → Calls Try.prog 20 #[.slice A (614 + m) c] W fun e w' => e = .returned (.tuple #[.agg (pktC (upM (PK ++ M))).toArray, .int .i64 (errU (PK ++ M))]) ∧ Below W.heap.size W w') := fun W A c h => unpack_any A (614 + m) c _ W h (by have := hm20.out; omega)
  have hback := hide (up_pkt hp)
  rw [← hPK] at hback
  clear hr hrm hM hnc hc hab
  by_cases hm0 : m = 0
  · have hMe : M = [] := List.eq_nil_of_length_eq_zero (by rw [hMl, hm0])
    have hu2 : Hid (∀ W A, Rds W A (614 + m) (cellsB (PK ++ M)) → ∀ c, Calls Try.prog 20 #[.slice A (614 + m) c] W fun e w' => e = .returned (.tuple #[.agg (pktC p).toArray, .int .i64 0]) ∧ Below W.heap.size W w') := fun W A h c => by
      have k := hU.out W A c h
      rw [hMe, List.append_nil, hback.out.1, hback.out.2] at k
      exact k
    have hP2o := hCo
    have h610p := h610
    have hd : decide (0 < m) = false := decide_eq_false (by omega)
    have hd2 : ¬ (0 : Int) < (m : Int) := by omega
    clear hm0 hMe hMl hback hU hPK hp hk0 ml mr
    generalize pktC p = C at *
    generalize pktC pkt0 = Z at *
    have H := hide (At.start w)
    go_enter Try.func9, Try.ntmps9
    go_wp2_with (first
      | (with_reducible refine at_op (op := ⟨some 3, _, _, _, _, _⟩) ?_; (refine wpl_boxa (op := ⟨some 3, _, _, _, _, _⟩) rfl _ _ rfl (C) rfl ?_); intro g3 W1 hB1 hg1 hF1; replace H := hide (H.out.box hg1 hF1 hB1); clear hB1 hg1 hF1)
      | (go_at_call 12; with_reducible refine (hsh.out _).mono ?_; rintro e Wc ⟨rfl, hbc⟩; replace H := hide (H.out.call hbc); clear hbc)
      | (with_reducible refine at_op (op := ⟨some 14, _, _, _, _, _⟩) ?_; refine wpl_held (op := ⟨some 14, _, _, _, _, _⟩) (.agg (C).toArray) (held_loadf aggP _ rfl g3 rfl _ (C) (H.out.get 0 rfl) h610.out) rfl ?_)
      | (go_at_call 19; (with_reducible refine (hP.out _).mono ?_); rintro e Wc ⟨Ap, cp, rfl, hop, hbc⟩; rw [hpl.out] at hop ⊢; obtain ⟨gp, curp, rfl, hgp, hbp, hsp, htp, hcp⟩ := own_block hop (by decide); rw [← Array.toArray_toList (xs := curp)] at hbp; replace H := hide (H.out.box hgp (Frm.of_below hbc) hbp); have HTP := hide htp; have HCP := hide hcp; clear hbc hop hgp hbp htp hcp hsp)
      | (with_reducible refine at_op (op := ⟨some 26, _, _, _, _, _⟩) ?_; rw [hk.out])
      | (with_reducible refine at_op (op := ⟨some 26, _, _, _, _, _⟩) ?_; refine wpl_held (op := ⟨some 26, _, _, _, _, _⟩) (.slice (some ⟨gp, 0, none⟩) k cp) (held_cut0 _ _ rfl _ 614 cp k rfl rfl (by have := HCP.out; have := hk6.out; omega)) rfl ?_)
      | (go_at_call 20; with_reducible refine (hu1.out _ ((H.out.get 1 rfl).mid 0 614 PK (by rw [List.drop_zero]; exact HTP.out) hpl0.out) cp).mono ?_; rintro e Wc ⟨rfl, hbc⟩; replace H := hide (H.out.call hbc); clear hbc)
      | ((with_reducible refine wpl_alloca (op := ⟨some 9, _, _, _, _, _⟩) rfl _ rfl _ zeroP ?_); intro g9 W1 hB1 hg1 hF1)
      | ((with_reducible refine wpl_storea aggP rfl (.tmp 9) (.tmp 28) rfl g9 (Z) rfl rfl _ _ hB1 h610z.out pkt0_len (hZo.out) ?_); intro W2 hB2 hF2; replace H := hide (H.out.var hg1 hF1 hF2 hB2); clear hB1 hg1 hF1 hB2 hF2)
      | (with_reducible refine at_op (op := ⟨some 33, _, _, _, _, _⟩) ?_; refine wpl_held (op := ⟨some 33, _, _, _, _, _⟩) (.int .i64 (m : Int)) (held_min _ _ _ _ rfl (n : Int) 20 _ rfl rfl HM.out) rfl ?_)
      | (with_reducible refine at_op (op := ⟨some 34, _, _, _, _, _⟩) ?_; refine wpl_held (op := ⟨some 34, _, _, _, _, _⟩) (.slice A m c) (held_cut0 _ _ rfl A n c m rfl rfl hmc.out) rfl ?_)
      | (with_reducible refine at_op (op := ⟨some 38, _, _, _, _, _⟩) ?_; refine wpl_app (op := ⟨some 38, _, _, _, _, _⟩) one_u8 rfl (.tmp 36) (.tmp 37) rfl _ _ _ 0 [] rfl (World.ownsRow_made _ #[] 0 (Nat.le_refl _) (by simp [maxLen]) (by simp)) (some ⟨gp, 0, none⟩) 614 cp (cellsB PK) rfl (((H.out.get 1 rfl).mid 0 614 PK (by rw [List.drop_zero]; exact HTP.out) hpl0.out).below ((Below.refl _ _).alloc (Nat.le_refl _) _)) (cellsB_one _) (by decide) (by decide) (by simp) ?_; intro A1 c1 Wa ho1 hg1 hat1; have hb1 := made_below (.inr rfl) hg1; have HLT := hide H.out.lts; have HWB := hide H.out.wle; have HBS := hide hb1.size; replace H := hide (H.out.call hb1); rw [List.nil_append, Nat.zero_add] at ho1; have HV1 := hide (fun k hk => (ho1.lt k hk).1); have HO1 := hide ho1; clear ho1 hg1 hat1 hb1)
      | (with_reducible refine at_op (op := ⟨some 40, _, _, _, _, _⟩) ?_; refine wpl_app (op := ⟨some 40, _, _, _, _, _⟩) one_u8 rfl (.tmp 38) (.tmp 39) rfl _ _ (.slice A1 614 c1) 614 (cellsB PK) rfl HO1.out A m c (cellsB M) rfl (HRM.out.below H.out.bel) (cellsB_one _) (by have := hm20.out; omega) (by have := hm20.out; omega) HBS.out ?_; intro A2 c2 Wb ho2 hg2 hat2; replace H := hide (H.out.grown HLT.out HWB.out ((Frm.of_grown hg2).mono (fun i _ h => HV1.out i h.symm))); have hr2 := (own_rdsB ho2).1; rw [← cellsB_append] at hr2; have HR2 := hide hr2; clear ho2 hg2 hat2 hr2)
      | (go_at_call 20; with_reducible refine (hu2.out _ _ HR2.out c2).mono ?_; rintro e Wc ⟨rfl, hbc⟩; replace H := hide (H.out.call hbc); clear hbc)
      | ((with_reducible refine wpl_alloca (op := ⟨some 11, _, _, _, _, _⟩) rfl _ rfl _ zeroP ?_); intro g11 W1 hB1 hg1 hF1)
      | ((with_reducible refine wpl_storea aggP rfl (.tmp 11) (.tmp 42) rfl g11 (C) rfl rfl _ _ hB1 h610p.out pkt0_len (hP2o.out) ?_); intro W2 hB2 hF2; replace H := hide (H.out.var hg1 hF1 hF2 hB2); clear hB1 hg1 hF1 hB2 hF2)
      | (with_reducible refine at_op (op := ⟨some 47, _, _, _, _, _⟩) ?_; refine wpl_held (op := ⟨some 47, _, _, _, _, _⟩) (.agg (Z).toArray) (held_loadf aggP _ rfl g9 rfl _ (Z) (H.out.get 2 rfl) h610z.out) rfl ?_)
      | (with_reducible refine at_op (op := ⟨some 48, _, _, _, _, _⟩) ?_; refine wpl_held (op := ⟨some 48, _, _, _, _, _⟩) (.agg (Z).toArray) (held_build _ _ rfl _ _ (hbd.out _) rfl) rfl ?_)
      | (with_reducible refine at_op (op := ⟨some 49, _, _, _, _, _⟩) ?_; refine wpl_held (op := ⟨some 49, _, _, _, _, _⟩) (.bool (!true)) (held_neq _ _ _ _ rfl (Z) (Z) rfl rfl (true) (hZZ.out _) Try.eqGuardType50) rfl ?_)
      | (with_reducible refine at_op (op := ⟨some 70, _, _, _, _, _⟩) ?_; refine wpl_held (op := ⟨some 70, _, _, _, _, _⟩) (.agg (C).toArray) (held_loadf aggP _ rfl g11 rfl _ (C) (H.out.get 3 rfl) h610p.out) rfl ?_)
      | (with_reducible refine at_op (op := ⟨some 71, _, _, _, _, _⟩) ?_; refine wpl_held (op := ⟨some 71, _, _, _, _, _⟩) (.agg (C).toArray) (held_loadf aggP _ rfl g3 rfl _ (C) (H.out.get 0 rfl) h610.out) rfl ?_)
      | (with_reducible refine at_op (op := ⟨some 72, _, _, _, _, _⟩) ?_; refine wpl_held (op := ⟨some 72, _, _, _, _, _⟩) (.bool true) (held_eql _ _ _ _ rfl (C) (C) rfl rfl (true) (hCC.out _) Try.eqGuardType50) rfl ?_))
    go_ret
    exact ⟨rfl, H.out.bel⟩
  · have hu2 : Hid (∀ W A, Rds W A (614 + m) (cellsB (PK ++ M)) → ∀ c, Calls Try.prog 20 #[.slice A (614 + m) c] W fun e w' => e = .returned (.tuple #[.agg (pktC pkt0).toArray, .int .i64 3]) ∧ Below W.heap.size W w') := fun W A h c => by
      have k := hU.out W A c h
      have hl := up_long (b := PK ++ M) (by rw [List.length_append, hpl0.out, hMl]; omega)
      rw [hl.1, hl.2] at k
      exact k
    have hP2o := hZo
    have h610p := h610z
    have hd : decide (0 < m) = true := decide_eq_true (by omega)
    have hd2 : (0 : Int) < (m : Int) := by omega
    clear hm0 hMl hback hU hPK hp hk0 ml mr
    generalize pktC p = C at *
    generalize pktC pkt0 = Z at *
    have H := hide (At.start w)
    go_enter Try.func9, Try.ntmps9
    go_wp2_with (first
      | (with_reducible refine at_op (op := ⟨some 3, _, _, _, _, _⟩) ?_; (refine wpl_boxa (op := ⟨some 3, _, _, _, _, _⟩) rfl _ _ rfl (C) rfl ?_); intro g3 W1 hB1 hg1 hF1; replace H := hide (H.out.box hg1 hF1 hB1); clear hB1 hg1 hF1)
      | (go_at_call 12; with_reducible refine (hsh.out _).mono ?_; rintro e Wc ⟨rfl, hbc⟩; replace H := hide (H.out.call hbc); clear hbc)
      | (with_reducible refine at_op (op := ⟨some 14, _, _, _, _, _⟩) ?_; refine wpl_held (op := ⟨some 14, _, _, _, _, _⟩) (.agg (C).toArray) (held_loadf aggP _ rfl g3 rfl _ (C) (H.out.get 0 rfl) h610.out) rfl ?_)
      | (go_at_call 19; (with_reducible refine (hP.out _).mono ?_); rintro e Wc ⟨Ap, cp, rfl, hop, hbc⟩; rw [hpl.out] at hop ⊢; obtain ⟨gp, curp, rfl, hgp, hbp, hsp, htp, hcp⟩ := own_block hop (by decide); rw [← Array.toArray_toList (xs := curp)] at hbp; replace H := hide (H.out.box hgp (Frm.of_below hbc) hbp); have HTP := hide htp; have HCP := hide hcp; clear hbc hop hgp hbp htp hcp hsp)
      | (with_reducible refine at_op (op := ⟨some 26, _, _, _, _, _⟩) ?_; rw [hk.out])
      | (with_reducible refine at_op (op := ⟨some 26, _, _, _, _, _⟩) ?_; refine wpl_held (op := ⟨some 26, _, _, _, _, _⟩) (.slice (some ⟨gp, 0, none⟩) k cp) (held_cut0 _ _ rfl _ 614 cp k rfl rfl (by have := HCP.out; have := hk6.out; omega)) rfl ?_)
      | (go_at_call 20; with_reducible refine (hu1.out _ ((H.out.get 1 rfl).mid 0 614 PK (by rw [List.drop_zero]; exact HTP.out) hpl0.out) cp).mono ?_; rintro e Wc ⟨rfl, hbc⟩; replace H := hide (H.out.call hbc); clear hbc)
      | ((with_reducible refine wpl_alloca (op := ⟨some 9, _, _, _, _, _⟩) rfl _ rfl _ zeroP ?_); intro g9 W1 hB1 hg1 hF1)
      | ((with_reducible refine wpl_storea aggP rfl (.tmp 9) (.tmp 28) rfl g9 (Z) rfl rfl _ _ hB1 h610z.out pkt0_len (hZo.out) ?_); intro W2 hB2 hF2; replace H := hide (H.out.var hg1 hF1 hF2 hB2); clear hB1 hg1 hF1 hB2 hF2)
      | (with_reducible refine at_op (op := ⟨some 33, _, _, _, _, _⟩) ?_; refine wpl_held (op := ⟨some 33, _, _, _, _, _⟩) (.int .i64 (m : Int)) (held_min _ _ _ _ rfl (n : Int) 20 _ rfl rfl HM.out) rfl ?_)
      | (with_reducible refine at_op (op := ⟨some 34, _, _, _, _, _⟩) ?_; refine wpl_held (op := ⟨some 34, _, _, _, _, _⟩) (.slice A m c) (held_cut0 _ _ rfl A n c m rfl rfl hmc.out) rfl ?_)
      | (with_reducible refine at_op (op := ⟨some 38, _, _, _, _, _⟩) ?_; refine wpl_app (op := ⟨some 38, _, _, _, _, _⟩) one_u8 rfl (.tmp 36) (.tmp 37) rfl _ _ _ 0 [] rfl (World.ownsRow_made _ #[] 0 (Nat.le_refl _) (by simp [maxLen]) (by simp)) (some ⟨gp, 0, none⟩) 614 cp (cellsB PK) rfl (((H.out.get 1 rfl).mid 0 614 PK (by rw [List.drop_zero]; exact HTP.out) hpl0.out).below ((Below.refl _ _).alloc (Nat.le_refl _) _)) (cellsB_one _) (by decide) (by decide) (by simp) ?_; intro A1 c1 Wa ho1 hg1 hat1; have hb1 := made_below (.inr rfl) hg1; have HLT := hide H.out.lts; have HWB := hide H.out.wle; have HBS := hide hb1.size; replace H := hide (H.out.call hb1); rw [List.nil_append, Nat.zero_add] at ho1; have HV1 := hide (fun k hk => (ho1.lt k hk).1); have HO1 := hide ho1; clear ho1 hg1 hat1 hb1)
      | (with_reducible refine at_op (op := ⟨some 40, _, _, _, _, _⟩) ?_; refine wpl_app (op := ⟨some 40, _, _, _, _, _⟩) one_u8 rfl (.tmp 38) (.tmp 39) rfl _ _ (.slice A1 614 c1) 614 (cellsB PK) rfl HO1.out A m c (cellsB M) rfl (HRM.out.below H.out.bel) (cellsB_one _) (by have := hm20.out; omega) (by have := hm20.out; omega) HBS.out ?_; intro A2 c2 Wb ho2 hg2 hat2; replace H := hide (H.out.grown HLT.out HWB.out ((Frm.of_grown hg2).mono (fun i _ h => HV1.out i h.symm))); have hr2 := (own_rdsB ho2).1; rw [← cellsB_append] at hr2; have HR2 := hide hr2; clear ho2 hg2 hat2 hr2)
      | (go_at_call 20; with_reducible refine (hu2.out _ _ HR2.out c2).mono ?_; rintro e Wc ⟨rfl, hbc⟩; replace H := hide (H.out.call hbc); clear hbc)
      | ((with_reducible refine wpl_alloca (op := ⟨some 11, _, _, _, _, _⟩) rfl _ rfl _ zeroP ?_); intro g11 W1 hB1 hg1 hF1)
      | ((with_reducible refine wpl_storea aggP rfl (.tmp 11) (.tmp 42) rfl g11 (Z) rfl rfl _ _ hB1 h610p.out pkt0_len (hP2o.out) ?_); intro W2 hB2 hF2; replace H := hide (H.out.var hg1 hF1 hF2 hB2); clear hB1 hg1 hF1 hB2 hF2)
      | (with_reducible refine at_op (op := ⟨some 47, _, _, _, _, _⟩) ?_; refine wpl_held (op := ⟨some 47, _, _, _, _, _⟩) (.agg (Z).toArray) (held_loadf aggP _ rfl g9 rfl _ (Z) (H.out.get 2 rfl) h610z.out) rfl ?_)
      | (with_reducible refine at_op (op := ⟨some 48, _, _, _, _, _⟩) ?_; refine wpl_held (op := ⟨some 48, _, _, _, _, _⟩) (.agg (Z).toArray) (held_build _ _ rfl _ _ (hbd.out _) rfl) rfl ?_)
      | (with_reducible refine at_op (op := ⟨some 49, _, _, _, _, _⟩) ?_; refine wpl_held (op := ⟨some 49, _, _, _, _, _⟩) (.bool (!true)) (held_neq _ _ _ _ rfl (Z) (Z) rfl rfl (true) (hZZ.out _) Try.eqGuardType50) rfl ?_)
      | (with_reducible refine at_op (op := ⟨some 60, _, _, _, _, _⟩) ?_; refine wpl_held (op := ⟨some 60, _, _, _, _, _⟩) (.agg (Z).toArray) (held_loadf aggP _ rfl g11 rfl _ (Z) (H.out.get 3 rfl) h610p.out) rfl ?_)
      | (with_reducible refine at_op (op := ⟨some 61, _, _, _, _, _⟩) ?_; refine wpl_held (op := ⟨some 61, _, _, _, _, _⟩) (.agg (Z).toArray) (held_build _ _ rfl _ _ (hbd.out _) rfl) rfl ?_)
      | (with_reducible refine at_op (op := ⟨some 62, _, _, _, _, _⟩) ?_; refine wpl_held (op := ⟨some 62, _, _, _, _, _⟩) (.bool true) (held_eql _ _ _ _ rfl (Z) (Z) rfl rfl (true) (hZZ.out _) Try.eqGuardType50) rfl ?_))
    go_ret
    exact ⟨rfl, H.out.bel⟩
end Go.Proofs.Ytedodbejbkdplaa
