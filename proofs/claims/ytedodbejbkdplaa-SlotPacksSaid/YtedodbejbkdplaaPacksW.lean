/-
  SlotPacks: the walk.
-/
import Derived.Test.YtedodbejbkdplaaCutsW
namespace Go.Proofs.Ytedodbejbkdplaa
set_option linter.unusedVariables false
set_option linter.unusedSimpArgs false
open Go.RowKit

theorem rds_none {W : World} {A : Option Addr} {m : Nat} {l : List UInt8} (hm : m = 0) (hl : l = []) : Rds W A m (cellsB l) := by
  subst hm
  subst hl
  exact ⟨rfl, fun h => absurd h (Nat.lt_irrefl 0)⟩

set_option maxHeartbeats 16000000 in
set_option maxRecDepth 100000 in
theorem packs_walk (w : World) (p : Pkt) (hp : p.ok) (A : Option Addr) (n c : Nat) (L : List UInt8) (hr : Rds w A n (cellsB L)) (hnc : n ≤ c) (hc : c ≤ 9223372036854775807) : Calls Try.prog 5 #[.agg (pktC p).toArray, .slice A n c] w fun e w' => e = .returned (.bool true) ∧ Below w.heap.size w w' := by
  have hsh := hide shown_any
  obtain ⟨m, HM, ml, mr, me⟩ := nat_min n 700
  clear me
  replace HM : Hid ((m : Int) = if (700 : Int) < (n : Int) then (700 : Int) else (n : Int)) := HM
  have hrm := hr.take m ml
  rw [cellsB_take] at hrm
  obtain ⟨Bl, hBe⟩ : ∃ x, x = L.take m := ⟨_, rfl⟩
  rw [← hBe] at hrm
  have HRB := hide hrm
  have hBl0 : Bl.length = m := by have := hrm.1; rwa [cellsB_length] at this
  have hBl := hide hBl0
  have hmc : Hid (m ≤ c) := Nat.le_trans ml hnc
  have hm7 : Hid (m ≤ 700) := mr
  have hP := hide (pack_any p hp)
  have hpr := hide (packref_any p hp)
  have hpl0 := hide (packM_length hp)
  obtain ⟨PK, hPK⟩ : ∃ l, l = packM p := ⟨_, rfl⟩
  have hback := up_pkt hp
  rw [← hPK] at hP hpr hpl0 hback
  have hpl : Hid ((cellsB PK).length = 614) := by show _ = _; rw [cellsB_length]; exact hpl0.out
  have hux : Hid (∀ W {gp : Nat}, Rds W (some ⟨gp, 0, none⟩) 614 (cellsB PK) → ∀ cp, Calls Try.prog 20 #[.slice (some ⟨gp, 0, none⟩) 614 cp] W fun e w' => e = .returned (.tuple #[.agg (pktC p).toArray, .int .i64 0]) ∧ Below W.heap.size W w') := fun W gp h cp => by
    have k := unpack_any _ 614 cp PK W h (by decide)
    rw [hback.1, hback.2] at k
    exact k
  have hCC : Hid (∀ w, (Op.equalIn 10000 50 (.agg (pktC p).toArray) (.agg (pktC p).toArray)).run Try.prog w = .ok true w) := fun w => by
    have h := eq_pkt hp hp w
    rw [show pktEq p p = true from pktEq_iff.2 rfl] at h
    exact h
  have h610 := hide (pktC_length hp)
  have hCo := hide (pktC_one p)
  clear hr hrm hBe hnc hc hPK hback ml mr
  have hcase : m = 0 ∨ (0 < m ∧ m < 614) ∨ m = 614 ∨ 614 < m := by omega
  rcases hcase with h0 | h0 | h0 | h0
  · have hub : Hid (∀ W A', Rds W A' m (cellsB Bl) → ∀ c, Calls Try.prog 20 #[.slice A' m c] W fun e w' => e = .returned (.tuple #[.agg (pktC pkt0).toArray, .int .i64 2]) ∧ Below W.heap.size W w') := fun W A' h c => by
      have k := unpack_any A' m c Bl W h (by have := hm7.out; omega)
      rw [(up_short (b := Bl) (by rw [hBl0]; omega)).1, (up_short (b := Bl) (by rw [hBl0]; omega)).2] at k
      exact k
    have hbd := hide build_pkt0
    have hYY : Hid (∀ w, (Op.equalIn 10000 50 (.agg (pktC pkt0).toArray) (.agg (pktC pkt0).toArray)).run Try.prog w = .ok true w) := fun w => by
      have h := eq_pkt pkt0_ok pkt0_ok w
      rw [show pktEq pkt0 pkt0 = true from pktEq_iff.2 rfl] at h
      exact h
    have hy610 := hide (pktC_length pkt0_ok)
    have hYo := hide (pktC_one pkt0)
    have hd1 : decide ((m : Int) < 614) = true := decide_eq_true (by omega)
    have hd2 : decide ((614 : Int) < (m : Int)) = false := decide_eq_false (by omega)
    have hd3 : (m : Int) < 614 := by omega
    have hd4 : ¬ (614 : Int) < (m : Int) := by omega
    have hB0 : Hid (Bl = []) := List.eq_nil_of_length_eq_zero (by rw [hBl0, h0])
    have hm0 : Hid (m = 0) := h0
    clear h0
    clear hBl0
    generalize pktC p = C at *
    generalize pktC pkt0 = CY at *
    clear hp p
    have H := hide (At.start w)
    go_enter Try.func5, Try.ntmps5
    go_wp2_with (first
      | (with_reducible refine at_op (op := ⟨some 2, _, _, _, _, _⟩) ?_; (refine wpl_boxa (op := ⟨some 2, _, _, _, _, _⟩) rfl _ _ rfl (C) rfl ?_); intro g2 W1 hB1 hg1 hF1; replace H := hide (H.out.box hg1 hF1 hB1); clear hB1 hg1 hF1)
      | (go_at_call 12; with_reducible refine (hsh.out _).mono ?_; rintro e Wc ⟨rfl, hbc⟩; replace H := hide (H.out.call hbc); clear hbc)
      | (with_reducible refine at_op (op := ⟨some 18, _, _, _, _, _⟩) ?_; refine wpl_held (op := ⟨some 18, _, _, _, _, _⟩) (.int .i64 (m : Int)) (held_min _ _ _ _ rfl (n : Int) 700 _ rfl rfl HM.out) rfl ?_)
      | (with_reducible refine at_op (op := ⟨some 19, _, _, _, _, _⟩) ?_; refine wpl_held (op := ⟨some 19, _, _, _, _, _⟩) (.slice A m c) (held_cut0 _ _ rfl A n c m rfl rfl hmc.out) rfl ?_)
      | (with_reducible refine at_op (op := ⟨some 20, _, _, _, _, _⟩) ?_; refine wpl_app (op := ⟨some 20, _, _, _, _, _⟩) one_u8 rfl (.tmp 14) (.tmp 19) rfl _ _ _ 0 [] rfl (World.ownsRow_made _ #[] 0 (Nat.le_refl _) (by simp [maxLen]) (by simp)) A m c (cellsB Bl) rfl ((HRB.out.below H.out.bel).below ((Below.refl _ _).alloc (Nat.le_refl _) _)) (cellsB_one _) (by have := hm7.out; omega) (by have := hm7.out; omega) (by simp) ?_; intro A1 c1 Wa ho1 hg1 hat1; have hb1 := made_below (.inr rfl) hg1; rw [List.nil_append, Nat.zero_add] at ho1; rw [Nat.zero_add]; replace H := hide (H.out.call hb1); clear ho1 hg1 hat1 hb1)
      | (with_reducible refine at_op (op := ⟨some 22, _, _, _, _, _⟩) ?_; refine wpl_held (op := ⟨some 22, _, _, _, _, _⟩) (.string ⟨(Bl).toArray⟩) (held_convR _ rfl A1 m c1 rfl (Bl) (rds_none hm0.out hB0.out)) rfl ?_)
      | (with_reducible refine at_op (op := ⟨some 23, _, _, _, _, _⟩) ?_; refine wpl_held (op := ⟨some 23, _, _, _, _, _⟩) (.agg (C).toArray) (held_loadf aggP _ rfl g2 rfl _ (C) (H.out.get 0 rfl) h610.out) rfl ?_)
      | (go_at_call 19; (with_reducible refine (hP.out _).mono ?_); rintro e Wc ⟨Ap, cp, rfl, hop, hbc⟩; rw [hpl.out] at hop ⊢; obtain ⟨gp, curp, rfl, hgp, hbp, hsp, htp, hcp⟩ := own_block hop (by decide); rw [← Array.toArray_toList (xs := curp)] at hbp; replace H := hide (H.out.box hgp (Frm.of_below hbc) hbp); have HTP : Hid ((curp.toList.drop 0).take 614 = cellsB PK) := (by show _ = _; rw [List.drop_zero]; exact htp); clear hbc hop hgp hbp htp hcp hsp)
      | (go_at_call 20; with_reducible refine (hux.out _ ((H.out.get 1 rfl).mid 0 614 PK HTP.out hpl0.out) cp).mono ?_; rintro e Wc ⟨rfl, hbc⟩; replace H := hide (H.out.call hbc); clear hbc)
      | ((with_reducible refine wpl_alloca (op := ⟨some 8, _, _, _, _, _⟩) rfl _ rfl _ zeroP ?_); intro g8 W1 hB1 hg1 hF1)
      | ((with_reducible refine wpl_storea aggP rfl (.tmp 8) (.tmp 28) rfl g8 (C) rfl rfl _ _ hB1 h610.out pkt0_len (hCo.out) ?_); intro W2 hB2 hF2; replace H := hide (H.out.var hg1 hF1 hF2 hB2); clear hB1 hg1 hF1 hB2 hF2))
    obtain ⟨N, hN⟩ : ∃ N, N = W2.heap.size := ⟨_, rfl⟩
    have hq : Below N W2 W2 := hN ▸ Below.refl _ _
    have HA := hide (fun W' (h : Below N W2 W') => H.out.call (hN ▸ h))
    have HC := hide (fun W' (h : Below N W2 W') W'' (k : Below W'.heap.size W' W'') => h.trans (k.mono (by rw [hN]; exact h.size)))
    have hW : ∀ W', Below N W2 W' → Calls Try.prog 21 #[.agg C.toArray] W' (fun e w'' => e = .returned (.string ⟨PK.toArray⟩) ∧ Below N W2 w'') := fun W' h => (hpr.out W').mono (fun e w'' ⟨he, hb⟩ => ⟨he, HC.out W' h w'' hb⟩)
    clear hN
    refine wp_region_class (fun W' => Below N W2 W') (by kernel_rfl) (by kernel_rfl) (below_drewN hq 1) ?_
    with_reducible refine wpQuiet_step ?_
    intro K hK
    go_simp
    first | (refine hK _ ?_; clear hK K) | (refine ⟨_, fun w' hw' => rfl, hK _ ?_⟩; clear hK K)
    with_reducible refine wpQuiet_step ?_
    intro K hK
    refine quiet_val (.string ⟨(PK).toArray⟩) (fun w' hw' => held_convm _ rfl gp 0 614 cp rfl (PK) (((HA.out w' hw').get 1 rfl).mid 0 614 (PK) HTP.out hpl0.out)) ?_ rfl
    go_simp
    refine hK _ ?_
    clear hK K
    with_reducible refine wpQuiet_step ?_
    intro K hK
    refine quiet_val (.agg (C).toArray) (fun w' hw' => held_loadf aggP _ rfl g2 rfl _ (C) ((HA.out w' hw').get 0 rfl) h610.out) ?_ rfl
    go_simp
    refine hK _ ?_
    clear hK K
    with_reducible refine wpQuiet_step ?_
    intro K hK
    go_simp
    refine ⟨_, hW, hK _ ?_⟩
    clear hK K
    with_reducible refine wpQuiet_step ?_
    intro K hK
    go_simp
    first | (refine hK _ ?_; clear hK K) | (refine ⟨_, fun w' hw' => rfl, hK _ ?_⟩; clear hK K)
    with_reducible refine wpQuiet_step ?_
    intro K hK
    go_simp
    first | (refine hK _ ?_; clear hK K) | (refine ⟨_, fun w' hw' => rfl, hK _ ?_⟩; clear hK K)
    with_reducible refine wpQuiet_step ?_
    intro K hK
    refine quiet_val (.agg (C).toArray) (fun w' hw' => held_loadf aggP _ rfl g8 rfl _ (C) ((HA.out w' hw').get 2 rfl) h610.out) ?_ rfl
    go_simp
    refine hK _ ?_
    clear hK K
    with_reducible refine wpQuiet_step ?_
    intro K hK
    refine quiet_val (.agg (C).toArray) (fun w' hw' => held_loadf aggP _ rfl g2 rfl _ (C) ((HA.out w' hw').get 0 rfl) h610.out) ?_ rfl
    go_simp
    refine hK _ ?_
    clear hK K
    with_reducible refine wpQuiet_step ?_
    intro K hK
    refine quiet_val (.bool (!true)) (fun w' hw' => held_neq _ _ _ _ rfl (C) (C) rfl rfl (true) (hCC.out w') Try.eqGuardType50) ?_ rfl
    go_simp
    refine hK _ ?_
    clear hK K
    with_reducible refine wpQuiet_step ?_
    intro K hK
    go_simp
    first | (refine hK _ ?_; clear hK K) | (refine ⟨_, fun w' hw' => rfl, hK _ ?_⟩; clear hK K)
    with_reducible refine wpQuiet_step ?_
    intro K hK
    go_simp
    first | (refine hK _ ?_; clear hK K) | (refine ⟨_, fun w' hw' => rfl, hK _ ?_⟩; clear hK K)
    with_reducible refine wpQuiet_step ?_
    intro K hK
    go_simp
    first | (refine hK _ ?_; clear hK K) | (refine ⟨_, fun w' hw' => rfl, hK _ ?_⟩; clear hK K)
    with_reducible refine wpQuiet_step ?_
    intro K hK
    go_simp
    first | (refine hK _ ?_; clear hK K) | (refine ⟨_, fun w' hw' => rfl, hK _ ?_⟩; clear hK K)
    with_reducible refine wpQuiet_step ?_
    intro K hK
    go_simp
    first | (refine hK _ ?_; clear hK K) | (refine ⟨_, fun w' hw' => rfl, hK _ ?_⟩; clear hK K)
    refine wpQuiet_nil ?_
    clear hq
    intro wq hwq
    replace H := hide (HA.out wq hwq)
    clear HA HC hwq
    go_wp2_with (first
      | (go_at_call 20; with_reducible refine (hub.out _ _ (rds_none hm0.out hB0.out) c1).mono ?_; rintro e Wc ⟨rfl, hbc⟩; replace H := hide (H.out.call hbc); clear hbc)
      | ((with_reducible refine wpl_alloca (op := ⟨some 10, _, _, _, _, _⟩) rfl _ rfl _ zeroP ?_); intro g10 W1 hB1 hg1 hF1)
      | ((with_reducible refine wpl_storea aggP rfl (.tmp 10) (.tmp 47) rfl g10 (CY) rfl rfl _ _ hB1 hy610.out pkt0_len (hYo.out) ?_); intro W2 hB2 hF2; replace H := hide (H.out.var hg1 hF1 hF2 hB2); clear hB1 hg1 hF1 hB2 hF2)
      | (with_reducible refine at_op (op := ⟨some 65, _, _, _, _, _⟩) ?_; refine wpl_held (op := ⟨some 65, _, _, _, _, _⟩) (.agg (CY).toArray) (held_loadf aggP _ rfl g10 rfl _ (CY) (H.out.get 3 rfl) hy610.out) rfl ?_)
      | (with_reducible refine at_op (op := ⟨some 66, _, _, _, _, _⟩) ?_; refine wpl_held (op := ⟨some 66, _, _, _, _, _⟩) (.agg (CY).toArray) (held_build _ _ rfl _ _ (hbd.out _) rfl) rfl ?_)
      | (with_reducible refine at_op (op := ⟨some 67, _, _, _, _, _⟩) ?_; refine wpl_held (op := ⟨some 67, _, _, _, _, _⟩) (.bool true) (held_eql _ _ _ _ rfl (CY) (CY) rfl rfl (true) (hYY.out _) Try.eqGuardType50) rfl ?_)
      | (with_reducible refine at_op (op := ⟨some 83, _, _, _, _, _⟩) ?_; refine wpl_held (op := ⟨some 83, _, _, _, _, _⟩) (.string ⟨(Bl).toArray⟩) (held_convR _ rfl A1 m c1 rfl (Bl) (rds_none hm0.out hB0.out)) rfl ?_))
    go_ret
    exact ⟨rfl, H.out.bel⟩
  · have hub : Hid (∀ W A', Rds W A' m (cellsB Bl) → ∀ c, Calls Try.prog 20 #[.slice A' m c] W fun e w' => e = .returned (.tuple #[.agg (pktC pkt0).toArray, .int .i64 2]) ∧ Below W.heap.size W w') := fun W A' h c => by
      have k := unpack_any A' m c Bl W h (by have := hm7.out; omega)
      rw [(up_short (b := Bl) (by rw [hBl0]; omega)).1, (up_short (b := Bl) (by rw [hBl0]; omega)).2] at k
      exact k
    have hbd := hide build_pkt0
    have hYY : Hid (∀ w, (Op.equalIn 10000 50 (.agg (pktC pkt0).toArray) (.agg (pktC pkt0).toArray)).run Try.prog w = .ok true w) := fun w => by
      have h := eq_pkt pkt0_ok pkt0_ok w
      rw [show pktEq pkt0 pkt0 = true from pktEq_iff.2 rfl] at h
      exact h
    have hy610 := hide (pktC_length pkt0_ok)
    have hYo := hide (pktC_one pkt0)
    have hd1 : decide ((m : Int) < 614) = true := decide_eq_true (by omega)
    have hd2 : decide ((614 : Int) < (m : Int)) = false := decide_eq_false (by omega)
    have hd3 : (m : Int) < 614 := by omega
    have hd4 : ¬ (614 : Int) < (m : Int) := by omega
    have hm1 : Hid (0 < m) := by show _ < _; omega
    clear hBl0
    generalize pktC p = C at *
    generalize pktC pkt0 = CY at *
    clear hp p
    have H := hide (At.start w)
    go_enter Try.func5, Try.ntmps5
    go_wp2_with (first
      | (with_reducible refine at_op (op := ⟨some 2, _, _, _, _, _⟩) ?_; (refine wpl_boxa (op := ⟨some 2, _, _, _, _, _⟩) rfl _ _ rfl (C) rfl ?_); intro g2 W1 hB1 hg1 hF1; replace H := hide (H.out.box hg1 hF1 hB1); clear hB1 hg1 hF1)
      | (go_at_call 12; with_reducible refine (hsh.out _).mono ?_; rintro e Wc ⟨rfl, hbc⟩; replace H := hide (H.out.call hbc); clear hbc)
      | (with_reducible refine at_op (op := ⟨some 18, _, _, _, _, _⟩) ?_; refine wpl_held (op := ⟨some 18, _, _, _, _, _⟩) (.int .i64 (m : Int)) (held_min _ _ _ _ rfl (n : Int) 700 _ rfl rfl HM.out) rfl ?_)
      | (with_reducible refine at_op (op := ⟨some 19, _, _, _, _, _⟩) ?_; refine wpl_held (op := ⟨some 19, _, _, _, _, _⟩) (.slice A m c) (held_cut0 _ _ rfl A n c m rfl rfl hmc.out) rfl ?_)
      | (with_reducible refine at_op (op := ⟨some 20, _, _, _, _, _⟩) ?_; refine wpl_app (op := ⟨some 20, _, _, _, _, _⟩) one_u8 rfl (.tmp 14) (.tmp 19) rfl _ _ _ 0 [] rfl (World.ownsRow_made _ #[] 0 (Nat.le_refl _) (by simp [maxLen]) (by simp)) A m c (cellsB Bl) rfl ((HRB.out.below H.out.bel).below ((Below.refl _ _).alloc (Nat.le_refl _) _)) (cellsB_one _) (by have := hm7.out; omega) (by have := hm7.out; omega) (by simp) ?_; intro A1 c1 Wa ho1 hg1 hat1; have hb1 := made_below (.inr rfl) hg1; rw [List.nil_append, Nat.zero_add] at ho1; rw [Nat.zero_add]; obtain ⟨gb, curb, rfl, hgb, hbb, hsb, htb, hcb⟩ := own_block ho1 hm1.out; rw [← Array.toArray_toList (xs := curb)] at hbb; replace H := hide (H.out.box hgb (Frm.of_below hb1) hbb); have HTB := hide (show (curb.toList.drop 0).take m = cellsB Bl by rw [List.drop_zero]; exact htb); clear ho1 hg1 hat1 hb1 hgb hbb hsb htb hcb)
      | (with_reducible refine at_op (op := ⟨some 22, _, _, _, _, _⟩) ?_; refine wpl_held (op := ⟨some 22, _, _, _, _, _⟩) (.string ⟨(Bl).toArray⟩) (held_convm _ rfl gb 0 m c1 rfl (Bl) ((H.out.get 1 rfl).mid 0 m (Bl) HTB.out hBl.out)) rfl ?_)
      | (with_reducible refine at_op (op := ⟨some 23, _, _, _, _, _⟩) ?_; refine wpl_held (op := ⟨some 23, _, _, _, _, _⟩) (.agg (C).toArray) (held_loadf aggP _ rfl g2 rfl _ (C) (H.out.get 0 rfl) h610.out) rfl ?_)
      | (go_at_call 19; (with_reducible refine (hP.out _).mono ?_); rintro e Wc ⟨Ap, cp, rfl, hop, hbc⟩; rw [hpl.out] at hop ⊢; obtain ⟨gp, curp, rfl, hgp, hbp, hsp, htp, hcp⟩ := own_block hop (by decide); rw [← Array.toArray_toList (xs := curp)] at hbp; replace H := hide (H.out.box hgp (Frm.of_below hbc) hbp); have HTP : Hid ((curp.toList.drop 0).take 614 = cellsB PK) := (by show _ = _; rw [List.drop_zero]; exact htp); clear hbc hop hgp hbp htp hcp hsp)
      | (go_at_call 20; with_reducible refine (hux.out _ ((H.out.get 2 rfl).mid 0 614 PK HTP.out hpl0.out) cp).mono ?_; rintro e Wc ⟨rfl, hbc⟩; replace H := hide (H.out.call hbc); clear hbc)
      | ((with_reducible refine wpl_alloca (op := ⟨some 8, _, _, _, _, _⟩) rfl _ rfl _ zeroP ?_); intro g8 W1 hB1 hg1 hF1)
      | ((with_reducible refine wpl_storea aggP rfl (.tmp 8) (.tmp 28) rfl g8 (C) rfl rfl _ _ hB1 h610.out pkt0_len (hCo.out) ?_); intro W2 hB2 hF2; replace H := hide (H.out.var hg1 hF1 hF2 hB2); clear hB1 hg1 hF1 hB2 hF2))
    obtain ⟨N, hN⟩ : ∃ N, N = W2.heap.size := ⟨_, rfl⟩
    have hq : Below N W2 W2 := hN ▸ Below.refl _ _
    have HA := hide (fun W' (h : Below N W2 W') => H.out.call (hN ▸ h))
    have HC := hide (fun W' (h : Below N W2 W') W'' (k : Below W'.heap.size W' W'') => h.trans (k.mono (by rw [hN]; exact h.size)))
    have hW : ∀ W', Below N W2 W' → Calls Try.prog 21 #[.agg C.toArray] W' (fun e w'' => e = .returned (.string ⟨PK.toArray⟩) ∧ Below N W2 w'') := fun W' h => (hpr.out W').mono (fun e w'' ⟨he, hb⟩ => ⟨he, HC.out W' h w'' hb⟩)
    clear hN
    refine wp_region_class (fun W' => Below N W2 W') (by kernel_rfl) (by kernel_rfl) (below_drewN hq 1) ?_
    with_reducible refine wpQuiet_step ?_
    intro K hK
    go_simp
    first | (refine hK _ ?_; clear hK K) | (refine ⟨_, fun w' hw' => rfl, hK _ ?_⟩; clear hK K)
    with_reducible refine wpQuiet_step ?_
    intro K hK
    refine quiet_val (.string ⟨(PK).toArray⟩) (fun w' hw' => held_convm _ rfl gp 0 614 cp rfl (PK) (((HA.out w' hw').get 2 rfl).mid 0 614 (PK) HTP.out hpl0.out)) ?_ rfl
    go_simp
    refine hK _ ?_
    clear hK K
    with_reducible refine wpQuiet_step ?_
    intro K hK
    refine quiet_val (.agg (C).toArray) (fun w' hw' => held_loadf aggP _ rfl g2 rfl _ (C) ((HA.out w' hw').get 0 rfl) h610.out) ?_ rfl
    go_simp
    refine hK _ ?_
    clear hK K
    with_reducible refine wpQuiet_step ?_
    intro K hK
    go_simp
    refine ⟨_, hW, hK _ ?_⟩
    clear hK K
    with_reducible refine wpQuiet_step ?_
    intro K hK
    go_simp
    first | (refine hK _ ?_; clear hK K) | (refine ⟨_, fun w' hw' => rfl, hK _ ?_⟩; clear hK K)
    with_reducible refine wpQuiet_step ?_
    intro K hK
    go_simp
    first | (refine hK _ ?_; clear hK K) | (refine ⟨_, fun w' hw' => rfl, hK _ ?_⟩; clear hK K)
    with_reducible refine wpQuiet_step ?_
    intro K hK
    refine quiet_val (.agg (C).toArray) (fun w' hw' => held_loadf aggP _ rfl g8 rfl _ (C) ((HA.out w' hw').get 3 rfl) h610.out) ?_ rfl
    go_simp
    refine hK _ ?_
    clear hK K
    with_reducible refine wpQuiet_step ?_
    intro K hK
    refine quiet_val (.agg (C).toArray) (fun w' hw' => held_loadf aggP _ rfl g2 rfl _ (C) ((HA.out w' hw').get 0 rfl) h610.out) ?_ rfl
    go_simp
    refine hK _ ?_
    clear hK K
    with_reducible refine wpQuiet_step ?_
    intro K hK
    refine quiet_val (.bool (!true)) (fun w' hw' => held_neq _ _ _ _ rfl (C) (C) rfl rfl (true) (hCC.out w') Try.eqGuardType50) ?_ rfl
    go_simp
    refine hK _ ?_
    clear hK K
    with_reducible refine wpQuiet_step ?_
    intro K hK
    go_simp
    first | (refine hK _ ?_; clear hK K) | (refine ⟨_, fun w' hw' => rfl, hK _ ?_⟩; clear hK K)
    with_reducible refine wpQuiet_step ?_
    intro K hK
    go_simp
    first | (refine hK _ ?_; clear hK K) | (refine ⟨_, fun w' hw' => rfl, hK _ ?_⟩; clear hK K)
    with_reducible refine wpQuiet_step ?_
    intro K hK
    go_simp
    first | (refine hK _ ?_; clear hK K) | (refine ⟨_, fun w' hw' => rfl, hK _ ?_⟩; clear hK K)
    with_reducible refine wpQuiet_step ?_
    intro K hK
    go_simp
    first | (refine hK _ ?_; clear hK K) | (refine ⟨_, fun w' hw' => rfl, hK _ ?_⟩; clear hK K)
    with_reducible refine wpQuiet_step ?_
    intro K hK
    go_simp
    first | (refine hK _ ?_; clear hK K) | (refine ⟨_, fun w' hw' => rfl, hK _ ?_⟩; clear hK K)
    refine wpQuiet_nil ?_
    clear hq
    intro wq hwq
    replace H := hide (HA.out wq hwq)
    clear HA HC hwq
    go_wp2_with (first
      | (go_at_call 20; with_reducible refine (hub.out _ _ ((H.out.get 1 rfl).mid 0 m Bl HTB.out hBl.out) c1).mono ?_; rintro e Wc ⟨rfl, hbc⟩; replace H := hide (H.out.call hbc); clear hbc)
      | ((with_reducible refine wpl_alloca (op := ⟨some 10, _, _, _, _, _⟩) rfl _ rfl _ zeroP ?_); intro g10 W1 hB1 hg1 hF1)
      | ((with_reducible refine wpl_storea aggP rfl (.tmp 10) (.tmp 47) rfl g10 (CY) rfl rfl _ _ hB1 hy610.out pkt0_len (hYo.out) ?_); intro W2 hB2 hF2; replace H := hide (H.out.var hg1 hF1 hF2 hB2); clear hB1 hg1 hF1 hB2 hF2)
      | (with_reducible refine at_op (op := ⟨some 65, _, _, _, _, _⟩) ?_; refine wpl_held (op := ⟨some 65, _, _, _, _, _⟩) (.agg (CY).toArray) (held_loadf aggP _ rfl g10 rfl _ (CY) (H.out.get 4 rfl) hy610.out) rfl ?_)
      | (with_reducible refine at_op (op := ⟨some 66, _, _, _, _, _⟩) ?_; refine wpl_held (op := ⟨some 66, _, _, _, _, _⟩) (.agg (CY).toArray) (held_build _ _ rfl _ _ (hbd.out _) rfl) rfl ?_)
      | (with_reducible refine at_op (op := ⟨some 67, _, _, _, _, _⟩) ?_; refine wpl_held (op := ⟨some 67, _, _, _, _, _⟩) (.bool true) (held_eql _ _ _ _ rfl (CY) (CY) rfl rfl (true) (hYY.out _) Try.eqGuardType50) rfl ?_)
      | (with_reducible refine at_op (op := ⟨some 83, _, _, _, _, _⟩) ?_; refine wpl_held (op := ⟨some 83, _, _, _, _, _⟩) (.string ⟨(Bl).toArray⟩) (held_convm _ rfl gb 0 m c1 rfl (Bl) ((H.out.get 1 rfl).mid 0 m (Bl) HTB.out hBl.out)) rfl ?_))
    go_ret
    exact ⟨rfl, H.out.bel⟩
  · have hl614 : Bl.length = 614 := by rw [hBl0]; omega
    have hyk : (unpackM Bl).ok := unpackM_ok hl614
    have hub : Hid (∀ W A', Rds W A' m (cellsB Bl) → ∀ c, Calls Try.prog 20 #[.slice A' m c] W fun e w' => e = .returned (.tuple #[.agg (pktC (unpackM Bl)).toArray, .int .i64 0]) ∧ Below W.heap.size W w') := fun W A' h c => by
      have k := unpack_any A' m c Bl W h (by have := hm7.out; omega)
      rw [show upM Bl = unpackM Bl by unfold upM; rw [if_pos hl614], show errU Bl = 0 by unfold errU; rw [if_neg (by omega), if_neg (by omega)]] at k
      exact k
    have hP2 := hide (pack_any (unpackM Bl) hyk)
    rw [pack_unpack hl614] at hP2
    have hpl2 : Hid ((cellsB Bl).length = 614) := by show _ = _; rw [cellsB_length]; exact hl614
    have hB614 := hide hl614
    have hy610 := hide (pktC_length hyk)
    have hYo := hide (pktC_one (unpackM Bl))
    have hd1 : decide ((m : Int) < 614) = false := decide_eq_false (by omega)
    have hd2 : decide ((614 : Int) < (m : Int)) = false := decide_eq_false (by omega)
    have hd3 : ¬ (m : Int) < 614 := by omega
    have hd4 : ¬ (614 : Int) < (m : Int) := by omega
    clear hyk hl614
    have hm1 : Hid (0 < m) := by show _ < _; omega
    clear h0
    clear hBl0
    generalize pktC p = C at *
    generalize pktC (unpackM Bl) = CY at *
    clear hp p
    have H := hide (At.start w)
    go_enter Try.func5, Try.ntmps5
    go_wp2_with (first
      | (with_reducible refine at_op (op := ⟨some 2, _, _, _, _, _⟩) ?_; (refine wpl_boxa (op := ⟨some 2, _, _, _, _, _⟩) rfl _ _ rfl (C) rfl ?_); intro g2 W1 hB1 hg1 hF1; replace H := hide (H.out.box hg1 hF1 hB1); clear hB1 hg1 hF1)
      | (go_at_call 12; with_reducible refine (hsh.out _).mono ?_; rintro e Wc ⟨rfl, hbc⟩; replace H := hide (H.out.call hbc); clear hbc)
      | (with_reducible refine at_op (op := ⟨some 18, _, _, _, _, _⟩) ?_; refine wpl_held (op := ⟨some 18, _, _, _, _, _⟩) (.int .i64 (m : Int)) (held_min _ _ _ _ rfl (n : Int) 700 _ rfl rfl HM.out) rfl ?_)
      | (with_reducible refine at_op (op := ⟨some 19, _, _, _, _, _⟩) ?_; refine wpl_held (op := ⟨some 19, _, _, _, _, _⟩) (.slice A m c) (held_cut0 _ _ rfl A n c m rfl rfl hmc.out) rfl ?_)
      | (with_reducible refine at_op (op := ⟨some 20, _, _, _, _, _⟩) ?_; refine wpl_app (op := ⟨some 20, _, _, _, _, _⟩) one_u8 rfl (.tmp 14) (.tmp 19) rfl _ _ _ 0 [] rfl (World.ownsRow_made _ #[] 0 (Nat.le_refl _) (by simp [maxLen]) (by simp)) A m c (cellsB Bl) rfl ((HRB.out.below H.out.bel).below ((Below.refl _ _).alloc (Nat.le_refl _) _)) (cellsB_one _) (by have := hm7.out; omega) (by have := hm7.out; omega) (by simp) ?_; intro A1 c1 Wa ho1 hg1 hat1; have hb1 := made_below (.inr rfl) hg1; rw [List.nil_append, Nat.zero_add] at ho1; rw [Nat.zero_add]; obtain ⟨gb, curb, rfl, hgb, hbb, hsb, htb, hcb⟩ := own_block ho1 hm1.out; rw [← Array.toArray_toList (xs := curb)] at hbb; replace H := hide (H.out.box hgb (Frm.of_below hb1) hbb); have HTB := hide (show (curb.toList.drop 0).take m = cellsB Bl by rw [List.drop_zero]; exact htb); clear ho1 hg1 hat1 hb1 hgb hbb hsb htb hcb)
      | (with_reducible refine at_op (op := ⟨some 22, _, _, _, _, _⟩) ?_; refine wpl_held (op := ⟨some 22, _, _, _, _, _⟩) (.string ⟨(Bl).toArray⟩) (held_convm _ rfl gb 0 m c1 rfl (Bl) ((H.out.get 1 rfl).mid 0 m (Bl) HTB.out hBl.out)) rfl ?_)
      | (with_reducible refine at_op (op := ⟨some 23, _, _, _, _, _⟩) ?_; refine wpl_held (op := ⟨some 23, _, _, _, _, _⟩) (.agg (C).toArray) (held_loadf aggP _ rfl g2 rfl _ (C) (H.out.get 0 rfl) h610.out) rfl ?_)
      | (go_at_call 19; (with_reducible refine (hP.out _).mono ?_); rintro e Wc ⟨Ap, cp, rfl, hop, hbc⟩; rw [hpl.out] at hop ⊢; obtain ⟨gp, curp, rfl, hgp, hbp, hsp, htp, hcp⟩ := own_block hop (by decide); rw [← Array.toArray_toList (xs := curp)] at hbp; replace H := hide (H.out.box hgp (Frm.of_below hbc) hbp); have HTP : Hid ((curp.toList.drop 0).take 614 = cellsB PK) := (by show _ = _; rw [List.drop_zero]; exact htp); clear hbc hop hgp hbp htp hcp hsp)
      | (go_at_call 20; with_reducible refine (hux.out _ ((H.out.get 2 rfl).mid 0 614 PK HTP.out hpl0.out) cp).mono ?_; rintro e Wc ⟨rfl, hbc⟩; replace H := hide (H.out.call hbc); clear hbc)
      | ((with_reducible refine wpl_alloca (op := ⟨some 8, _, _, _, _, _⟩) rfl _ rfl _ zeroP ?_); intro g8 W1 hB1 hg1 hF1)
      | ((with_reducible refine wpl_storea aggP rfl (.tmp 8) (.tmp 28) rfl g8 (C) rfl rfl _ _ hB1 h610.out pkt0_len (hCo.out) ?_); intro W2 hB2 hF2; replace H := hide (H.out.var hg1 hF1 hF2 hB2); clear hB1 hg1 hF1 hB2 hF2))
    obtain ⟨N, hN⟩ : ∃ N, N = W2.heap.size := ⟨_, rfl⟩
    have hq : Below N W2 W2 := hN ▸ Below.refl _ _
    have HA := hide (fun W' (h : Below N W2 W') => H.out.call (hN ▸ h))
    have HC := hide (fun W' (h : Below N W2 W') W'' (k : Below W'.heap.size W' W'') => h.trans (k.mono (by rw [hN]; exact h.size)))
    have hW : ∀ W', Below N W2 W' → Calls Try.prog 21 #[.agg C.toArray] W' (fun e w'' => e = .returned (.string ⟨PK.toArray⟩) ∧ Below N W2 w'') := fun W' h => (hpr.out W').mono (fun e w'' ⟨he, hb⟩ => ⟨he, HC.out W' h w'' hb⟩)
    clear hN
    refine wp_region_class (fun W' => Below N W2 W') (by kernel_rfl) (by kernel_rfl) (below_drewN hq 1) ?_
    with_reducible refine wpQuiet_step ?_
    intro K hK
    go_simp
    first | (refine hK _ ?_; clear hK K) | (refine ⟨_, fun w' hw' => rfl, hK _ ?_⟩; clear hK K)
    with_reducible refine wpQuiet_step ?_
    intro K hK
    refine quiet_val (.string ⟨(PK).toArray⟩) (fun w' hw' => held_convm _ rfl gp 0 614 cp rfl (PK) (((HA.out w' hw').get 2 rfl).mid 0 614 (PK) HTP.out hpl0.out)) ?_ rfl
    go_simp
    refine hK _ ?_
    clear hK K
    with_reducible refine wpQuiet_step ?_
    intro K hK
    refine quiet_val (.agg (C).toArray) (fun w' hw' => held_loadf aggP _ rfl g2 rfl _ (C) ((HA.out w' hw').get 0 rfl) h610.out) ?_ rfl
    go_simp
    refine hK _ ?_
    clear hK K
    with_reducible refine wpQuiet_step ?_
    intro K hK
    go_simp
    refine ⟨_, hW, hK _ ?_⟩
    clear hK K
    with_reducible refine wpQuiet_step ?_
    intro K hK
    go_simp
    first | (refine hK _ ?_; clear hK K) | (refine ⟨_, fun w' hw' => rfl, hK _ ?_⟩; clear hK K)
    with_reducible refine wpQuiet_step ?_
    intro K hK
    go_simp
    first | (refine hK _ ?_; clear hK K) | (refine ⟨_, fun w' hw' => rfl, hK _ ?_⟩; clear hK K)
    with_reducible refine wpQuiet_step ?_
    intro K hK
    refine quiet_val (.agg (C).toArray) (fun w' hw' => held_loadf aggP _ rfl g8 rfl _ (C) ((HA.out w' hw').get 3 rfl) h610.out) ?_ rfl
    go_simp
    refine hK _ ?_
    clear hK K
    with_reducible refine wpQuiet_step ?_
    intro K hK
    refine quiet_val (.agg (C).toArray) (fun w' hw' => held_loadf aggP _ rfl g2 rfl _ (C) ((HA.out w' hw').get 0 rfl) h610.out) ?_ rfl
    go_simp
    refine hK _ ?_
    clear hK K
    with_reducible refine wpQuiet_step ?_
    intro K hK
    refine quiet_val (.bool (!true)) (fun w' hw' => held_neq _ _ _ _ rfl (C) (C) rfl rfl (true) (hCC.out w') Try.eqGuardType50) ?_ rfl
    go_simp
    refine hK _ ?_
    clear hK K
    with_reducible refine wpQuiet_step ?_
    intro K hK
    go_simp
    first | (refine hK _ ?_; clear hK K) | (refine ⟨_, fun w' hw' => rfl, hK _ ?_⟩; clear hK K)
    with_reducible refine wpQuiet_step ?_
    intro K hK
    go_simp
    first | (refine hK _ ?_; clear hK K) | (refine ⟨_, fun w' hw' => rfl, hK _ ?_⟩; clear hK K)
    with_reducible refine wpQuiet_step ?_
    intro K hK
    go_simp
    first | (refine hK _ ?_; clear hK K) | (refine ⟨_, fun w' hw' => rfl, hK _ ?_⟩; clear hK K)
    with_reducible refine wpQuiet_step ?_
    intro K hK
    go_simp
    first | (refine hK _ ?_; clear hK K) | (refine ⟨_, fun w' hw' => rfl, hK _ ?_⟩; clear hK K)
    with_reducible refine wpQuiet_step ?_
    intro K hK
    go_simp
    first | (refine hK _ ?_; clear hK K) | (refine ⟨_, fun w' hw' => rfl, hK _ ?_⟩; clear hK K)
    refine wpQuiet_nil ?_
    clear hq
    intro wq hwq
    replace H := hide (HA.out wq hwq)
    clear HA HC hwq
    go_wp2_with (first
      | (go_at_call 20; with_reducible refine (hub.out _ _ ((H.out.get 1 rfl).mid 0 m Bl HTB.out hBl.out) c1).mono ?_; rintro e Wc ⟨rfl, hbc⟩; replace H := hide (H.out.call hbc); clear hbc)
      | ((with_reducible refine wpl_alloca (op := ⟨some 10, _, _, _, _, _⟩) rfl _ rfl _ zeroP ?_); intro g10 W1 hB1 hg1 hF1)
      | ((with_reducible refine wpl_storea aggP rfl (.tmp 10) (.tmp 47) rfl g10 (CY) rfl rfl _ _ hB1 hy610.out pkt0_len (hYo.out) ?_); intro W2 hB2 hF2; replace H := hide (H.out.var hg1 hF1 hF2 hB2); clear hB1 hg1 hF1 hB2 hF2)
      | (with_reducible refine at_op (op := ⟨some 73, _, _, _, _, _⟩) ?_; refine wpl_held (op := ⟨some 73, _, _, _, _, _⟩) (.agg (CY).toArray) (held_loadf aggP _ rfl g10 rfl _ (CY) (H.out.get 4 rfl) hy610.out) rfl ?_)
      | (go_at_call 19; (with_reducible refine (hP2.out _).mono ?_); rintro e Wc ⟨Ap, cp2, rfl, hop, hbc⟩; rw [hpl2.out] at hop ⊢; obtain ⟨gp2, curp2, rfl, hgp, hbp, hsp, htp, hcp⟩ := own_block hop (by decide); rw [← Array.toArray_toList (xs := curp2)] at hbp; replace H := hide (H.out.box hgp (Frm.of_below hbc) hbp); have HTP2 : Hid ((curp2.toList.drop 0).take 614 = cellsB Bl) := (by show _ = _; rw [List.drop_zero]; exact htp); clear hbc hop hgp hbp htp hcp hsp)
      | (with_reducible refine at_op (op := ⟨some 75, _, _, _, _, _⟩) ?_; refine wpl_held (op := ⟨some 75, _, _, _, _, _⟩) (.string ⟨(Bl).toArray⟩) (held_convm _ rfl gp2 0 614 cp2 rfl (Bl) ((H.out.get 5 rfl).mid 0 614 (Bl) HTP2.out hB614.out)) rfl ?_)
      | (with_reducible refine at_op (op := ⟨some 83, _, _, _, _, _⟩) ?_; refine wpl_held (op := ⟨some 83, _, _, _, _, _⟩) (.string ⟨(Bl).toArray⟩) (held_convm _ rfl gb 0 m c1 rfl (Bl) ((H.out.get 1 rfl).mid 0 m (Bl) HTB.out hBl.out)) rfl ?_))
    go_ret
    exact ⟨rfl, H.out.bel⟩
  · have hub : Hid (∀ W A', Rds W A' m (cellsB Bl) → ∀ c, Calls Try.prog 20 #[.slice A' m c] W fun e w' => e = .returned (.tuple #[.agg (pktC pkt0).toArray, .int .i64 3]) ∧ Below W.heap.size W w') := fun W A' h c => by
      have k := unpack_any A' m c Bl W h (by have := hm7.out; omega)
      rw [(up_long (b := Bl) (by rw [hBl0]; omega)).1, (up_long (b := Bl) (by rw [hBl0]; omega)).2] at k
      exact k
    have hbd := hide build_pkt0
    have hYY : Hid (∀ w, (Op.equalIn 10000 50 (.agg (pktC pkt0).toArray) (.agg (pktC pkt0).toArray)).run Try.prog w = .ok true w) := fun w => by
      have h := eq_pkt pkt0_ok pkt0_ok w
      rw [show pktEq pkt0 pkt0 = true from pktEq_iff.2 rfl] at h
      exact h
    have hy610 := hide (pktC_length pkt0_ok)
    have hYo := hide (pktC_one pkt0)
    have hd1 : decide ((m : Int) < 614) = false := decide_eq_false (by omega)
    have hd2 : decide ((614 : Int) < (m : Int)) = true := decide_eq_true (by omega)
    have hd3 : ¬ (m : Int) < 614 := by omega
    have hd4 : (614 : Int) < (m : Int) := by omega
    have hm1 : Hid (0 < m) := by show _ < _; omega
    clear hBl0
    generalize pktC p = C at *
    generalize pktC pkt0 = CY at *
    clear hp p
    have H := hide (At.start w)
    go_enter Try.func5, Try.ntmps5
    go_wp2_with (first
      | (with_reducible refine at_op (op := ⟨some 2, _, _, _, _, _⟩) ?_; (refine wpl_boxa (op := ⟨some 2, _, _, _, _, _⟩) rfl _ _ rfl (C) rfl ?_); intro g2 W1 hB1 hg1 hF1; replace H := hide (H.out.box hg1 hF1 hB1); clear hB1 hg1 hF1)
      | (go_at_call 12; with_reducible refine (hsh.out _).mono ?_; rintro e Wc ⟨rfl, hbc⟩; replace H := hide (H.out.call hbc); clear hbc)
      | (with_reducible refine at_op (op := ⟨some 18, _, _, _, _, _⟩) ?_; refine wpl_held (op := ⟨some 18, _, _, _, _, _⟩) (.int .i64 (m : Int)) (held_min _ _ _ _ rfl (n : Int) 700 _ rfl rfl HM.out) rfl ?_)
      | (with_reducible refine at_op (op := ⟨some 19, _, _, _, _, _⟩) ?_; refine wpl_held (op := ⟨some 19, _, _, _, _, _⟩) (.slice A m c) (held_cut0 _ _ rfl A n c m rfl rfl hmc.out) rfl ?_)
      | (with_reducible refine at_op (op := ⟨some 20, _, _, _, _, _⟩) ?_; refine wpl_app (op := ⟨some 20, _, _, _, _, _⟩) one_u8 rfl (.tmp 14) (.tmp 19) rfl _ _ _ 0 [] rfl (World.ownsRow_made _ #[] 0 (Nat.le_refl _) (by simp [maxLen]) (by simp)) A m c (cellsB Bl) rfl ((HRB.out.below H.out.bel).below ((Below.refl _ _).alloc (Nat.le_refl _) _)) (cellsB_one _) (by have := hm7.out; omega) (by have := hm7.out; omega) (by simp) ?_; intro A1 c1 Wa ho1 hg1 hat1; have hb1 := made_below (.inr rfl) hg1; rw [List.nil_append, Nat.zero_add] at ho1; rw [Nat.zero_add]; obtain ⟨gb, curb, rfl, hgb, hbb, hsb, htb, hcb⟩ := own_block ho1 hm1.out; rw [← Array.toArray_toList (xs := curb)] at hbb; replace H := hide (H.out.box hgb (Frm.of_below hb1) hbb); have HTB := hide (show (curb.toList.drop 0).take m = cellsB Bl by rw [List.drop_zero]; exact htb); clear ho1 hg1 hat1 hb1 hgb hbb hsb htb hcb)
      | (with_reducible refine at_op (op := ⟨some 22, _, _, _, _, _⟩) ?_; refine wpl_held (op := ⟨some 22, _, _, _, _, _⟩) (.string ⟨(Bl).toArray⟩) (held_convm _ rfl gb 0 m c1 rfl (Bl) ((H.out.get 1 rfl).mid 0 m (Bl) HTB.out hBl.out)) rfl ?_)
      | (with_reducible refine at_op (op := ⟨some 23, _, _, _, _, _⟩) ?_; refine wpl_held (op := ⟨some 23, _, _, _, _, _⟩) (.agg (C).toArray) (held_loadf aggP _ rfl g2 rfl _ (C) (H.out.get 0 rfl) h610.out) rfl ?_)
      | (go_at_call 19; (with_reducible refine (hP.out _).mono ?_); rintro e Wc ⟨Ap, cp, rfl, hop, hbc⟩; rw [hpl.out] at hop ⊢; obtain ⟨gp, curp, rfl, hgp, hbp, hsp, htp, hcp⟩ := own_block hop (by decide); rw [← Array.toArray_toList (xs := curp)] at hbp; replace H := hide (H.out.box hgp (Frm.of_below hbc) hbp); have HTP : Hid ((curp.toList.drop 0).take 614 = cellsB PK) := (by show _ = _; rw [List.drop_zero]; exact htp); clear hbc hop hgp hbp htp hcp hsp)
      | (go_at_call 20; with_reducible refine (hux.out _ ((H.out.get 2 rfl).mid 0 614 PK HTP.out hpl0.out) cp).mono ?_; rintro e Wc ⟨rfl, hbc⟩; replace H := hide (H.out.call hbc); clear hbc)
      | ((with_reducible refine wpl_alloca (op := ⟨some 8, _, _, _, _, _⟩) rfl _ rfl _ zeroP ?_); intro g8 W1 hB1 hg1 hF1)
      | ((with_reducible refine wpl_storea aggP rfl (.tmp 8) (.tmp 28) rfl g8 (C) rfl rfl _ _ hB1 h610.out pkt0_len (hCo.out) ?_); intro W2 hB2 hF2; replace H := hide (H.out.var hg1 hF1 hF2 hB2); clear hB1 hg1 hF1 hB2 hF2))
    obtain ⟨N, hN⟩ : ∃ N, N = W2.heap.size := ⟨_, rfl⟩
    have hq : Below N W2 W2 := hN ▸ Below.refl _ _
    have HA := hide (fun W' (h : Below N W2 W') => H.out.call (hN ▸ h))
    have HC := hide (fun W' (h : Below N W2 W') W'' (k : Below W'.heap.size W' W'') => h.trans (k.mono (by rw [hN]; exact h.size)))
    have hW : ∀ W', Below N W2 W' → Calls Try.prog 21 #[.agg C.toArray] W' (fun e w'' => e = .returned (.string ⟨PK.toArray⟩) ∧ Below N W2 w'') := fun W' h => (hpr.out W').mono (fun e w'' ⟨he, hb⟩ => ⟨he, HC.out W' h w'' hb⟩)
    clear hN
    refine wp_region_class (fun W' => Below N W2 W') (by kernel_rfl) (by kernel_rfl) (below_drewN hq 1) ?_
    with_reducible refine wpQuiet_step ?_
    intro K hK
    go_simp
    first | (refine hK _ ?_; clear hK K) | (refine ⟨_, fun w' hw' => rfl, hK _ ?_⟩; clear hK K)
    with_reducible refine wpQuiet_step ?_
    intro K hK
    refine quiet_val (.string ⟨(PK).toArray⟩) (fun w' hw' => held_convm _ rfl gp 0 614 cp rfl (PK) (((HA.out w' hw').get 2 rfl).mid 0 614 (PK) HTP.out hpl0.out)) ?_ rfl
    go_simp
    refine hK _ ?_
    clear hK K
    with_reducible refine wpQuiet_step ?_
    intro K hK
    refine quiet_val (.agg (C).toArray) (fun w' hw' => held_loadf aggP _ rfl g2 rfl _ (C) ((HA.out w' hw').get 0 rfl) h610.out) ?_ rfl
    go_simp
    refine hK _ ?_
    clear hK K
    with_reducible refine wpQuiet_step ?_
    intro K hK
    go_simp
    refine ⟨_, hW, hK _ ?_⟩
    clear hK K
    with_reducible refine wpQuiet_step ?_
    intro K hK
    go_simp
    first | (refine hK _ ?_; clear hK K) | (refine ⟨_, fun w' hw' => rfl, hK _ ?_⟩; clear hK K)
    with_reducible refine wpQuiet_step ?_
    intro K hK
    go_simp
    first | (refine hK _ ?_; clear hK K) | (refine ⟨_, fun w' hw' => rfl, hK _ ?_⟩; clear hK K)
    with_reducible refine wpQuiet_step ?_
    intro K hK
    refine quiet_val (.agg (C).toArray) (fun w' hw' => held_loadf aggP _ rfl g8 rfl _ (C) ((HA.out w' hw').get 3 rfl) h610.out) ?_ rfl
    go_simp
    refine hK _ ?_
    clear hK K
    with_reducible refine wpQuiet_step ?_
    intro K hK
    refine quiet_val (.agg (C).toArray) (fun w' hw' => held_loadf aggP _ rfl g2 rfl _ (C) ((HA.out w' hw').get 0 rfl) h610.out) ?_ rfl
    go_simp
    refine hK _ ?_
    clear hK K
    with_reducible refine wpQuiet_step ?_
    intro K hK
    refine quiet_val (.bool (!true)) (fun w' hw' => held_neq _ _ _ _ rfl (C) (C) rfl rfl (true) (hCC.out w') Try.eqGuardType50) ?_ rfl
    go_simp
    refine hK _ ?_
    clear hK K
    with_reducible refine wpQuiet_step ?_
    intro K hK
    go_simp
    first | (refine hK _ ?_; clear hK K) | (refine ⟨_, fun w' hw' => rfl, hK _ ?_⟩; clear hK K)
    with_reducible refine wpQuiet_step ?_
    intro K hK
    go_simp
    first | (refine hK _ ?_; clear hK K) | (refine ⟨_, fun w' hw' => rfl, hK _ ?_⟩; clear hK K)
    with_reducible refine wpQuiet_step ?_
    intro K hK
    go_simp
    first | (refine hK _ ?_; clear hK K) | (refine ⟨_, fun w' hw' => rfl, hK _ ?_⟩; clear hK K)
    with_reducible refine wpQuiet_step ?_
    intro K hK
    go_simp
    first | (refine hK _ ?_; clear hK K) | (refine ⟨_, fun w' hw' => rfl, hK _ ?_⟩; clear hK K)
    with_reducible refine wpQuiet_step ?_
    intro K hK
    go_simp
    first | (refine hK _ ?_; clear hK K) | (refine ⟨_, fun w' hw' => rfl, hK _ ?_⟩; clear hK K)
    refine wpQuiet_nil ?_
    clear hq
    intro wq hwq
    replace H := hide (HA.out wq hwq)
    clear HA HC hwq
    go_wp2_with (first
      | (go_at_call 20; with_reducible refine (hub.out _ _ ((H.out.get 1 rfl).mid 0 m Bl HTB.out hBl.out) c1).mono ?_; rintro e Wc ⟨rfl, hbc⟩; replace H := hide (H.out.call hbc); clear hbc)
      | ((with_reducible refine wpl_alloca (op := ⟨some 10, _, _, _, _, _⟩) rfl _ rfl _ zeroP ?_); intro g10 W1 hB1 hg1 hF1)
      | ((with_reducible refine wpl_storea aggP rfl (.tmp 10) (.tmp 47) rfl g10 (CY) rfl rfl _ _ hB1 hy610.out pkt0_len (hYo.out) ?_); intro W2 hB2 hF2; replace H := hide (H.out.var hg1 hF1 hF2 hB2); clear hB1 hg1 hF1 hB2 hF2)
      | (with_reducible refine at_op (op := ⟨some 65, _, _, _, _, _⟩) ?_; refine wpl_held (op := ⟨some 65, _, _, _, _, _⟩) (.agg (CY).toArray) (held_loadf aggP _ rfl g10 rfl _ (CY) (H.out.get 4 rfl) hy610.out) rfl ?_)
      | (with_reducible refine at_op (op := ⟨some 66, _, _, _, _, _⟩) ?_; refine wpl_held (op := ⟨some 66, _, _, _, _, _⟩) (.agg (CY).toArray) (held_build _ _ rfl _ _ (hbd.out _) rfl) rfl ?_)
      | (with_reducible refine at_op (op := ⟨some 67, _, _, _, _, _⟩) ?_; refine wpl_held (op := ⟨some 67, _, _, _, _, _⟩) (.bool true) (held_eql _ _ _ _ rfl (CY) (CY) rfl rfl (true) (hYY.out _) Try.eqGuardType50) rfl ?_)
      | (with_reducible refine at_op (op := ⟨some 83, _, _, _, _, _⟩) ?_; refine wpl_held (op := ⟨some 83, _, _, _, _, _⟩) (.string ⟨(Bl).toArray⟩) (held_convm _ rfl gb 0 m c1 rfl (Bl) ((H.out.get 1 rfl).mid 0 m (Bl) HTB.out hBl.out)) rfl ?_))
    go_ret
    exact ⟨rfl, H.out.bel⟩
end Go.Proofs.Ytedodbejbkdplaa
