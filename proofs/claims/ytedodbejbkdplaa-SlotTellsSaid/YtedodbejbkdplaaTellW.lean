/-
  SlotTells: the walk.
-/
import Derived.Test.YtedodbejbkdplaaSlSh
namespace Go.Proofs.Ytedodbejbkdplaa
set_option linter.unusedVariables false
set_option linter.unusedSimpArgs false
open Go.RowKit

set_option maxHeartbeats 16000000 in
set_option maxRecDepth 100000 in
theorem tells_walk (s : Slot) (hs : s.ok) (b : List UInt8) (hb : b.length = 64) (w : World) : Calls Try.prog 3 #[.agg (slotC s).toArray, .agg (cellsB b).toArray] w fun e w' => e = .returned (.bool true) ∧ Below w.heap.size w w' := by
  have hsh := hide shown_any
  have href := hide (rightref_any s hs)
  have hright := hide (right_any s hs)
  have henc := hide (encode_any s hs)
  have hdec := hide (decode_any b hb)
  have hread := hide (readref_any b hb)
  have hwr := hide (writeref_any s hs)
  have h40 := hide (slotC_length s hs.nonce hs.mac)
  have hD40 := hide (slotC_length _ (ansM_ok hb).nonce (ansM_ok hb).mac)
  have hDone := hide (slotC_one (ansM b))
  have hDD : Hid (∀ w, (Op.equalIn 10000 32 (.agg (slotC (ansM b)).toArray) (.agg (slotC (ansM b)).toArray)).run Try.prog w = .ok true w) := fun w => by
    have h := eq_slot (ansM_ok hb) (ansM_ok hb) w
    rw [show slotEq (ansM b) (ansM b) = true from slotEq_iff.2 rfl] at h
    exact h
  have hbl := hide hb
  have hb64 : Hid ((cellsB b).length = 64) := by show _ = _; rw [cellsB_length]; exact hb
  have hX64 := hide (outM_length hs)
  have h64 : Hid ((cellsB (outM s)).length = 64) := by show _ = _; rw [cellsB_length]; exact hX64.out
  have hout : Hid (outM s = if rightB s = true then encM s else zeros 64) := rfl
  have herr : Hid (errR s = if rightB s = true then 0 else 1) := rfl
  have hXX : Hid (∀ w, (Op.equalIn 10000 33 (.agg (cellsB (outM s)).toArray) (.agg (cellsB (outM s)).toArray)).run Try.prog w = .ok true w) := fun w => by
    have h := eq_bytes 9998 under64b (outM s) (outM s) hX64.out hX64.out w
    rw [show (outM s == outM s) = true by simp] at h
    exact h
  have hbd := hide build_64
  have h64s := sl64
  clear hs hb
  generalize slotC s = C at *
  generalize slotC (ansM b) = D at *
  generalize errD b = F at *
  generalize errR s = E at *
  generalize outM s = X at *
  generalize encM s = ENC at *
  generalize rightB s = R at *
  cases R
  · have he : E = 1 := herr.out
    have hx : X = zeros 64 := hout.out
    rw [← hx] at hbd
    subst he
    clear herr hout hx
    have H := hide (At.start w)
    go_enter Try.func3, Try.ntmps3
    go_wp2_with (first
      | (with_reducible refine at_op (op := ⟨some 2, _, _, _, _, _⟩) ?_; (refine wpl_boxa (op := ⟨some 2, _, _, _, _, _⟩) rfl _ _ rfl (C) rfl ?_); intro g2 W1 hB1 hg1 hF1; replace H := hide (H.out.box hg1 hF1 hB1); clear hB1 hg1 hF1)
      | (with_reducible refine at_op (op := ⟨some 3, _, _, _, _, _⟩) ?_; (refine wpl_boxa (op := ⟨some 3, _, _, _, _, _⟩) rfl _ _ rfl (cellsB b) rfl ?_); intro g3 W1 hB1 hg1 hF1; replace H := hide (H.out.box hg1 hF1 hB1); clear hB1 hg1 hF1)
      | (go_at_call 12; with_reducible refine (hsh.out _).mono ?_; rintro e Wc ⟨rfl, hbc⟩; replace H := hide (H.out.call hbc); clear hbc)
      | (with_reducible refine at_op (op := ⟨some 14, _, _, _, _, _⟩) ?_; refine wpl_held (op := ⟨some 14, _, _, _, _, _⟩) (.agg (C).toArray) (held_loadf aggS _ rfl g2 rfl _ (C) (H.out.get 0 rfl) h40.out) rfl ?_)
      | (go_at_call 13; with_reducible refine (href.out _).mono ?_; rintro e Wc ⟨rfl, hbc⟩; replace H := hide (H.out.call hbc); clear hbc)
      | (with_reducible refine at_op (op := ⟨some 16, _, _, _, _, _⟩) ?_; refine wpl_held (op := ⟨some 16, _, _, _, _, _⟩) (.agg (C).toArray) (held_loadf aggS _ rfl g2 rfl _ (C) (H.out.get 0 rfl) h40.out) rfl ?_)
      | (go_at_call 14; with_reducible refine (hright.out _).mono ?_; rintro e Wc ⟨rfl, hbc⟩; replace H := hide (H.out.call hbc); clear hbc)
      | (with_reducible refine at_op (op := ⟨some 22, _, _, _, _, _⟩) ?_; refine wpl_held (op := ⟨some 22, _, _, _, _, _⟩) (.agg (C).toArray) (held_loadf aggS _ rfl g2 rfl _ (C) (H.out.get 0 rfl) h40.out) rfl ?_)
      | (with_reducible refine at_op (op := ⟨some 29, _, _, _, _, _⟩) ?_; refine wpl_held (op := ⟨some 29, _, _, _, _, _⟩) (.agg (C).toArray) (held_loadf aggS _ rfl g2 rfl _ (C) (H.out.get 0 rfl) h40.out) rfl ?_)
      | (go_at_call 15; with_reducible refine (henc.out _).mono ?_; rintro e Wc ⟨rfl, hbc⟩; replace H := hide (H.out.call hbc); clear hbc)
      | ((with_reducible refine wpl_alloca (op := ⟨some 7, _, _, _, _, _⟩) rfl _ rfl _ zero64 ?_); intro g7 W1 hB1 hg1 hF1)
      | ((with_reducible refine wpl_storea agg64b rfl (.tmp 7) (.tmp 31) rfl g7 (cellsB X) rfl rfl _ _ hB1 h64.out z64_len (cellsB_one _) ?_); intro W2 hB2 hF2; replace H := hide (H.out.var hg1 hF1 hF2 hB2); clear hB1 hg1 hF1 hB2 hF2))
    obtain ⟨N, hN⟩ : ∃ N, N = W2.heap.size := ⟨_, rfl⟩
    have hq : Below N W2 W2 := hN ▸ Below.refl _ _
    have HA := hide (fun W' (h : Below N W2 W') => H.out.call (hN ▸ h))
    have HC := hide (fun W' (h : Below N W2 W') W'' (k : Below W'.heap.size W' W'') => h.trans (k.mono (by rw [hN]; exact h.size)))
    clear hN
    refine wp_region_class (fun W' => Below N W2 W') (by kernel_rfl) (by kernel_rfl) (below_drewN hq 1) ?_
    with_reducible refine wpQuiet_step ?_
    intro K hK
    go_simp
    first | (refine hK _ ?_; clear hK K) | (refine ⟨_, fun w' hw' => rfl, hK _ ?_⟩; clear hK K)
    with_reducible refine wpQuiet_step ?_
    intro K hK
    go_simp
    first | (refine hK _ ?_; clear hK K) | (refine ⟨_, fun w' hw' => rfl, hK _ ?_⟩; clear hK K)
    with_reducible refine wpQuiet_step ?_
    intro K hK
    go_simp
    refine hK _ ?_
    clear hK K
    with_reducible refine wpQuiet_step ?_
    intro K hK
    go_simp
    refine hK _ ?_
    clear hK K
    with_reducible refine wpQuiet_step ?_
    intro K hK
    go_simp
    refine hK _ ?_
    clear hK K
    with_reducible refine wpQuiet_step ?_
    intro K hK
    go_simp
    refine hK _ ?_
    clear hK K
    with_reducible refine wpQuiet_step ?_
    intro K hK
    go_simp
    refine hK _ ?_
    clear hK K
    with_reducible refine wpQuiet_step ?_
    intro K hK
    go_simp
    refine hK _ ?_
    clear hK K
    with_reducible refine wpQuiet_step ?_
    intro K hK
    go_simp
    refine hK _ ?_
    clear hK K
    with_reducible refine wpQuiet_step ?_
    intro K hK
    go_simp
    refine hK _ ?_
    clear hK K
    with_reducible refine wpQuiet_step ?_
    intro K hK
    go_simp
    refine hK _ ?_
    clear hK K
    with_reducible refine wpQuiet_step ?_
    intro K hK
    go_simp
    first | (refine hK _ ?_; clear hK K) | (refine ⟨_, fun w' hw' => rfl, hK _ ?_⟩; clear hK K)
    with_reducible refine wpQuiet_step ?_
    intro K hK
    go_simp
    first | (refine hK _ ?_; clear hK K) | (refine ⟨_, fun w' hw' => rfl, hK _ ?_⟩; clear hK K)
    with_reducible refine wpQuiet_step ?_
    intro K hK
    go_simp
    first | (refine hK _ ?_; clear hK K) | (refine ⟨_, fun w' hw' => rfl, hK _ ?_⟩; clear hK K)
    with_reducible refine wpQuiet_step ?_
    intro K hK
    go_simp
    first | (refine hK _ ?_; clear hK K) | (refine ⟨_, fun w' hw' => rfl, hK _ ?_⟩; clear hK K)
    with_reducible refine wpQuiet_step ?_
    intro K hK
    go_simp
    first | (refine hK _ ?_; clear hK K) | (refine ⟨_, fun w' hw' => rfl, hK _ ?_⟩; clear hK K)
    with_reducible refine wpQuiet_step ?_
    intro K hK
    go_simp
    first | (refine hK _ ?_; clear hK K) | (refine ⟨_, fun w' hw' => rfl, hK _ ?_⟩; clear hK K)
    with_reducible refine wpQuiet_step ?_
    intro K hK
    go_simp
    first | (refine hK _ ?_; clear hK K) | (refine ⟨_, fun w' hw' => rfl, hK _ ?_⟩; clear hK K)
    with_reducible refine wpQuiet_step ?_
    intro K hK
    go_simp
    first | (refine hK _ ?_; clear hK K) | (refine ⟨_, fun w' hw' => rfl, hK _ ?_⟩; clear hK K)
    with_reducible refine wpQuiet_step ?_
    intro K hK
    refine quiet_val (.agg (cellsB X).toArray) (fun w' hw' => held_loadf agg64b _ rfl g7 rfl _ (cellsB X) ((HA.out w' hw').get 2 rfl) h64.out) ?_ rfl
    go_simp
    refine hK _ ?_
    clear hK K
    with_reducible refine wpQuiet_step ?_
    intro K hK
    refine quiet_val (.agg (cellsB X).toArray) (fun w' hw' => held_build _ _ rfl _ _ (hbd.out w') rfl) ?_ rfl
    go_simp
    refine hK _ ?_
    clear hK K
    with_reducible refine wpQuiet_step ?_
    intro K hK
    refine quiet_val (.bool (!true)) (fun w' hw' => held_neq _ _ _ _ rfl (cellsB X) (cellsB X) rfl rfl (true) (hXX.out w') Try.eqGuardType33) ?_ rfl
    go_simp
    refine hK _ ?_
    clear hK K
    with_reducible refine wpQuiet_step ?_
    intro K hK
    go_simp
    first | (refine hK _ ?_; clear hK K) | (refine ⟨_, fun w' hw' => rfl, hK _ ?_⟩; clear hK K)
    with_reducible refine wpQuiet_step ?_
    intro K hK
    go_simp
    first | (refine hK _ ?_; clear hK K) | (refine ⟨_, fun w' hw' => rfl, hK _ ?_⟩; clear hK K)
    with_reducible refine wpQuiet_step ?_
    intro K hK
    go_simp
    first | (refine hK _ ?_; clear hK K) | (refine ⟨_, fun w' hw' => rfl, hK _ ?_⟩; clear hK K)
    refine wpQuiet_nil ?_
    clear hq
    intro wq hwq
    replace H := hide (HA.out wq hwq)
    clear HA HC hwq
    go_wp2_with (first
      | (with_reducible refine at_op (op := ⟨some 59, _, _, _, _, _⟩) ?_; refine wpl_held (op := ⟨some 59, _, _, _, _, _⟩) (.agg (cellsB b).toArray) (held_loadf agg64b _ rfl g3 rfl _ (cellsB b) (H.out.get 1 rfl) hb64.out) rfl ?_)
      | (go_at_call 17; with_reducible refine (hdec.out _).mono ?_; rintro e Wc ⟨rfl, hbc⟩; replace H := hide (H.out.call hbc); clear hbc)
      | ((with_reducible refine wpl_alloca (op := ⟨some 9, _, _, _, _, _⟩) rfl _ rfl _ zeroS ?_); intro g9 W1 hB1 hg1 hF1)
      | ((with_reducible refine wpl_storea aggS rfl (.tmp 9) (.tmp 61) rfl g9 (D) rfl rfl _ _ hB1 hD40.out slot0_len (hDone.out) ?_); intro W2 hB2 hF2; replace H := hide (H.out.var hg1 hF1 hF2 hB2); clear hB1 hg1 hF1 hB2 hF2)
      | (with_reducible refine at_op (op := ⟨some 65, _, _, _, _, _⟩) ?_; refine wpl_held (op := ⟨some 65, _, _, _, _, _⟩) (.string ⟨(b).toArray⟩) (held_convm _ rfl g3 0 64 64 rfl (b) ((H.out.get 1 rfl).mid 0 64 (b) (full_take hb64.out) hbl.out)) rfl ?_)
      | (go_at_call 18; with_reducible refine (hread.out _).mono ?_; rintro e Wc ⟨rfl, hbc⟩; replace H := hide (H.out.call hbc); clear hbc)
      | ((with_reducible refine wpl_alloca (op := ⟨some 11, _, _, _, _, _⟩) rfl _ rfl _ zeroS ?_); intro g11 W1 hB1 hg1 hF1)
      | ((with_reducible refine wpl_storea aggS rfl (.tmp 11) (.tmp 67) rfl g11 (D) rfl rfl _ _ hB1 hD40.out slot0_len (hDone.out) ?_); intro W2 hB2 hF2; replace H := hide (H.out.var hg1 hF1 hF2 hB2); clear hB1 hg1 hF1 hB2 hF2)
      | (with_reducible refine at_op (op := ⟨some 71, _, _, _, _, _⟩) ?_; refine wpl_held (op := ⟨some 71, _, _, _, _, _⟩) (.agg (D).toArray) (held_loadf aggS _ rfl g9 rfl _ (D) (H.out.get 3 rfl) hD40.out) rfl ?_)
      | (with_reducible refine at_op (op := ⟨some 72, _, _, _, _, _⟩) ?_; refine wpl_held (op := ⟨some 72, _, _, _, _, _⟩) (.agg (D).toArray) (held_loadf aggS _ rfl g11 rfl _ (D) (H.out.get 4 rfl) hD40.out) rfl ?_)
      | (with_reducible refine at_op (op := ⟨some 73, _, _, _, _, _⟩) ?_; refine wpl_held (op := ⟨some 73, _, _, _, _, _⟩) (.bool true) (held_eql _ _ _ _ rfl (D) (D) rfl rfl (true) (hDD.out _) Try.eqGuardType32) rfl ?_))
    go_ret
    exact ⟨rfl, H.out.bel⟩
  · have he : E = 0 := herr.out
    have hx : X = ENC := hout.out
    subst he hx
    clear herr hout
    have H := hide (At.start w)
    go_enter Try.func3, Try.ntmps3
    go_wp2_with (first
      | (with_reducible refine at_op (op := ⟨some 2, _, _, _, _, _⟩) ?_; (refine wpl_boxa (op := ⟨some 2, _, _, _, _, _⟩) rfl _ _ rfl (C) rfl ?_); intro g2 W1 hB1 hg1 hF1; replace H := hide (H.out.box hg1 hF1 hB1); clear hB1 hg1 hF1)
      | (with_reducible refine at_op (op := ⟨some 3, _, _, _, _, _⟩) ?_; (refine wpl_boxa (op := ⟨some 3, _, _, _, _, _⟩) rfl _ _ rfl (cellsB b) rfl ?_); intro g3 W1 hB1 hg1 hF1; replace H := hide (H.out.box hg1 hF1 hB1); clear hB1 hg1 hF1)
      | (go_at_call 12; with_reducible refine (hsh.out _).mono ?_; rintro e Wc ⟨rfl, hbc⟩; replace H := hide (H.out.call hbc); clear hbc)
      | (with_reducible refine at_op (op := ⟨some 14, _, _, _, _, _⟩) ?_; refine wpl_held (op := ⟨some 14, _, _, _, _, _⟩) (.agg (C).toArray) (held_loadf aggS _ rfl g2 rfl _ (C) (H.out.get 0 rfl) h40.out) rfl ?_)
      | (go_at_call 13; with_reducible refine (href.out _).mono ?_; rintro e Wc ⟨rfl, hbc⟩; replace H := hide (H.out.call hbc); clear hbc)
      | (with_reducible refine at_op (op := ⟨some 16, _, _, _, _, _⟩) ?_; refine wpl_held (op := ⟨some 16, _, _, _, _, _⟩) (.agg (C).toArray) (held_loadf aggS _ rfl g2 rfl _ (C) (H.out.get 0 rfl) h40.out) rfl ?_)
      | (go_at_call 14; with_reducible refine (hright.out _).mono ?_; rintro e Wc ⟨rfl, hbc⟩; replace H := hide (H.out.call hbc); clear hbc)
      | (with_reducible refine at_op (op := ⟨some 22, _, _, _, _, _⟩) ?_; refine wpl_held (op := ⟨some 22, _, _, _, _, _⟩) (.agg (C).toArray) (held_loadf aggS _ rfl g2 rfl _ (C) (H.out.get 0 rfl) h40.out) rfl ?_)
      | (with_reducible refine at_op (op := ⟨some 29, _, _, _, _, _⟩) ?_; refine wpl_held (op := ⟨some 29, _, _, _, _, _⟩) (.agg (C).toArray) (held_loadf aggS _ rfl g2 rfl _ (C) (H.out.get 0 rfl) h40.out) rfl ?_)
      | (go_at_call 15; with_reducible refine (henc.out _).mono ?_; rintro e Wc ⟨rfl, hbc⟩; replace H := hide (H.out.call hbc); clear hbc)
      | ((with_reducible refine wpl_alloca (op := ⟨some 7, _, _, _, _, _⟩) rfl _ rfl _ zero64 ?_); intro g7 W1 hB1 hg1 hF1)
      | ((with_reducible refine wpl_storea agg64b rfl (.tmp 7) (.tmp 31) rfl g7 (cellsB X) rfl rfl _ _ hB1 h64.out z64_len (cellsB_one _) ?_); intro W2 hB2 hF2; replace H := hide (H.out.var hg1 hF1 hF2 hB2); clear hB1 hg1 hF1 hB2 hF2))
    obtain ⟨N, hN⟩ : ∃ N, N = W2.heap.size := ⟨_, rfl⟩
    have hq : Below N W2 W2 := hN ▸ Below.refl _ _
    have HA := hide (fun W' (h : Below N W2 W') => H.out.call (hN ▸ h))
    have HC := hide (fun W' (h : Below N W2 W') W'' (k : Below W'.heap.size W' W'') => h.trans (k.mono (by rw [hN]; exact h.size)))
    have hcw : ∀ W', Below N W2 W' → Calls Try.prog 16 #[.agg C.toArray] W' (fun e w'' => e = .returned (.string ⟨X.toArray⟩) ∧ Below N W2 w'') := fun W' h => (hwr.out W').mono (fun e w'' ⟨he, hb⟩ => ⟨he, HC.out W' h w'' hb⟩)
    clear hN
    refine wp_region_class (fun W' => Below N W2 W') (by kernel_rfl) (by kernel_rfl) (below_drewN hq 1) ?_
    with_reducible refine wpQuiet_step ?_
    intro K hK
    go_simp
    first | (refine hK _ ?_; clear hK K) | (refine ⟨_, fun w' hw' => rfl, hK _ ?_⟩; clear hK K)
    with_reducible refine wpQuiet_step ?_
    intro K hK
    go_simp
    first | (refine hK _ ?_; clear hK K) | (refine ⟨_, fun w' hw' => rfl, hK _ ?_⟩; clear hK K)
    with_reducible refine wpQuiet_step ?_
    intro K hK
    go_simp
    first | (refine hK _ ?_; clear hK K) | (refine ⟨_, fun w' hw' => rfl, hK _ ?_⟩; clear hK K)
    with_reducible refine wpQuiet_step ?_
    intro K hK
    go_simp
    first | (refine hK _ ?_; clear hK K) | (refine ⟨_, fun w' hw' => rfl, hK _ ?_⟩; clear hK K)
    with_reducible refine wpQuiet_step ?_
    intro K hK
    go_simp
    first | (refine hK _ ?_; clear hK K) | (refine ⟨_, fun w' hw' => rfl, hK _ ?_⟩; clear hK K)
    with_reducible refine wpQuiet_step ?_
    intro K hK
    go_simp
    first | (refine hK _ ?_; clear hK K) | (refine ⟨_, fun w' hw' => rfl, hK _ ?_⟩; clear hK K)
    with_reducible refine wpQuiet_step ?_
    intro K hK
    refine quiet_val (.string ⟨(X).toArray⟩) (fun w' hw' => held_convm _ rfl g7 0 64 64 rfl (X) (((HA.out w' hw').get 2 rfl).mid 0 64 (X) (full_take h64.out) hX64.out)) ?_ rfl
    go_simp
    refine hK _ ?_
    clear hK K
    with_reducible refine wpQuiet_step ?_
    intro K hK
    refine quiet_val (.agg (C).toArray) (fun w' hw' => held_loadf aggS _ rfl g2 rfl _ (C) ((HA.out w' hw').get 0 rfl) h40.out) ?_ rfl
    go_simp
    refine hK _ ?_
    clear hK K
    with_reducible refine wpQuiet_step ?_
    intro K hK
    go_simp
    refine ⟨_, hcw, hK _ ?_⟩
    clear hK K
    with_reducible refine wpQuiet_step ?_
    intro K hK
    go_simp
    first | (refine hK _ ?_; clear hK K) | (refine ⟨_, fun w' hw' => rfl, hK _ ?_⟩; clear hK K)
    with_reducible refine wpQuiet_step ?_
    intro K hK
    go_simp
    first | (refine hK _ ?_; clear hK K) | (refine ⟨_, fun w' hw' => rfl, hK _ ?_⟩; clear hK K)
    with_reducible refine wpQuiet_step ?_
    intro K hK
    go_simp
    first | (refine hK _ ?_; clear hK K) | (refine ⟨_, fun w' hw' => rfl, hK _ ?_⟩; clear hK K)
    with_reducible refine wpQuiet_step ?_
    intro K hK
    go_simp
    first | (refine hK _ ?_; clear hK K) | (refine ⟨_, fun w' hw' => rfl, hK _ ?_⟩; clear hK K)
    with_reducible refine wpQuiet_step ?_
    intro K hK
    go_simp
    first | (refine hK _ ?_; clear hK K) | (refine ⟨_, fun w' hw' => rfl, hK _ ?_⟩; clear hK K)
    with_reducible refine wpQuiet_step ?_
    intro K hK
    go_simp
    first | (refine hK _ ?_; clear hK K) | (refine ⟨_, fun w' hw' => rfl, hK _ ?_⟩; clear hK K)
    with_reducible refine wpQuiet_step ?_
    intro K hK
    go_simp
    first | (refine hK _ ?_; clear hK K) | (refine ⟨_, fun w' hw' => rfl, hK _ ?_⟩; clear hK K)
    with_reducible refine wpQuiet_step ?_
    intro K hK
    go_simp
    refine hK _ ?_
    clear hK K
    with_reducible refine wpQuiet_step ?_
    intro K hK
    go_simp
    refine hK _ ?_
    clear hK K
    with_reducible refine wpQuiet_step ?_
    intro K hK
    go_simp
    refine hK _ ?_
    clear hK K
    with_reducible refine wpQuiet_step ?_
    intro K hK
    go_simp
    refine hK _ ?_
    clear hK K
    with_reducible refine wpQuiet_step ?_
    intro K hK
    go_simp
    refine hK _ ?_
    clear hK K
    with_reducible refine wpQuiet_step ?_
    intro K hK
    go_simp
    refine hK _ ?_
    clear hK K
    with_reducible refine wpQuiet_step ?_
    intro K hK
    go_simp
    refine hK _ ?_
    clear hK K
    with_reducible refine wpQuiet_step ?_
    intro K hK
    go_simp
    first | (refine hK _ ?_; clear hK K) | (refine ⟨_, fun w' hw' => rfl, hK _ ?_⟩; clear hK K)
    with_reducible refine wpQuiet_step ?_
    intro K hK
    go_simp
    first | (refine hK _ ?_; clear hK K) | (refine ⟨_, fun w' hw' => rfl, hK _ ?_⟩; clear hK K)
    refine wpQuiet_nil ?_
    clear hq
    intro wq hwq
    replace H := hide (HA.out wq hwq)
    clear HA HC hwq
    go_wp2_with (first
      | (with_reducible refine at_op (op := ⟨some 59, _, _, _, _, _⟩) ?_; refine wpl_held (op := ⟨some 59, _, _, _, _, _⟩) (.agg (cellsB b).toArray) (held_loadf agg64b _ rfl g3 rfl _ (cellsB b) (H.out.get 1 rfl) hb64.out) rfl ?_)
      | (go_at_call 17; with_reducible refine (hdec.out _).mono ?_; rintro e Wc ⟨rfl, hbc⟩; replace H := hide (H.out.call hbc); clear hbc)
      | ((with_reducible refine wpl_alloca (op := ⟨some 9, _, _, _, _, _⟩) rfl _ rfl _ zeroS ?_); intro g9 W1 hB1 hg1 hF1)
      | ((with_reducible refine wpl_storea aggS rfl (.tmp 9) (.tmp 61) rfl g9 (D) rfl rfl _ _ hB1 hD40.out slot0_len (hDone.out) ?_); intro W2 hB2 hF2; replace H := hide (H.out.var hg1 hF1 hF2 hB2); clear hB1 hg1 hF1 hB2 hF2)
      | (with_reducible refine at_op (op := ⟨some 65, _, _, _, _, _⟩) ?_; refine wpl_held (op := ⟨some 65, _, _, _, _, _⟩) (.string ⟨(b).toArray⟩) (held_convm _ rfl g3 0 64 64 rfl (b) ((H.out.get 1 rfl).mid 0 64 (b) (full_take hb64.out) hbl.out)) rfl ?_)
      | (go_at_call 18; with_reducible refine (hread.out _).mono ?_; rintro e Wc ⟨rfl, hbc⟩; replace H := hide (H.out.call hbc); clear hbc)
      | ((with_reducible refine wpl_alloca (op := ⟨some 11, _, _, _, _, _⟩) rfl _ rfl _ zeroS ?_); intro g11 W1 hB1 hg1 hF1)
      | ((with_reducible refine wpl_storea aggS rfl (.tmp 11) (.tmp 67) rfl g11 (D) rfl rfl _ _ hB1 hD40.out slot0_len (hDone.out) ?_); intro W2 hB2 hF2; replace H := hide (H.out.var hg1 hF1 hF2 hB2); clear hB1 hg1 hF1 hB2 hF2)
      | (with_reducible refine at_op (op := ⟨some 71, _, _, _, _, _⟩) ?_; refine wpl_held (op := ⟨some 71, _, _, _, _, _⟩) (.agg (D).toArray) (held_loadf aggS _ rfl g9 rfl _ (D) (H.out.get 3 rfl) hD40.out) rfl ?_)
      | (with_reducible refine at_op (op := ⟨some 72, _, _, _, _, _⟩) ?_; refine wpl_held (op := ⟨some 72, _, _, _, _, _⟩) (.agg (D).toArray) (held_loadf aggS _ rfl g11 rfl _ (D) (H.out.get 4 rfl) hD40.out) rfl ?_)
      | (with_reducible refine at_op (op := ⟨some 73, _, _, _, _, _⟩) ?_; refine wpl_held (op := ⟨some 73, _, _, _, _, _⟩) (.bool true) (held_eql _ _ _ _ rfl (D) (D) rfl rfl (true) (hDD.out _) Try.eqGuardType32) rfl ?_))
    go_ret
    exact ⟨rfl, H.out.bel⟩
end Go.Proofs.Ytedodbejbkdplaa
