/-
  SlotBack: the walk.
-/
import Derived.Test.YtedodbejbkdplaaSlSh
namespace Go.Proofs.Ytedodbejbkdplaa
set_option linter.unusedVariables false
set_option linter.unusedSimpArgs false
open Go.RowKit

theorem right_back {s : Slot} (hs : s.ok) (h : rightB s = true) : ansM (outM s) = s ∧ errD (outM s) = 0 := by
  have hr := rightB_iff.1 h
  have ho : outM s = encM s := by unfold outM; rw [if_pos h]
  have hd := dec_enc hs hr.2
  have hk : okB (encM s) = true := by unfold okB; rw [hd, h]; simp
  rw [ho]
  exact ⟨by unfold ansM; rw [if_pos hk, hd], by unfold errD; rw [if_pos hk]⟩
theorem right_same {s t : Slot} (hs : s.ok) (ht : t.ok) (h1 : rightB s = true) (h2 : rightB t = true) : (outM s == outM t) = slotEq s t := by
  cases he : slotEq s t
  · rw [Bool.eq_false_iff]
    intro h
    have h : outM s = outM t := by simpa using h
    have e1 := (right_back hs h1).1
    have e2 := (right_back ht h2).1
    rw [h, e2] at e1
    exact slotEq_false.1 he e1.symm
  · have := slotEq_iff.1 he
    subst this
    simp
theorem ok_back {b : List UInt8} (h : okB b = true) : rightB (ansM b) = true ∧ outM (ansM b) = b ∧ errR (ansM b) = 0 := by
  have ha : ansM b = decM b := by unfold ansM; rw [if_pos h]
  unfold okB at h
  rw [Bool.and_eq_true, beq_iff_eq] at h
  rw [ha]
  exact ⟨h.1, by unfold outM; rw [if_pos h.1]; exact h.2, by unfold errR; rw [if_pos h.1]⟩

set_option maxHeartbeats 16000000 in
set_option maxRecDepth 100000 in
theorem back_walk (s : Slot) (hs : s.ok) (t : Slot) (ht : t.ok) (b : List UInt8) (hb : b.length = 64) (w : World) : Calls Try.prog 4 #[.agg (slotC s).toArray, .agg (slotC t).toArray, .agg (cellsB b).toArray] w fun e w' => e = .returned (.bool true) ∧ Below w.heap.size w w' := by
  have hsh := hide shown_any
  have hen1 := hide (encode_any s hs)
  have hen2 := hide (encode_any t ht)
  have hdX := hide (decode_any (outM s) (outM_length hs))
  have hdb := hide (decode_any b hb)
  have hback := hide (fun h => right_back hs (h : rightB s = true))
  have hsame := hide (fun h1 h2 => right_same hs ht (h1 : rightB s = true) (h2 : rightB t = true))
  have h1 := hide (slotC_length s hs.nonce hs.mac)
  have h1o := hide (slotC_one s)
  have h2 := hide (slotC_length t ht.nonce ht.mac)
  have hD := hide (slotC_length _ (ansM_ok hb).nonce (ansM_ok hb).mac)
  have hDo := hide (slotC_one (ansM b))
  have h11 : Hid (∀ w, (Op.equalIn 10000 32 (.agg (slotC s).toArray) (.agg (slotC s).toArray)).run Try.prog w = .ok true w) := fun w => by
    have h := eq_slot hs hs w
    rw [show slotEq s s = true from slotEq_iff.2 rfl] at h
    exact h
  have hDD : Hid (∀ w, (Op.equalIn 10000 32 (.agg (slotC (ansM b)).toArray) (.agg (slotC (ansM b)).toArray)).run Try.prog w = .ok true w) := fun w => by
    have h := eq_slot (ansM_ok hb) (ansM_ok hb) w
    rw [show slotEq (ansM b) (ansM b) = true from slotEq_iff.2 rfl] at h
    exact h
  have hST := hide (eq_slot hs ht)
  have hXY := hide (fun w => eq_bytes 9998 under64b (outM s) (outM t) (outM_length hs) (outM_length ht) w)
  have hb64 : Hid ((cellsB b).length = 64) := by show _ = _; rw [cellsB_length]; exact hb
  have hX : Hid ((cellsB (outM s)).length = 64) := by show _ = _; rw [cellsB_length]; exact outM_length hs
  have hY : Hid ((cellsB (outM t)).length = 64) := by show _ = _; rw [cellsB_length]; exact outM_length ht
  have hbb : Hid (∀ w, (Op.equalIn 10000 33 (.agg (cellsB b).toArray) (.agg (cellsB b).toArray)).run Try.prog w = .ok true w) := fun w => by
    have h := eq_bytes 9998 under64b b b hb hb w
    rw [show (b == b) = true by simp] at h
    exact h
  have hen3 : Hid (okB b = true → ∀ w, Calls Try.prog 15 #[.agg (slotC (ansM b)).toArray] w fun e w' => e = .returned (.tuple #[.agg (cellsB b).toArray, .int .i64 0]) ∧ Below w.heap.size w w') := fun h w => by
    have k := encode_any (ansM b) (ansM_ok hb) w
    rw [(ok_back h).2.1, (ok_back h).2.2] at k
    exact k
  have hri3 : Hid (okB b = true → ∀ w, Calls Try.prog 14 #[.agg (slotC (ansM b)).toArray] w fun e w' => e = .returned (.int .i64 0) ∧ Below w.heap.size w w') := fun h w => by
    have k := right_any (ansM b) (ansM_ok hb) w
    rw [(ok_back h).2.2] at k
    exact k
  have hbd := build_slot0
  have hDe : Hid (slotC (ansM b) = if okB b = true then slotC (decM b) else slotC slot0) := by show _ = _; unfold ansM; split <;> rfl
  have hF : Hid (errD b = if okB b = true then 0 else 3) := rfl
  have he1 : Hid (errR s = if rightB s = true then 0 else 1) := rfl
  have he2 : Hid (errR t = if rightB t = true then 0 else 1) := rfl
  have hback1 : Hid (rightB s = true → slotC (ansM (outM s)) = slotC s ∧ errD (outM s) = 0) := fun h => ⟨by rw [(hback.out h).1], (hback.out h).2⟩
  clear hs ht hb hback
  generalize slotC (ansM (outM s)) = CX at *
  generalize errD (outM s) = FX at *
  generalize slotC (ansM b) = D at *
  generalize errD b = F at *
  generalize okB b = OK at *
  generalize errR s = E1 at *
  generalize errR t = E2 at *
  generalize slotC s = C1 at *
  generalize slotC t = C2 at *
  generalize outM s = X at *
  generalize outM t = Y at *
  generalize slotEq s t = bE at *
  generalize rightB s = R1 at *
  generalize rightB t = R2 at *
  have hbd' := hide hbd
  clear hbd
  have hbd := hbd'
  clear hbd'
  cases R1
  · have h : E1 = 1 := he1.out
    subst h
    clear he1 hback1 hsame hST hXY
    generalize (if R2 = true then (0 : Int) else 1) = e2 at *
    clear he2
    cases OK
    · have hf : F = 3 := hF.out
      have hA : D = slotC slot0 := hDe.out
      rw [← hA] at hbd
      subst hf
      clear hF hen3 hri3 hDe hA
      have H := hide (At.start w)
      go_enter Try.func4, Try.ntmps4
      go_wp2_with (first
        | (with_reducible refine at_op (op := ⟨some 3, _, _, _, _, _⟩) ?_; (refine wpl_boxa (op := ⟨some 3, _, _, _, _, _⟩) rfl _ _ rfl (C1) rfl ?_); intro g3 W1 hB1 hg1 hF1; replace H := hide (H.out.box hg1 hF1 hB1); clear hB1 hg1 hF1)
        | (with_reducible refine at_op (op := ⟨some 4, _, _, _, _, _⟩) ?_; (refine wpl_boxa (op := ⟨some 4, _, _, _, _, _⟩) rfl _ _ rfl (C2) rfl ?_); intro g4 W1 hB1 hg1 hF1; replace H := hide (H.out.box hg1 hF1 hB1); clear hB1 hg1 hF1)
        | (with_reducible refine at_op (op := ⟨some 5, _, _, _, _, _⟩) ?_; (refine wpl_boxa (op := ⟨some 5, _, _, _, _, _⟩) rfl _ _ rfl (cellsB b) rfl ?_); intro g5 W1 hB1 hg1 hF1; replace H := hide (H.out.box hg1 hF1 hB1); clear hB1 hg1 hF1)
        | (go_at_call 12; with_reducible refine (hsh.out _).mono ?_; rintro e Wc ⟨rfl, hbc⟩; replace H := hide (H.out.call hbc); clear hbc)
        | (with_reducible refine at_op (op := ⟨some 20, _, _, _, _, _⟩) ?_; refine wpl_held (op := ⟨some 20, _, _, _, _, _⟩) (.agg (C1).toArray) (held_loadf aggS _ rfl g3 rfl _ (C1) (H.out.get 0 rfl) h1.out) rfl ?_)
        | (go_at_call 15; with_reducible refine (hen1.out _).mono ?_; rintro e Wc ⟨rfl, hbc⟩; replace H := hide (H.out.call hbc); clear hbc)
        | ((with_reducible refine wpl_alloca (op := ⟨some 8, _, _, _, _, _⟩) rfl _ rfl _ zero64 ?_); intro g8 W1 hB1 hg1 hF1)
        | ((with_reducible refine wpl_storea agg64b rfl (.tmp 8) (.tmp 22) rfl g8 (cellsB X) rfl rfl _ _ hB1 hX.out z64_len (cellsB_one _) ?_); intro W2 hB2 hF2; replace H := hide (H.out.var hg1 hF1 hF2 hB2); clear hB1 hg1 hF1 hB2 hF2)
        | (with_reducible refine at_op (op := ⟨some 25, _, _, _, _, _⟩) ?_; refine wpl_held (op := ⟨some 25, _, _, _, _, _⟩) (.agg (C2).toArray) (held_loadf aggS _ rfl g4 rfl _ (C2) (H.out.get 1 rfl) h2.out) rfl ?_)
        | (go_at_call 15; with_reducible refine (hen2.out _).mono ?_; rintro e Wc ⟨rfl, hbc⟩; replace H := hide (H.out.call hbc); clear hbc)
        | ((with_reducible refine wpl_alloca (op := ⟨some 10, _, _, _, _, _⟩) rfl _ rfl _ zero64 ?_); intro g10 W1 hB1 hg1 hF1)
        | ((with_reducible refine wpl_storea agg64b rfl (.tmp 10) (.tmp 27) rfl g10 (cellsB Y) rfl rfl _ _ hB1 hY.out z64_len (cellsB_one _) ?_); intro W2 hB2 hF2; replace H := hide (H.out.var hg1 hF1 hF2 hB2); clear hB1 hg1 hF1 hB2 hF2))
      obtain ⟨N, hN⟩ : ∃ N, N = W2.heap.size := ⟨_, rfl⟩
      have hq : Below N W2 W2 := hN ▸ Below.refl _ _
      have HA := hide (fun W' (h : Below N W2 W') => H.out.call (hN ▸ h))
      have HC := hide (fun W' (h : Below N W2 W') W'' (k : Below W'.heap.size W' W'') => h.trans (k.mono (by rw [hN]; exact h.size)))
      clear hN
      refine wp_region_class (fun W' => Below N W2 W') (by kernel_rfl) (by kernel_rfl) (below_drewN hq 1) ?_
      with_reducible refine wpQuiet_step ?_
      intro K hK
      go_simp
      first | (refine hK _ ?_; clear hK K) | (refine ⟨_, fun w' hw' => rfl, hK _ ?_⟩; clear hK K)
      with_reducible refine wpQuiet_step ?_
      intro K hK
      go_simp
      first | (refine hK _ ?_; clear hK K) | (refine ⟨_, fun w' hw' => rfl, hK _ ?_⟩; clear hK K)
      with_reducible refine wpQuiet_step ?_
      intro K hK
      go_simp
      first | (refine hK _ ?_; clear hK K) | (refine ⟨_, fun w' hw' => rfl, hK _ ?_⟩; clear hK K)
      with_reducible refine wpQuiet_step ?_
      intro K hK
      go_simp
      refine hK _ ?_
      clear hK K
      with_reducible refine wpQuiet_step ?_
      intro K hK
      go_simp
      refine hK _ ?_
      clear hK K
      with_reducible refine wpQuiet_step ?_
      intro K hK
      go_simp
      first | (refine hK _ ?_; clear hK K) | (refine ⟨_, fun w' hw' => rfl, hK _ ?_⟩; clear hK K)
      with_reducible refine wpQuiet_step ?_
      intro K hK
      go_simp
      first | (refine hK _ ?_; clear hK K) | (refine ⟨_, fun w' hw' => rfl, hK _ ?_⟩; clear hK K)
      with_reducible refine wpQuiet_step ?_
      intro K hK
      go_simp
      refine hK _ ?_
      clear hK K
      with_reducible refine wpQuiet_step ?_
      intro K hK
      go_simp
      refine hK _ ?_
      clear hK K
      with_reducible refine wpQuiet_step ?_
      intro K hK
      go_simp
      refine hK _ ?_
      clear hK K
      with_reducible refine wpQuiet_step ?_
      intro K hK
      go_simp
      refine hK _ ?_
      clear hK K
      with_reducible refine wpQuiet_step ?_
      intro K hK
      go_simp
      refine hK _ ?_
      clear hK K
      with_reducible refine wpQuiet_step ?_
      intro K hK
      go_simp
      refine hK _ ?_
      clear hK K
      with_reducible refine wpQuiet_step ?_
      intro K hK
      go_simp
      refine hK _ ?_
      clear hK K
      with_reducible refine wpQuiet_step ?_
      intro K hK
      go_simp
      first | (refine hK _ ?_; clear hK K) | (refine ⟨_, fun w' hw' => rfl, hK _ ?_⟩; clear hK K)
      refine wpQuiet_nil ?_
      clear hq
      intro wq hwq
      replace H := hide (HA.out wq hwq)
      clear HA HC hwq
      go_wp2_with (first
        | (with_reducible refine at_op (op := ⟨some 59, _, _, _, _, _⟩) ?_; refine wpl_held (op := ⟨some 59, _, _, _, _, _⟩) (.agg (cellsB b).toArray) (held_loadf agg64b _ rfl g5 rfl _ (cellsB b) (H.out.get 2 rfl) hb64.out) rfl ?_)
        | (go_at_call 17; with_reducible refine (hdb.out _).mono ?_; rintro e Wc ⟨rfl, hbc⟩; replace H := hide (H.out.call hbc); clear hbc)
        | ((with_reducible refine wpl_alloca (op := ⟨some 14, _, _, _, _, _⟩) rfl _ rfl _ zeroS ?_); intro g14 W1 hB1 hg1 hF1)
        | ((with_reducible refine wpl_storea aggS rfl (.tmp 14) (.tmp 61) rfl g14 (D) rfl rfl _ _ hB1 hD.out slot0_len (hDo.out) ?_); intro W2 hB2 hF2; replace H := hide (H.out.var hg1 hF1 hF2 hB2); clear hB1 hg1 hF1 hB2 hF2)
        | (with_reducible refine at_op (op := ⟨some 67, _, _, _, _, _⟩) ?_; refine wpl_held (op := ⟨some 67, _, _, _, _, _⟩) (.agg (D).toArray) (held_loadf aggS _ rfl g14 rfl _ (D) (H.out.get 5 rfl) hD.out) rfl ?_)
        | (with_reducible refine at_op (op := ⟨some 68, _, _, _, _, _⟩) ?_; refine wpl_held (op := ⟨some 68, _, _, _, _, _⟩) (.agg (D).toArray) (held_build _ _ rfl _ _ (hbd.out _) rfl) rfl ?_)
        | (with_reducible refine at_op (op := ⟨some 69, _, _, _, _, _⟩) ?_; refine wpl_held (op := ⟨some 69, _, _, _, _, _⟩) (.bool true) (held_eql _ _ _ _ rfl (D) (D) rfl rfl (true) (hDD.out _) Try.eqGuardType32) rfl ?_))
      go_ret
      exact ⟨rfl, H.out.bel⟩
    · have hf : F = 0 := hF.out
      subst hf
      replace hen3 := hide (hen3.out rfl)
      replace hri3 := hide (hri3.out rfl)
      clear hF hbd hDe
      have H := hide (At.start w)
      go_enter Try.func4, Try.ntmps4
      go_wp2_with (first
        | (with_reducible refine at_op (op := ⟨some 3, _, _, _, _, _⟩) ?_; (refine wpl_boxa (op := ⟨some 3, _, _, _, _, _⟩) rfl _ _ rfl (C1) rfl ?_); intro g3 W1 hB1 hg1 hF1; replace H := hide (H.out.box hg1 hF1 hB1); clear hB1 hg1 hF1)
        | (with_reducible refine at_op (op := ⟨some 4, _, _, _, _, _⟩) ?_; (refine wpl_boxa (op := ⟨some 4, _, _, _, _, _⟩) rfl _ _ rfl (C2) rfl ?_); intro g4 W1 hB1 hg1 hF1; replace H := hide (H.out.box hg1 hF1 hB1); clear hB1 hg1 hF1)
        | (with_reducible refine at_op (op := ⟨some 5, _, _, _, _, _⟩) ?_; (refine wpl_boxa (op := ⟨some 5, _, _, _, _, _⟩) rfl _ _ rfl (cellsB b) rfl ?_); intro g5 W1 hB1 hg1 hF1; replace H := hide (H.out.box hg1 hF1 hB1); clear hB1 hg1 hF1)
        | (go_at_call 12; with_reducible refine (hsh.out _).mono ?_; rintro e Wc ⟨rfl, hbc⟩; replace H := hide (H.out.call hbc); clear hbc)
        | (with_reducible refine at_op (op := ⟨some 20, _, _, _, _, _⟩) ?_; refine wpl_held (op := ⟨some 20, _, _, _, _, _⟩) (.agg (C1).toArray) (held_loadf aggS _ rfl g3 rfl _ (C1) (H.out.get 0 rfl) h1.out) rfl ?_)
        | (go_at_call 15; with_reducible refine (hen1.out _).mono ?_; rintro e Wc ⟨rfl, hbc⟩; replace H := hide (H.out.call hbc); clear hbc)
        | ((with_reducible refine wpl_alloca (op := ⟨some 8, _, _, _, _, _⟩) rfl _ rfl _ zero64 ?_); intro g8 W1 hB1 hg1 hF1)
        | ((with_reducible refine wpl_storea agg64b rfl (.tmp 8) (.tmp 22) rfl g8 (cellsB X) rfl rfl _ _ hB1 hX.out z64_len (cellsB_one _) ?_); intro W2 hB2 hF2; replace H := hide (H.out.var hg1 hF1 hF2 hB2); clear hB1 hg1 hF1 hB2 hF2)
        | (with_reducible refine at_op (op := ⟨some 25, _, _, _, _, _⟩) ?_; refine wpl_held (op := ⟨some 25, _, _, _, _, _⟩) (.agg (C2).toArray) (held_loadf aggS _ rfl g4 rfl _ (C2) (H.out.get 1 rfl) h2.out) rfl ?_)
        | (go_at_call 15; with_reducible refine (hen2.out _).mono ?_; rintro e Wc ⟨rfl, hbc⟩; replace H := hide (H.out.call hbc); clear hbc)
        | ((with_reducible refine wpl_alloca (op := ⟨some 10, _, _, _, _, _⟩) rfl _ rfl _ zero64 ?_); intro g10 W1 hB1 hg1 hF1)
        | ((with_reducible refine wpl_storea agg64b rfl (.tmp 10) (.tmp 27) rfl g10 (cellsB Y) rfl rfl _ _ hB1 hY.out z64_len (cellsB_one _) ?_); intro W2 hB2 hF2; replace H := hide (H.out.var hg1 hF1 hF2 hB2); clear hB1 hg1 hF1 hB2 hF2))
      obtain ⟨N, hN⟩ : ∃ N, N = W2.heap.size := ⟨_, rfl⟩
      have hq : Below N W2 W2 := hN ▸ Below.refl _ _
      have HA := hide (fun W' (h : Below N W2 W') => H.out.call (hN ▸ h))
      have HC := hide (fun W' (h : Below N W2 W') W'' (k : Below W'.heap.size W' W'') => h.trans (k.mono (by rw [hN]; exact h.size)))
      clear hN
      refine wp_region_class (fun W' => Below N W2 W') (by kernel_rfl) (by kernel_rfl) (below_drewN hq 1) ?_
      with_reducible refine wpQuiet_step ?_
      intro K hK
      go_simp
      first | (refine hK _ ?_; clear hK K) | (refine ⟨_, fun w' hw' => rfl, hK _ ?_⟩; clear hK K)
      with_reducible refine wpQuiet_step ?_
      intro K hK
      go_simp
      first | (refine hK _ ?_; clear hK K) | (refine ⟨_, fun w' hw' => rfl, hK _ ?_⟩; clear hK K)
      with_reducible refine wpQuiet_step ?_
      intro K hK
      go_simp
      first | (refine hK _ ?_; clear hK K) | (refine ⟨_, fun w' hw' => rfl, hK _ ?_⟩; clear hK K)
      with_reducible refine wpQuiet_step ?_
      intro K hK
      go_simp
      refine hK _ ?_
      clear hK K
      with_reducible refine wpQuiet_step ?_
      intro K hK
      go_simp
      refine hK _ ?_
      clear hK K
      with_reducible refine wpQuiet_step ?_
      intro K hK
      go_simp
      first | (refine hK _ ?_; clear hK K) | (refine ⟨_, fun w' hw' => rfl, hK _ ?_⟩; clear hK K)
      with_reducible refine wpQuiet_step ?_
      intro K hK
      go_simp
      first | (refine hK _ ?_; clear hK K) | (refine ⟨_, fun w' hw' => rfl, hK _ ?_⟩; clear hK K)
      with_reducible refine wpQuiet_step ?_
      intro K hK
      go_simp
      refine hK _ ?_
      clear hK K
      with_reducible refine wpQuiet_step ?_
      intro K hK
      go_simp
      refine hK _ ?_
      clear hK K
      with_reducible refine wpQuiet_step ?_
      intro K hK
      go_simp
      refine hK _ ?_
      clear hK K
      with_reducible refine wpQuiet_step ?_
      intro K hK
      go_simp
      refine hK _ ?_
      clear hK K
      with_reducible refine wpQuiet_step ?_
      intro K hK
      go_simp
      refine hK _ ?_
      clear hK K
      with_reducible refine wpQuiet_step ?_
      intro K hK
      go_simp
      refine hK _ ?_
      clear hK K
      with_reducible refine wpQuiet_step ?_
      intro K hK
      go_simp
      refine hK _ ?_
      clear hK K
      with_reducible refine wpQuiet_step ?_
      intro K hK
      go_simp
      first | (refine hK _ ?_; clear hK K) | (refine ⟨_, fun w' hw' => rfl, hK _ ?_⟩; clear hK K)
      refine wpQuiet_nil ?_
      clear hq
      intro wq hwq
      replace H := hide (HA.out wq hwq)
      clear HA HC hwq
      go_wp2_with (first
        | (with_reducible refine at_op (op := ⟨some 59, _, _, _, _, _⟩) ?_; refine wpl_held (op := ⟨some 59, _, _, _, _, _⟩) (.agg (cellsB b).toArray) (held_loadf agg64b _ rfl g5 rfl _ (cellsB b) (H.out.get 2 rfl) hb64.out) rfl ?_)
        | (go_at_call 17; with_reducible refine (hdb.out _).mono ?_; rintro e Wc ⟨rfl, hbc⟩; replace H := hide (H.out.call hbc); clear hbc)
        | ((with_reducible refine wpl_alloca (op := ⟨some 14, _, _, _, _, _⟩) rfl _ rfl _ zeroS ?_); intro g14 W1 hB1 hg1 hF1)
        | ((with_reducible refine wpl_storea aggS rfl (.tmp 14) (.tmp 61) rfl g14 (D) rfl rfl _ _ hB1 hD.out slot0_len (hDo.out) ?_); intro W2 hB2 hF2; replace H := hide (H.out.var hg1 hF1 hF2 hB2); clear hB1 hg1 hF1 hB2 hF2)
        | (with_reducible refine at_op (op := ⟨some 67, _, _, _, _, _⟩) ?_; refine wpl_held (op := ⟨some 67, _, _, _, _, _⟩) (.agg (D).toArray) (held_loadf aggS _ rfl g14 rfl _ (D) (H.out.get 5 rfl) hD.out) rfl ?_)
        | (with_reducible refine at_op (op := ⟨some 72, _, _, _, _, _⟩) ?_; refine wpl_held (op := ⟨some 72, _, _, _, _, _⟩) (.agg (D).toArray) (held_loadf aggS _ rfl g14 rfl _ (D) (H.out.get 5 rfl) hD.out) rfl ?_)
        | (go_at_call 15; with_reducible refine (hen3.out _).mono ?_; rintro e Wc ⟨rfl, hbc⟩; replace H := hide (H.out.call hbc); clear hbc)
        | ((with_reducible refine wpl_alloca (op := ⟨some 16, _, _, _, _, _⟩) rfl _ rfl _ zero64 ?_); intro g16 W1 hB1 hg1 hF1)
        | ((with_reducible refine wpl_storea agg64b rfl (.tmp 16) (.tmp 74) rfl g16 (cellsB b) rfl rfl _ _ hB1 hb64.out z64_len (cellsB_one _) ?_); intro W2 hB2 hF2; replace H := hide (H.out.var hg1 hF1 hF2 hB2); clear hB1 hg1 hF1 hB2 hF2)
        | (with_reducible refine at_op (op := ⟨some 78, _, _, _, _, _⟩) ?_; refine wpl_held (op := ⟨some 78, _, _, _, _, _⟩) (.agg (cellsB b).toArray) (held_loadf agg64b _ rfl g16 rfl _ (cellsB b) (H.out.get 6 rfl) hb64.out) rfl ?_)
        | (with_reducible refine at_op (op := ⟨some 79, _, _, _, _, _⟩) ?_; refine wpl_held (op := ⟨some 79, _, _, _, _, _⟩) (.agg (cellsB b).toArray) (held_loadf agg64b _ rfl g5 rfl _ (cellsB b) (H.out.get 2 rfl) hb64.out) rfl ?_)
        | (with_reducible refine at_op (op := ⟨some 80, _, _, _, _, _⟩) ?_; refine wpl_held (op := ⟨some 80, _, _, _, _, _⟩) (.bool true) (held_eql _ _ _ _ rfl (cellsB b) (cellsB b) rfl rfl (true) (hbb.out _) Try.eqGuardType33) rfl ?_)
        | (with_reducible refine at_op (op := ⟨some 87, _, _, _, _, _⟩) ?_; refine wpl_held (op := ⟨some 87, _, _, _, _, _⟩) (.agg (D).toArray) (held_loadf aggS _ rfl g14 rfl _ (D) (H.out.get 5 rfl) hD.out) rfl ?_)
        | (go_at_call 14; with_reducible refine (hri3.out _).mono ?_; rintro e Wc ⟨rfl, hbc⟩; replace H := hide (H.out.call hbc); clear hbc))
      go_ret
      exact ⟨rfl, H.out.bel⟩
  · have h : E1 = 0 := he1.out
    subst h
    have hcx := (hback1.out rfl).1.symm
    have hfx := (hback1.out rfl).2
    subst hcx hfx
    clear he1 hback1
    cases R2
    · have h : E2 = 1 := he2.out
      subst h
      clear he2 hsame hST hXY
      cases OK
      · have hf : F = 3 := hF.out
        have hA : D = slotC slot0 := hDe.out
        rw [← hA] at hbd
        subst hf
        clear hF hen3 hri3 hDe hA
        have H := hide (At.start w)
        go_enter Try.func4, Try.ntmps4
        go_wp2_with (first
          | (with_reducible refine at_op (op := ⟨some 3, _, _, _, _, _⟩) ?_; (refine wpl_boxa (op := ⟨some 3, _, _, _, _, _⟩) rfl _ _ rfl (C1) rfl ?_); intro g3 W1 hB1 hg1 hF1; replace H := hide (H.out.box hg1 hF1 hB1); clear hB1 hg1 hF1)
          | (with_reducible refine at_op (op := ⟨some 4, _, _, _, _, _⟩) ?_; (refine wpl_boxa (op := ⟨some 4, _, _, _, _, _⟩) rfl _ _ rfl (C2) rfl ?_); intro g4 W1 hB1 hg1 hF1; replace H := hide (H.out.box hg1 hF1 hB1); clear hB1 hg1 hF1)
          | (with_reducible refine at_op (op := ⟨some 5, _, _, _, _, _⟩) ?_; (refine wpl_boxa (op := ⟨some 5, _, _, _, _, _⟩) rfl _ _ rfl (cellsB b) rfl ?_); intro g5 W1 hB1 hg1 hF1; replace H := hide (H.out.box hg1 hF1 hB1); clear hB1 hg1 hF1)
          | (go_at_call 12; with_reducible refine (hsh.out _).mono ?_; rintro e Wc ⟨rfl, hbc⟩; replace H := hide (H.out.call hbc); clear hbc)
          | (with_reducible refine at_op (op := ⟨some 20, _, _, _, _, _⟩) ?_; refine wpl_held (op := ⟨some 20, _, _, _, _, _⟩) (.agg (C1).toArray) (held_loadf aggS _ rfl g3 rfl _ (C1) (H.out.get 0 rfl) h1.out) rfl ?_)
          | (go_at_call 15; with_reducible refine (hen1.out _).mono ?_; rintro e Wc ⟨rfl, hbc⟩; replace H := hide (H.out.call hbc); clear hbc)
          | ((with_reducible refine wpl_alloca (op := ⟨some 8, _, _, _, _, _⟩) rfl _ rfl _ zero64 ?_); intro g8 W1 hB1 hg1 hF1)
          | ((with_reducible refine wpl_storea agg64b rfl (.tmp 8) (.tmp 22) rfl g8 (cellsB X) rfl rfl _ _ hB1 hX.out z64_len (cellsB_one _) ?_); intro W2 hB2 hF2; replace H := hide (H.out.var hg1 hF1 hF2 hB2); clear hB1 hg1 hF1 hB2 hF2)
          | (with_reducible refine at_op (op := ⟨some 25, _, _, _, _, _⟩) ?_; refine wpl_held (op := ⟨some 25, _, _, _, _, _⟩) (.agg (C2).toArray) (held_loadf aggS _ rfl g4 rfl _ (C2) (H.out.get 1 rfl) h2.out) rfl ?_)
          | (go_at_call 15; with_reducible refine (hen2.out _).mono ?_; rintro e Wc ⟨rfl, hbc⟩; replace H := hide (H.out.call hbc); clear hbc)
          | ((with_reducible refine wpl_alloca (op := ⟨some 10, _, _, _, _, _⟩) rfl _ rfl _ zero64 ?_); intro g10 W1 hB1 hg1 hF1)
          | ((with_reducible refine wpl_storea agg64b rfl (.tmp 10) (.tmp 27) rfl g10 (cellsB Y) rfl rfl _ _ hB1 hY.out z64_len (cellsB_one _) ?_); intro W2 hB2 hF2; replace H := hide (H.out.var hg1 hF1 hF2 hB2); clear hB1 hg1 hF1 hB2 hF2)
          | (with_reducible refine at_op (op := ⟨some 32, _, _, _, _, _⟩) ?_; refine wpl_held (op := ⟨some 32, _, _, _, _, _⟩) (.agg (cellsB X).toArray) (held_loadf agg64b _ rfl g8 rfl _ (cellsB X) (H.out.get 3 rfl) hX.out) rfl ?_)
          | (go_at_call 17; with_reducible refine (hdX.out _).mono ?_; rintro e Wc ⟨rfl, hbc⟩; replace H := hide (H.out.call hbc); clear hbc)
          | ((with_reducible refine wpl_alloca (op := ⟨some 12, _, _, _, _, _⟩) rfl _ rfl _ zeroS ?_); intro g12 W1 hB1 hg1 hF1)
          | ((with_reducible refine wpl_storea aggS rfl (.tmp 12) (.tmp 34) rfl g12 (C1) rfl rfl _ _ hB1 h1.out slot0_len (h1o.out) ?_); intro W2 hB2 hF2; replace H := hide (H.out.var hg1 hF1 hF2 hB2); clear hB1 hg1 hF1 hB2 hF2)
          | (with_reducible refine at_op (op := ⟨some 36, _, _, _, _, _⟩) ?_; refine wpl_held (op := ⟨some 36, _, _, _, _, _⟩) (.agg (C1).toArray) (held_loadf aggS _ rfl g12 rfl _ (C1) (H.out.get 5 rfl) h1.out) rfl ?_)
          | (with_reducible refine at_op (op := ⟨some 37, _, _, _, _, _⟩) ?_; refine wpl_held (op := ⟨some 37, _, _, _, _, _⟩) (.agg (C1).toArray) (held_loadf aggS _ rfl g3 rfl _ (C1) (H.out.get 0 rfl) h1.out) rfl ?_)
          | (with_reducible refine at_op (op := ⟨some 38, _, _, _, _, _⟩) ?_; refine wpl_held (op := ⟨some 38, _, _, _, _, _⟩) (.bool (!true)) (held_neq _ _ _ _ rfl (C1) (C1) rfl rfl (true) (h11.out _) Try.eqGuardType32) rfl ?_))
        obtain ⟨N, hN⟩ : ∃ N, N = W2.heap.size := ⟨_, rfl⟩
        have hq : Below N W2 W2 := hN ▸ Below.refl _ _
        have HA := hide (fun W' (h : Below N W2 W') => H.out.call (hN ▸ h))
        have HC := hide (fun W' (h : Below N W2 W') W'' (k : Below W'.heap.size W' W'') => h.trans (k.mono (by rw [hN]; exact h.size)))
        clear hN
        refine wp_region_class (fun W' => Below N W2 W') (by kernel_rfl) (by kernel_rfl) (below_drewN hq 1) ?_
        with_reducible refine wpQuiet_step ?_
        intro K hK
        go_simp
        first | (refine hK _ ?_; clear hK K) | (refine ⟨_, fun w' hw' => rfl, hK _ ?_⟩; clear hK K)
        with_reducible refine wpQuiet_step ?_
        intro K hK
        go_simp
        first | (refine hK _ ?_; clear hK K) | (refine ⟨_, fun w' hw' => rfl, hK _ ?_⟩; clear hK K)
        with_reducible refine wpQuiet_step ?_
        intro K hK
        go_simp
        first | (refine hK _ ?_; clear hK K) | (refine ⟨_, fun w' hw' => rfl, hK _ ?_⟩; clear hK K)
        with_reducible refine wpQuiet_step ?_
        intro K hK
        go_simp
        first | (refine hK _ ?_; clear hK K) | (refine ⟨_, fun w' hw' => rfl, hK _ ?_⟩; clear hK K)
        with_reducible refine wpQuiet_step ?_
        intro K hK
        go_simp
        first | (refine hK _ ?_; clear hK K) | (refine ⟨_, fun w' hw' => rfl, hK _ ?_⟩; clear hK K)
        with_reducible refine wpQuiet_step ?_
        intro K hK
        go_simp
        first | (refine hK _ ?_; clear hK K) | (refine ⟨_, fun w' hw' => rfl, hK _ ?_⟩; clear hK K)
        with_reducible refine wpQuiet_step ?_
        intro K hK
        go_simp
        first | (refine hK _ ?_; clear hK K) | (refine ⟨_, fun w' hw' => rfl, hK _ ?_⟩; clear hK K)
        with_reducible refine wpQuiet_step ?_
        intro K hK
        go_simp
        refine hK _ ?_
        clear hK K
        with_reducible refine wpQuiet_step ?_
        intro K hK
        go_simp
        refine hK _ ?_
        clear hK K
        with_reducible refine wpQuiet_step ?_
        intro K hK
        go_simp
        refine hK _ ?_
        clear hK K
        with_reducible refine wpQuiet_step ?_
        intro K hK
        go_simp
        refine hK _ ?_
        clear hK K
        with_reducible refine wpQuiet_step ?_
        intro K hK
        go_simp
        refine hK _ ?_
        clear hK K
        with_reducible refine wpQuiet_step ?_
        intro K hK
        go_simp
        refine hK _ ?_
        clear hK K
        with_reducible refine wpQuiet_step ?_
        intro K hK
        go_simp
        refine hK _ ?_
        clear hK K
        with_reducible refine wpQuiet_step ?_
        intro K hK
        go_simp
        first | (refine hK _ ?_; clear hK K) | (refine ⟨_, fun w' hw' => rfl, hK _ ?_⟩; clear hK K)
        refine wpQuiet_nil ?_
        clear hq
        intro wq hwq
        replace H := hide (HA.out wq hwq)
        clear HA HC hwq
        go_wp2_with (first
          | (with_reducible refine at_op (op := ⟨some 59, _, _, _, _, _⟩) ?_; refine wpl_held (op := ⟨some 59, _, _, _, _, _⟩) (.agg (cellsB b).toArray) (held_loadf agg64b _ rfl g5 rfl _ (cellsB b) (H.out.get 2 rfl) hb64.out) rfl ?_)
          | (go_at_call 17; with_reducible refine (hdb.out _).mono ?_; rintro e Wc ⟨rfl, hbc⟩; replace H := hide (H.out.call hbc); clear hbc)
          | ((with_reducible refine wpl_alloca (op := ⟨some 14, _, _, _, _, _⟩) rfl _ rfl _ zeroS ?_); intro g14 W1 hB1 hg1 hF1)
          | ((with_reducible refine wpl_storea aggS rfl (.tmp 14) (.tmp 61) rfl g14 (D) rfl rfl _ _ hB1 hD.out slot0_len (hDo.out) ?_); intro W2 hB2 hF2; replace H := hide (H.out.var hg1 hF1 hF2 hB2); clear hB1 hg1 hF1 hB2 hF2)
          | (with_reducible refine at_op (op := ⟨some 67, _, _, _, _, _⟩) ?_; refine wpl_held (op := ⟨some 67, _, _, _, _, _⟩) (.agg (D).toArray) (held_loadf aggS _ rfl g14 rfl _ (D) (H.out.get 6 rfl) hD.out) rfl ?_)
          | (with_reducible refine at_op (op := ⟨some 68, _, _, _, _, _⟩) ?_; refine wpl_held (op := ⟨some 68, _, _, _, _, _⟩) (.agg (D).toArray) (held_build _ _ rfl _ _ (hbd.out _) rfl) rfl ?_)
          | (with_reducible refine at_op (op := ⟨some 69, _, _, _, _, _⟩) ?_; refine wpl_held (op := ⟨some 69, _, _, _, _, _⟩) (.bool true) (held_eql _ _ _ _ rfl (D) (D) rfl rfl (true) (hDD.out _) Try.eqGuardType32) rfl ?_))
        go_ret
        exact ⟨rfl, H.out.bel⟩
      · have hf : F = 0 := hF.out
        subst hf
        replace hen3 := hide (hen3.out rfl)
        replace hri3 := hide (hri3.out rfl)
        clear hF hbd hDe
        have H := hide (At.start w)
        go_enter Try.func4, Try.ntmps4
        go_wp2_with (first
          | (with_reducible refine at_op (op := ⟨some 3, _, _, _, _, _⟩) ?_; (refine wpl_boxa (op := ⟨some 3, _, _, _, _, _⟩) rfl _ _ rfl (C1) rfl ?_); intro g3 W1 hB1 hg1 hF1; replace H := hide (H.out.box hg1 hF1 hB1); clear hB1 hg1 hF1)
          | (with_reducible refine at_op (op := ⟨some 4, _, _, _, _, _⟩) ?_; (refine wpl_boxa (op := ⟨some 4, _, _, _, _, _⟩) rfl _ _ rfl (C2) rfl ?_); intro g4 W1 hB1 hg1 hF1; replace H := hide (H.out.box hg1 hF1 hB1); clear hB1 hg1 hF1)
          | (with_reducible refine at_op (op := ⟨some 5, _, _, _, _, _⟩) ?_; (refine wpl_boxa (op := ⟨some 5, _, _, _, _, _⟩) rfl _ _ rfl (cellsB b) rfl ?_); intro g5 W1 hB1 hg1 hF1; replace H := hide (H.out.box hg1 hF1 hB1); clear hB1 hg1 hF1)
          | (go_at_call 12; with_reducible refine (hsh.out _).mono ?_; rintro e Wc ⟨rfl, hbc⟩; replace H := hide (H.out.call hbc); clear hbc)
          | (with_reducible refine at_op (op := ⟨some 20, _, _, _, _, _⟩) ?_; refine wpl_held (op := ⟨some 20, _, _, _, _, _⟩) (.agg (C1).toArray) (held_loadf aggS _ rfl g3 rfl _ (C1) (H.out.get 0 rfl) h1.out) rfl ?_)
          | (go_at_call 15; with_reducible refine (hen1.out _).mono ?_; rintro e Wc ⟨rfl, hbc⟩; replace H := hide (H.out.call hbc); clear hbc)
          | ((with_reducible refine wpl_alloca (op := ⟨some 8, _, _, _, _, _⟩) rfl _ rfl _ zero64 ?_); intro g8 W1 hB1 hg1 hF1)
          | ((with_reducible refine wpl_storea agg64b rfl (.tmp 8) (.tmp 22) rfl g8 (cellsB X) rfl rfl _ _ hB1 hX.out z64_len (cellsB_one _) ?_); intro W2 hB2 hF2; replace H := hide (H.out.var hg1 hF1 hF2 hB2); clear hB1 hg1 hF1 hB2 hF2)
          | (with_reducible refine at_op (op := ⟨some 25, _, _, _, _, _⟩) ?_; refine wpl_held (op := ⟨some 25, _, _, _, _, _⟩) (.agg (C2).toArray) (held_loadf aggS _ rfl g4 rfl _ (C2) (H.out.get 1 rfl) h2.out) rfl ?_)
          | (go_at_call 15; with_reducible refine (hen2.out _).mono ?_; rintro e Wc ⟨rfl, hbc⟩; replace H := hide (H.out.call hbc); clear hbc)
          | ((with_reducible refine wpl_alloca (op := ⟨some 10, _, _, _, _, _⟩) rfl _ rfl _ zero64 ?_); intro g10 W1 hB1 hg1 hF1)
          | ((with_reducible refine wpl_storea agg64b rfl (.tmp 10) (.tmp 27) rfl g10 (cellsB Y) rfl rfl _ _ hB1 hY.out z64_len (cellsB_one _) ?_); intro W2 hB2 hF2; replace H := hide (H.out.var hg1 hF1 hF2 hB2); clear hB1 hg1 hF1 hB2 hF2)
          | (with_reducible refine at_op (op := ⟨some 32, _, _, _, _, _⟩) ?_; refine wpl_held (op := ⟨some 32, _, _, _, _, _⟩) (.agg (cellsB X).toArray) (held_loadf agg64b _ rfl g8 rfl _ (cellsB X) (H.out.get 3 rfl) hX.out) rfl ?_)
          | (go_at_call 17; with_reducible refine (hdX.out _).mono ?_; rintro e Wc ⟨rfl, hbc⟩; replace H := hide (H.out.call hbc); clear hbc)
          | ((with_reducible refine wpl_alloca (op := ⟨some 12, _, _, _, _, _⟩) rfl _ rfl _ zeroS ?_); intro g12 W1 hB1 hg1 hF1)
          | ((with_reducible refine wpl_storea aggS rfl (.tmp 12) (.tmp 34) rfl g12 (C1) rfl rfl _ _ hB1 h1.out slot0_len (h1o.out) ?_); intro W2 hB2 hF2; replace H := hide (H.out.var hg1 hF1 hF2 hB2); clear hB1 hg1 hF1 hB2 hF2)
          | (with_reducible refine at_op (op := ⟨some 36, _, _, _, _, _⟩) ?_; refine wpl_held (op := ⟨some 36, _, _, _, _, _⟩) (.agg (C1).toArray) (held_loadf aggS _ rfl g12 rfl _ (C1) (H.out.get 5 rfl) h1.out) rfl ?_)
          | (with_reducible refine at_op (op := ⟨some 37, _, _, _, _, _⟩) ?_; refine wpl_held (op := ⟨some 37, _, _, _, _, _⟩) (.agg (C1).toArray) (held_loadf aggS _ rfl g3 rfl _ (C1) (H.out.get 0 rfl) h1.out) rfl ?_)
          | (with_reducible refine at_op (op := ⟨some 38, _, _, _, _, _⟩) ?_; refine wpl_held (op := ⟨some 38, _, _, _, _, _⟩) (.bool (!true)) (held_neq _ _ _ _ rfl (C1) (C1) rfl rfl (true) (h11.out _) Try.eqGuardType32) rfl ?_))
        obtain ⟨N, hN⟩ : ∃ N, N = W2.heap.size := ⟨_, rfl⟩
        have hq : Below N W2 W2 := hN ▸ Below.refl _ _
        have HA := hide (fun W' (h : Below N W2 W') => H.out.call (hN ▸ h))
        have HC := hide (fun W' (h : Below N W2 W') W'' (k : Below W'.heap.size W' W'') => h.trans (k.mono (by rw [hN]; exact h.size)))
        clear hN
        refine wp_region_class (fun W' => Below N W2 W') (by kernel_rfl) (by kernel_rfl) (below_drewN hq 1) ?_
        with_reducible refine wpQuiet_step ?_
        intro K hK
        go_simp
        first | (refine hK _ ?_; clear hK K) | (refine ⟨_, fun w' hw' => rfl, hK _ ?_⟩; clear hK K)
        with_reducible refine wpQuiet_step ?_
        intro K hK
        go_simp
        first | (refine hK _ ?_; clear hK K) | (refine ⟨_, fun w' hw' => rfl, hK _ ?_⟩; clear hK K)
        with_reducible refine wpQuiet_step ?_
        intro K hK
        go_simp
        first | (refine hK _ ?_; clear hK K) | (refine ⟨_, fun w' hw' => rfl, hK _ ?_⟩; clear hK K)
        with_reducible refine wpQuiet_step ?_
        intro K hK
        go_simp
        first | (refine hK _ ?_; clear hK K) | (refine ⟨_, fun w' hw' => rfl, hK _ ?_⟩; clear hK K)
        with_reducible refine wpQuiet_step ?_
        intro K hK
        go_simp
        first | (refine hK _ ?_; clear hK K) | (refine ⟨_, fun w' hw' => rfl, hK _ ?_⟩; clear hK K)
        with_reducible refine wpQuiet_step ?_
        intro K hK
        go_simp
        first | (refine hK _ ?_; clear hK K) | (refine ⟨_, fun w' hw' => rfl, hK _ ?_⟩; clear hK K)
        with_reducible refine wpQuiet_step ?_
        intro K hK
        go_simp
        first | (refine hK _ ?_; clear hK K) | (refine ⟨_, fun w' hw' => rfl, hK _ ?_⟩; clear hK K)
        with_reducible refine wpQuiet_step ?_
        intro K hK
        go_simp
        refine hK _ ?_
        clear hK K
        with_reducible refine wpQuiet_step ?_
        intro K hK
        go_simp
        refine hK _ ?_
        clear hK K
        with_reducible refine wpQuiet_step ?_
        intro K hK
        go_simp
        refine hK _ ?_
        clear hK K
        with_reducible refine wpQuiet_step ?_
        intro K hK
        go_simp
        refine hK _ ?_
        clear hK K
        with_reducible refine wpQuiet_step ?_
        intro K hK
        go_simp
        refine hK _ ?_
        clear hK K
        with_reducible refine wpQuiet_step ?_
        intro K hK
        go_simp
        refine hK _ ?_
        clear hK K
        with_reducible refine wpQuiet_step ?_
        intro K hK
        go_simp
        refine hK _ ?_
        clear hK K
        with_reducible refine wpQuiet_step ?_
        intro K hK
        go_simp
        first | (refine hK _ ?_; clear hK K) | (refine ⟨_, fun w' hw' => rfl, hK _ ?_⟩; clear hK K)
        refine wpQuiet_nil ?_
        clear hq
        intro wq hwq
        replace H := hide (HA.out wq hwq)
        clear HA HC hwq
        go_wp2_with (first
          | (with_reducible refine at_op (op := ⟨some 59, _, _, _, _, _⟩) ?_; refine wpl_held (op := ⟨some 59, _, _, _, _, _⟩) (.agg (cellsB b).toArray) (held_loadf agg64b _ rfl g5 rfl _ (cellsB b) (H.out.get 2 rfl) hb64.out) rfl ?_)
          | (go_at_call 17; with_reducible refine (hdb.out _).mono ?_; rintro e Wc ⟨rfl, hbc⟩; replace H := hide (H.out.call hbc); clear hbc)
          | ((with_reducible refine wpl_alloca (op := ⟨some 14, _, _, _, _, _⟩) rfl _ rfl _ zeroS ?_); intro g14 W1 hB1 hg1 hF1)
          | ((with_reducible refine wpl_storea aggS rfl (.tmp 14) (.tmp 61) rfl g14 (D) rfl rfl _ _ hB1 hD.out slot0_len (hDo.out) ?_); intro W2 hB2 hF2; replace H := hide (H.out.var hg1 hF1 hF2 hB2); clear hB1 hg1 hF1 hB2 hF2)
          | (with_reducible refine at_op (op := ⟨some 67, _, _, _, _, _⟩) ?_; refine wpl_held (op := ⟨some 67, _, _, _, _, _⟩) (.agg (D).toArray) (held_loadf aggS _ rfl g14 rfl _ (D) (H.out.get 6 rfl) hD.out) rfl ?_)
          | (with_reducible refine at_op (op := ⟨some 72, _, _, _, _, _⟩) ?_; refine wpl_held (op := ⟨some 72, _, _, _, _, _⟩) (.agg (D).toArray) (held_loadf aggS _ rfl g14 rfl _ (D) (H.out.get 6 rfl) hD.out) rfl ?_)
          | (go_at_call 15; with_reducible refine (hen3.out _).mono ?_; rintro e Wc ⟨rfl, hbc⟩; replace H := hide (H.out.call hbc); clear hbc)
          | ((with_reducible refine wpl_alloca (op := ⟨some 16, _, _, _, _, _⟩) rfl _ rfl _ zero64 ?_); intro g16 W1 hB1 hg1 hF1)
          | ((with_reducible refine wpl_storea agg64b rfl (.tmp 16) (.tmp 74) rfl g16 (cellsB b) rfl rfl _ _ hB1 hb64.out z64_len (cellsB_one _) ?_); intro W2 hB2 hF2; replace H := hide (H.out.var hg1 hF1 hF2 hB2); clear hB1 hg1 hF1 hB2 hF2)
          | (with_reducible refine at_op (op := ⟨some 78, _, _, _, _, _⟩) ?_; refine wpl_held (op := ⟨some 78, _, _, _, _, _⟩) (.agg (cellsB b).toArray) (held_loadf agg64b _ rfl g16 rfl _ (cellsB b) (H.out.get 7 rfl) hb64.out) rfl ?_)
          | (with_reducible refine at_op (op := ⟨some 79, _, _, _, _, _⟩) ?_; refine wpl_held (op := ⟨some 79, _, _, _, _, _⟩) (.agg (cellsB b).toArray) (held_loadf agg64b _ rfl g5 rfl _ (cellsB b) (H.out.get 2 rfl) hb64.out) rfl ?_)
          | (with_reducible refine at_op (op := ⟨some 80, _, _, _, _, _⟩) ?_; refine wpl_held (op := ⟨some 80, _, _, _, _, _⟩) (.bool true) (held_eql _ _ _ _ rfl (cellsB b) (cellsB b) rfl rfl (true) (hbb.out _) Try.eqGuardType33) rfl ?_)
          | (with_reducible refine at_op (op := ⟨some 87, _, _, _, _, _⟩) ?_; refine wpl_held (op := ⟨some 87, _, _, _, _, _⟩) (.agg (D).toArray) (held_loadf aggS _ rfl g14 rfl _ (D) (H.out.get 6 rfl) hD.out) rfl ?_)
          | (go_at_call 14; with_reducible refine (hri3.out _).mono ?_; rintro e Wc ⟨rfl, hbc⟩; replace H := hide (H.out.call hbc); clear hbc))
        go_ret
        exact ⟨rfl, H.out.bel⟩
    · have h : E2 = 0 := he2.out
      subst h
      have hxy := hsame.out rfl rfl
      replace hXY : Hid (∀ w, (Op.equalIn 10000 33 (.agg (cellsB X).toArray) (.agg (cellsB Y).toArray)).run Try.prog w = .ok bE w) := fun w => by rw [← hxy]; exact hXY.out w
      clear he2 hsame hxy
      cases OK
      · have hf : F = 3 := hF.out
        have hA : D = slotC slot0 := hDe.out
        rw [← hA] at hbd
        subst hf
        clear hF hen3 hri3 hDe hA
        have H := hide (At.start w)
        go_enter Try.func4, Try.ntmps4
        go_wp2_with (first
          | (with_reducible refine at_op (op := ⟨some 3, _, _, _, _, _⟩) ?_; (refine wpl_boxa (op := ⟨some 3, _, _, _, _, _⟩) rfl _ _ rfl (C1) rfl ?_); intro g3 W1 hB1 hg1 hF1; replace H := hide (H.out.box hg1 hF1 hB1); clear hB1 hg1 hF1)
          | (with_reducible refine at_op (op := ⟨some 4, _, _, _, _, _⟩) ?_; (refine wpl_boxa (op := ⟨some 4, _, _, _, _, _⟩) rfl _ _ rfl (C2) rfl ?_); intro g4 W1 hB1 hg1 hF1; replace H := hide (H.out.box hg1 hF1 hB1); clear hB1 hg1 hF1)
          | (with_reducible refine at_op (op := ⟨some 5, _, _, _, _, _⟩) ?_; (refine wpl_boxa (op := ⟨some 5, _, _, _, _, _⟩) rfl _ _ rfl (cellsB b) rfl ?_); intro g5 W1 hB1 hg1 hF1; replace H := hide (H.out.box hg1 hF1 hB1); clear hB1 hg1 hF1)
          | (go_at_call 12; with_reducible refine (hsh.out _).mono ?_; rintro e Wc ⟨rfl, hbc⟩; replace H := hide (H.out.call hbc); clear hbc)
          | (with_reducible refine at_op (op := ⟨some 20, _, _, _, _, _⟩) ?_; refine wpl_held (op := ⟨some 20, _, _, _, _, _⟩) (.agg (C1).toArray) (held_loadf aggS _ rfl g3 rfl _ (C1) (H.out.get 0 rfl) h1.out) rfl ?_)
          | (go_at_call 15; with_reducible refine (hen1.out _).mono ?_; rintro e Wc ⟨rfl, hbc⟩; replace H := hide (H.out.call hbc); clear hbc)
          | ((with_reducible refine wpl_alloca (op := ⟨some 8, _, _, _, _, _⟩) rfl _ rfl _ zero64 ?_); intro g8 W1 hB1 hg1 hF1)
          | ((with_reducible refine wpl_storea agg64b rfl (.tmp 8) (.tmp 22) rfl g8 (cellsB X) rfl rfl _ _ hB1 hX.out z64_len (cellsB_one _) ?_); intro W2 hB2 hF2; replace H := hide (H.out.var hg1 hF1 hF2 hB2); clear hB1 hg1 hF1 hB2 hF2)
          | (with_reducible refine at_op (op := ⟨some 25, _, _, _, _, _⟩) ?_; refine wpl_held (op := ⟨some 25, _, _, _, _, _⟩) (.agg (C2).toArray) (held_loadf aggS _ rfl g4 rfl _ (C2) (H.out.get 1 rfl) h2.out) rfl ?_)
          | (go_at_call 15; with_reducible refine (hen2.out _).mono ?_; rintro e Wc ⟨rfl, hbc⟩; replace H := hide (H.out.call hbc); clear hbc)
          | ((with_reducible refine wpl_alloca (op := ⟨some 10, _, _, _, _, _⟩) rfl _ rfl _ zero64 ?_); intro g10 W1 hB1 hg1 hF1)
          | ((with_reducible refine wpl_storea agg64b rfl (.tmp 10) (.tmp 27) rfl g10 (cellsB Y) rfl rfl _ _ hB1 hY.out z64_len (cellsB_one _) ?_); intro W2 hB2 hF2; replace H := hide (H.out.var hg1 hF1 hF2 hB2); clear hB1 hg1 hF1 hB2 hF2)
          | (with_reducible refine at_op (op := ⟨some 32, _, _, _, _, _⟩) ?_; refine wpl_held (op := ⟨some 32, _, _, _, _, _⟩) (.agg (cellsB X).toArray) (held_loadf agg64b _ rfl g8 rfl _ (cellsB X) (H.out.get 3 rfl) hX.out) rfl ?_)
          | (go_at_call 17; with_reducible refine (hdX.out _).mono ?_; rintro e Wc ⟨rfl, hbc⟩; replace H := hide (H.out.call hbc); clear hbc)
          | ((with_reducible refine wpl_alloca (op := ⟨some 12, _, _, _, _, _⟩) rfl _ rfl _ zeroS ?_); intro g12 W1 hB1 hg1 hF1)
          | ((with_reducible refine wpl_storea aggS rfl (.tmp 12) (.tmp 34) rfl g12 (C1) rfl rfl _ _ hB1 h1.out slot0_len (h1o.out) ?_); intro W2 hB2 hF2; replace H := hide (H.out.var hg1 hF1 hF2 hB2); clear hB1 hg1 hF1 hB2 hF2)
          | (with_reducible refine at_op (op := ⟨some 36, _, _, _, _, _⟩) ?_; refine wpl_held (op := ⟨some 36, _, _, _, _, _⟩) (.agg (C1).toArray) (held_loadf aggS _ rfl g12 rfl _ (C1) (H.out.get 5 rfl) h1.out) rfl ?_)
          | (with_reducible refine at_op (op := ⟨some 37, _, _, _, _, _⟩) ?_; refine wpl_held (op := ⟨some 37, _, _, _, _, _⟩) (.agg (C1).toArray) (held_loadf aggS _ rfl g3 rfl _ (C1) (H.out.get 0 rfl) h1.out) rfl ?_)
          | (with_reducible refine at_op (op := ⟨some 38, _, _, _, _, _⟩) ?_; refine wpl_held (op := ⟨some 38, _, _, _, _, _⟩) (.bool (!true)) (held_neq _ _ _ _ rfl (C1) (C1) rfl rfl (true) (h11.out _) Try.eqGuardType32) rfl ?_))
        obtain ⟨N, hN⟩ : ∃ N, N = W2.heap.size := ⟨_, rfl⟩
        have hq : Below N W2 W2 := hN ▸ Below.refl _ _
        have HA := hide (fun W' (h : Below N W2 W') => H.out.call (hN ▸ h))
        have HC := hide (fun W' (h : Below N W2 W') W'' (k : Below W'.heap.size W' W'') => h.trans (k.mono (by rw [hN]; exact h.size)))
        clear hN
        refine wp_region_class (fun W' => Below N W2 W') (by kernel_rfl) (by kernel_rfl) (below_drewN hq 1) ?_
        with_reducible refine wpQuiet_step ?_
        intro K hK
        go_simp
        first | (refine hK _ ?_; clear hK K) | (refine ⟨_, fun w' hw' => rfl, hK _ ?_⟩; clear hK K)
        with_reducible refine wpQuiet_step ?_
        intro K hK
        go_simp
        first | (refine hK _ ?_; clear hK K) | (refine ⟨_, fun w' hw' => rfl, hK _ ?_⟩; clear hK K)
        with_reducible refine wpQuiet_step ?_
        intro K hK
        go_simp
        first | (refine hK _ ?_; clear hK K) | (refine ⟨_, fun w' hw' => rfl, hK _ ?_⟩; clear hK K)
        with_reducible refine wpQuiet_step ?_
        intro K hK
        go_simp
        first | (refine hK _ ?_; clear hK K) | (refine ⟨_, fun w' hw' => rfl, hK _ ?_⟩; clear hK K)
        with_reducible refine wpQuiet_step ?_
        intro K hK
        go_simp
        first | (refine hK _ ?_; clear hK K) | (refine ⟨_, fun w' hw' => rfl, hK _ ?_⟩; clear hK K)
        with_reducible refine wpQuiet_step ?_
        intro K hK
        go_simp
        first | (refine hK _ ?_; clear hK K) | (refine ⟨_, fun w' hw' => rfl, hK _ ?_⟩; clear hK K)
        with_reducible refine wpQuiet_step ?_
        intro K hK
        go_simp
        first | (refine hK _ ?_; clear hK K) | (refine ⟨_, fun w' hw' => rfl, hK _ ?_⟩; clear hK K)
        with_reducible refine wpQuiet_step ?_
        intro K hK
        refine quiet_val (.agg (cellsB X).toArray) (fun w' hw' => held_loadf agg64b _ rfl g8 rfl _ (cellsB X) ((HA.out w' hw').get 3 rfl) hX.out) ?_ rfl
        go_simp
        refine hK _ ?_
        clear hK K
        with_reducible refine wpQuiet_step ?_
        intro K hK
        refine quiet_val (.agg (cellsB Y).toArray) (fun w' hw' => held_loadf agg64b _ rfl g10 rfl _ (cellsB Y) ((HA.out w' hw').get 4 rfl) hY.out) ?_ rfl
        go_simp
        refine hK _ ?_
        clear hK K
        with_reducible refine wpQuiet_step ?_
        intro K hK
        refine quiet_val (.bool bE) (fun w' hw' => held_eql _ _ _ _ rfl (cellsB X) (cellsB Y) rfl rfl (bE) (hXY.out w') Try.eqGuardType33) ?_ rfl
        go_simp
        refine hK _ ?_
        clear hK K
        with_reducible refine wpQuiet_step ?_
        intro K hK
        refine quiet_val (.agg (C1).toArray) (fun w' hw' => held_loadf aggS _ rfl g3 rfl _ (C1) ((HA.out w' hw').get 0 rfl) h1.out) ?_ rfl
        go_simp
        refine hK _ ?_
        clear hK K
        with_reducible refine wpQuiet_step ?_
        intro K hK
        refine quiet_val (.agg (C2).toArray) (fun w' hw' => held_loadf aggS _ rfl g4 rfl _ (C2) ((HA.out w' hw').get 1 rfl) h2.out) ?_ rfl
        go_simp
        refine hK _ ?_
        clear hK K
        with_reducible refine wpQuiet_step ?_
        intro K hK
        refine quiet_val (.bool bE) (fun w' hw' => held_eql _ _ _ _ rfl (C1) (C2) rfl rfl (bE) (hST.out w') Try.eqGuardType32) ?_ rfl
        go_simp
        refine hK _ ?_
        clear hK K
        with_reducible refine wpQuiet_step ?_
        intro K hK
        go_simp
        first | (refine hK _ ?_; clear hK K) | (refine ⟨_, fun w' hw' => rfl, hK _ ?_⟩; clear hK K)
        with_reducible refine wpQuiet_step ?_
        intro K hK
        go_simp
        first | (refine hK _ ?_; clear hK K) | (refine ⟨_, fun w' hw' => rfl, hK _ ?_⟩; clear hK K)
        refine wpQuiet_nil ?_
        clear hq
        intro wq hwq
        replace H := hide (HA.out wq hwq)
        clear HA HC hwq
        go_wp2_with (first
          | (with_reducible refine at_op (op := ⟨some 59, _, _, _, _, _⟩) ?_; refine wpl_held (op := ⟨some 59, _, _, _, _, _⟩) (.agg (cellsB b).toArray) (held_loadf agg64b _ rfl g5 rfl _ (cellsB b) (H.out.get 2 rfl) hb64.out) rfl ?_)
          | (go_at_call 17; with_reducible refine (hdb.out _).mono ?_; rintro e Wc ⟨rfl, hbc⟩; replace H := hide (H.out.call hbc); clear hbc)
          | ((with_reducible refine wpl_alloca (op := ⟨some 14, _, _, _, _, _⟩) rfl _ rfl _ zeroS ?_); intro g14 W1 hB1 hg1 hF1)
          | ((with_reducible refine wpl_storea aggS rfl (.tmp 14) (.tmp 61) rfl g14 (D) rfl rfl _ _ hB1 hD.out slot0_len (hDo.out) ?_); intro W2 hB2 hF2; replace H := hide (H.out.var hg1 hF1 hF2 hB2); clear hB1 hg1 hF1 hB2 hF2)
          | (with_reducible refine at_op (op := ⟨some 67, _, _, _, _, _⟩) ?_; refine wpl_held (op := ⟨some 67, _, _, _, _, _⟩) (.agg (D).toArray) (held_loadf aggS _ rfl g14 rfl _ (D) (H.out.get 6 rfl) hD.out) rfl ?_)
          | (with_reducible refine at_op (op := ⟨some 68, _, _, _, _, _⟩) ?_; refine wpl_held (op := ⟨some 68, _, _, _, _, _⟩) (.agg (D).toArray) (held_build _ _ rfl _ _ (hbd.out _) rfl) rfl ?_)
          | (with_reducible refine at_op (op := ⟨some 69, _, _, _, _, _⟩) ?_; refine wpl_held (op := ⟨some 69, _, _, _, _, _⟩) (.bool true) (held_eql _ _ _ _ rfl (D) (D) rfl rfl (true) (hDD.out _) Try.eqGuardType32) rfl ?_))
        go_ret
        exact ⟨rfl, H.out.bel⟩
      · have hf : F = 0 := hF.out
        subst hf
        replace hen3 := hide (hen3.out rfl)
        replace hri3 := hide (hri3.out rfl)
        clear hF hbd hDe
        have H := hide (At.start w)
        go_enter Try.func4, Try.ntmps4
        go_wp2_with (first
          | (with_reducible refine at_op (op := ⟨some 3, _, _, _, _, _⟩) ?_; (refine wpl_boxa (op := ⟨some 3, _, _, _, _, _⟩) rfl _ _ rfl (C1) rfl ?_); intro g3 W1 hB1 hg1 hF1; replace H := hide (H.out.box hg1 hF1 hB1); clear hB1 hg1 hF1)
          | (with_reducible refine at_op (op := ⟨some 4, _, _, _, _, _⟩) ?_; (refine wpl_boxa (op := ⟨some 4, _, _, _, _, _⟩) rfl _ _ rfl (C2) rfl ?_); intro g4 W1 hB1 hg1 hF1; replace H := hide (H.out.box hg1 hF1 hB1); clear hB1 hg1 hF1)
          | (with_reducible refine at_op (op := ⟨some 5, _, _, _, _, _⟩) ?_; (refine wpl_boxa (op := ⟨some 5, _, _, _, _, _⟩) rfl _ _ rfl (cellsB b) rfl ?_); intro g5 W1 hB1 hg1 hF1; replace H := hide (H.out.box hg1 hF1 hB1); clear hB1 hg1 hF1)
          | (go_at_call 12; with_reducible refine (hsh.out _).mono ?_; rintro e Wc ⟨rfl, hbc⟩; replace H := hide (H.out.call hbc); clear hbc)
          | (with_reducible refine at_op (op := ⟨some 20, _, _, _, _, _⟩) ?_; refine wpl_held (op := ⟨some 20, _, _, _, _, _⟩) (.agg (C1).toArray) (held_loadf aggS _ rfl g3 rfl _ (C1) (H.out.get 0 rfl) h1.out) rfl ?_)
          | (go_at_call 15; with_reducible refine (hen1.out _).mono ?_; rintro e Wc ⟨rfl, hbc⟩; replace H := hide (H.out.call hbc); clear hbc)
          | ((with_reducible refine wpl_alloca (op := ⟨some 8, _, _, _, _, _⟩) rfl _ rfl _ zero64 ?_); intro g8 W1 hB1 hg1 hF1)
          | ((with_reducible refine wpl_storea agg64b rfl (.tmp 8) (.tmp 22) rfl g8 (cellsB X) rfl rfl _ _ hB1 hX.out z64_len (cellsB_one _) ?_); intro W2 hB2 hF2; replace H := hide (H.out.var hg1 hF1 hF2 hB2); clear hB1 hg1 hF1 hB2 hF2)
          | (with_reducible refine at_op (op := ⟨some 25, _, _, _, _, _⟩) ?_; refine wpl_held (op := ⟨some 25, _, _, _, _, _⟩) (.agg (C2).toArray) (held_loadf aggS _ rfl g4 rfl _ (C2) (H.out.get 1 rfl) h2.out) rfl ?_)
          | (go_at_call 15; with_reducible refine (hen2.out _).mono ?_; rintro e Wc ⟨rfl, hbc⟩; replace H := hide (H.out.call hbc); clear hbc)
          | ((with_reducible refine wpl_alloca (op := ⟨some 10, _, _, _, _, _⟩) rfl _ rfl _ zero64 ?_); intro g10 W1 hB1 hg1 hF1)
          | ((with_reducible refine wpl_storea agg64b rfl (.tmp 10) (.tmp 27) rfl g10 (cellsB Y) rfl rfl _ _ hB1 hY.out z64_len (cellsB_one _) ?_); intro W2 hB2 hF2; replace H := hide (H.out.var hg1 hF1 hF2 hB2); clear hB1 hg1 hF1 hB2 hF2)
          | (with_reducible refine at_op (op := ⟨some 32, _, _, _, _, _⟩) ?_; refine wpl_held (op := ⟨some 32, _, _, _, _, _⟩) (.agg (cellsB X).toArray) (held_loadf agg64b _ rfl g8 rfl _ (cellsB X) (H.out.get 3 rfl) hX.out) rfl ?_)
          | (go_at_call 17; with_reducible refine (hdX.out _).mono ?_; rintro e Wc ⟨rfl, hbc⟩; replace H := hide (H.out.call hbc); clear hbc)
          | ((with_reducible refine wpl_alloca (op := ⟨some 12, _, _, _, _, _⟩) rfl _ rfl _ zeroS ?_); intro g12 W1 hB1 hg1 hF1)
          | ((with_reducible refine wpl_storea aggS rfl (.tmp 12) (.tmp 34) rfl g12 (C1) rfl rfl _ _ hB1 h1.out slot0_len (h1o.out) ?_); intro W2 hB2 hF2; replace H := hide (H.out.var hg1 hF1 hF2 hB2); clear hB1 hg1 hF1 hB2 hF2)
          | (with_reducible refine at_op (op := ⟨some 36, _, _, _, _, _⟩) ?_; refine wpl_held (op := ⟨some 36, _, _, _, _, _⟩) (.agg (C1).toArray) (held_loadf aggS _ rfl g12 rfl _ (C1) (H.out.get 5 rfl) h1.out) rfl ?_)
          | (with_reducible refine at_op (op := ⟨some 37, _, _, _, _, _⟩) ?_; refine wpl_held (op := ⟨some 37, _, _, _, _, _⟩) (.agg (C1).toArray) (held_loadf aggS _ rfl g3 rfl _ (C1) (H.out.get 0 rfl) h1.out) rfl ?_)
          | (with_reducible refine at_op (op := ⟨some 38, _, _, _, _, _⟩) ?_; refine wpl_held (op := ⟨some 38, _, _, _, _, _⟩) (.bool (!true)) (held_neq _ _ _ _ rfl (C1) (C1) rfl rfl (true) (h11.out _) Try.eqGuardType32) rfl ?_))
        obtain ⟨N, hN⟩ : ∃ N, N = W2.heap.size := ⟨_, rfl⟩
        have hq : Below N W2 W2 := hN ▸ Below.refl _ _
        have HA := hide (fun W' (h : Below N W2 W') => H.out.call (hN ▸ h))
        have HC := hide (fun W' (h : Below N W2 W') W'' (k : Below W'.heap.size W' W'') => h.trans (k.mono (by rw [hN]; exact h.size)))
        clear hN
        refine wp_region_class (fun W' => Below N W2 W') (by kernel_rfl) (by kernel_rfl) (below_drewN hq 1) ?_
        with_reducible refine wpQuiet_step ?_
        intro K hK
        go_simp
        first | (refine hK _ ?_; clear hK K) | (refine ⟨_, fun w' hw' => rfl, hK _ ?_⟩; clear hK K)
        with_reducible refine wpQuiet_step ?_
        intro K hK
        go_simp
        first | (refine hK _ ?_; clear hK K) | (refine ⟨_, fun w' hw' => rfl, hK _ ?_⟩; clear hK K)
        with_reducible refine wpQuiet_step ?_
        intro K hK
        go_simp
        first | (refine hK _ ?_; clear hK K) | (refine ⟨_, fun w' hw' => rfl, hK _ ?_⟩; clear hK K)
        with_reducible refine wpQuiet_step ?_
        intro K hK
        go_simp
        first | (refine hK _ ?_; clear hK K) | (refine ⟨_, fun w' hw' => rfl, hK _ ?_⟩; clear hK K)
        with_reducible refine wpQuiet_step ?_
        intro K hK
        go_simp
        first | (refine hK _ ?_; clear hK K) | (refine ⟨_, fun w' hw' => rfl, hK _ ?_⟩; clear hK K)
        with_reducible refine wpQuiet_step ?_
        intro K hK
        go_simp
        first | (refine hK _ ?_; clear hK K) | (refine ⟨_, fun w' hw' => rfl, hK _ ?_⟩; clear hK K)
        with_reducible refine wpQuiet_step ?_
        intro K hK
        go_simp
        first | (refine hK _ ?_; clear hK K) | (refine ⟨_, fun w' hw' => rfl, hK _ ?_⟩; clear hK K)
        with_reducible refine wpQuiet_step ?_
        intro K hK
        refine quiet_val (.agg (cellsB X).toArray) (fun w' hw' => held_loadf agg64b _ rfl g8 rfl _ (cellsB X) ((HA.out w' hw').get 3 rfl) hX.out) ?_ rfl
        go_simp
        refine hK _ ?_
        clear hK K
        with_reducible refine wpQuiet_step ?_
        intro K hK
        refine quiet_val (.agg (cellsB Y).toArray) (fun w' hw' => held_loadf agg64b _ rfl g10 rfl _ (cellsB Y) ((HA.out w' hw').get 4 rfl) hY.out) ?_ rfl
        go_simp
        refine hK _ ?_
        clear hK K
        with_reducible refine wpQuiet_step ?_
        intro K hK
        refine quiet_val (.bool bE) (fun w' hw' => held_eql _ _ _ _ rfl (cellsB X) (cellsB Y) rfl rfl (bE) (hXY.out w') Try.eqGuardType33) ?_ rfl
        go_simp
        refine hK _ ?_
        clear hK K
        with_reducible refine wpQuiet_step ?_
        intro K hK
        refine quiet_val (.agg (C1).toArray) (fun w' hw' => held_loadf aggS _ rfl g3 rfl _ (C1) ((HA.out w' hw').get 0 rfl) h1.out) ?_ rfl
        go_simp
        refine hK _ ?_
        clear hK K
        with_reducible refine wpQuiet_step ?_
        intro K hK
        refine quiet_val (.agg (C2).toArray) (fun w' hw' => held_loadf aggS _ rfl g4 rfl _ (C2) ((HA.out w' hw').get 1 rfl) h2.out) ?_ rfl
        go_simp
        refine hK _ ?_
        clear hK K
        with_reducible refine wpQuiet_step ?_
        intro K hK
        refine quiet_val (.bool bE) (fun w' hw' => held_eql _ _ _ _ rfl (C1) (C2) rfl rfl (bE) (hST.out w') Try.eqGuardType32) ?_ rfl
        go_simp
        refine hK _ ?_
        clear hK K
        with_reducible refine wpQuiet_step ?_
        intro K hK
        go_simp
        first | (refine hK _ ?_; clear hK K) | (refine ⟨_, fun w' hw' => rfl, hK _ ?_⟩; clear hK K)
        with_reducible refine wpQuiet_step ?_
        intro K hK
        go_simp
        first | (refine hK _ ?_; clear hK K) | (refine ⟨_, fun w' hw' => rfl, hK _ ?_⟩; clear hK K)
        refine wpQuiet_nil ?_
        clear hq
        intro wq hwq
        replace H := hide (HA.out wq hwq)
        clear HA HC hwq
        go_wp2_with (first
          | (with_reducible refine at_op (op := ⟨some 59, _, _, _, _, _⟩) ?_; refine wpl_held (op := ⟨some 59, _, _, _, _, _⟩) (.agg (cellsB b).toArray) (held_loadf agg64b _ rfl g5 rfl _ (cellsB b) (H.out.get 2 rfl) hb64.out) rfl ?_)
          | (go_at_call 17; with_reducible refine (hdb.out _).mono ?_; rintro e Wc ⟨rfl, hbc⟩; replace H := hide (H.out.call hbc); clear hbc)
          | ((with_reducible refine wpl_alloca (op := ⟨some 14, _, _, _, _, _⟩) rfl _ rfl _ zeroS ?_); intro g14 W1 hB1 hg1 hF1)
          | ((with_reducible refine wpl_storea aggS rfl (.tmp 14) (.tmp 61) rfl g14 (D) rfl rfl _ _ hB1 hD.out slot0_len (hDo.out) ?_); intro W2 hB2 hF2; replace H := hide (H.out.var hg1 hF1 hF2 hB2); clear hB1 hg1 hF1 hB2 hF2)
          | (with_reducible refine at_op (op := ⟨some 67, _, _, _, _, _⟩) ?_; refine wpl_held (op := ⟨some 67, _, _, _, _, _⟩) (.agg (D).toArray) (held_loadf aggS _ rfl g14 rfl _ (D) (H.out.get 6 rfl) hD.out) rfl ?_)
          | (with_reducible refine at_op (op := ⟨some 72, _, _, _, _, _⟩) ?_; refine wpl_held (op := ⟨some 72, _, _, _, _, _⟩) (.agg (D).toArray) (held_loadf aggS _ rfl g14 rfl _ (D) (H.out.get 6 rfl) hD.out) rfl ?_)
          | (go_at_call 15; with_reducible refine (hen3.out _).mono ?_; rintro e Wc ⟨rfl, hbc⟩; replace H := hide (H.out.call hbc); clear hbc)
          | ((with_reducible refine wpl_alloca (op := ⟨some 16, _, _, _, _, _⟩) rfl _ rfl _ zero64 ?_); intro g16 W1 hB1 hg1 hF1)
          | ((with_reducible refine wpl_storea agg64b rfl (.tmp 16) (.tmp 74) rfl g16 (cellsB b) rfl rfl _ _ hB1 hb64.out z64_len (cellsB_one _) ?_); intro W2 hB2 hF2; replace H := hide (H.out.var hg1 hF1 hF2 hB2); clear hB1 hg1 hF1 hB2 hF2)
          | (with_reducible refine at_op (op := ⟨some 78, _, _, _, _, _⟩) ?_; refine wpl_held (op := ⟨some 78, _, _, _, _, _⟩) (.agg (cellsB b).toArray) (held_loadf agg64b _ rfl g16 rfl _ (cellsB b) (H.out.get 7 rfl) hb64.out) rfl ?_)
          | (with_reducible refine at_op (op := ⟨some 79, _, _, _, _, _⟩) ?_; refine wpl_held (op := ⟨some 79, _, _, _, _, _⟩) (.agg (cellsB b).toArray) (held_loadf agg64b _ rfl g5 rfl _ (cellsB b) (H.out.get 2 rfl) hb64.out) rfl ?_)
          | (with_reducible refine at_op (op := ⟨some 80, _, _, _, _, _⟩) ?_; refine wpl_held (op := ⟨some 80, _, _, _, _, _⟩) (.bool true) (held_eql _ _ _ _ rfl (cellsB b) (cellsB b) rfl rfl (true) (hbb.out _) Try.eqGuardType33) rfl ?_)
          | (with_reducible refine at_op (op := ⟨some 87, _, _, _, _, _⟩) ?_; refine wpl_held (op := ⟨some 87, _, _, _, _, _⟩) (.agg (D).toArray) (held_loadf aggS _ rfl g14 rfl _ (D) (H.out.get 6 rfl) hD.out) rfl ?_)
          | (go_at_call 14; with_reducible refine (hri3.out _).mono ?_; rintro e Wc ⟨rfl, hbc⟩; replace H := hide (H.out.call hbc); clear hbc))
        go_ret
        exact ⟨rfl, H.out.bel⟩
end Go.Proofs.Ytedodbejbkdplaa
