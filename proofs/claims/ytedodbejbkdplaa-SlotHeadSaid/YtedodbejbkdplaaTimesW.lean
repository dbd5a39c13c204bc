/-
  SlotTimes: the walk.
-/
import Derived.Test.YtedodbejbkdplaaBackW
namespace Go.Proofs.Ytedodbejbkdplaa
set_option linter.unusedVariables false
set_option linter.unusedSimpArgs false
open Go.RowKit

theorem held_mink {P : Program} {o : Oper} {a : Act} {w : World} (x y : Operand) (t t' : TypeId) (ho : o.op = .call { callee := .builtin .min, args := #[x, y], argTypes := #[t, t'] }) (k : IntKind) (p q m : Int) (hx : a.eval x = .int k p) (hy : a.eval y = .int k q) (hm : m = if q < p then q else p) :
    (execOp a.eval o).run P w = .ok (.value (.int k m)) w := by
  unfold execOp
  simp only [ho, resolve, invoke, builtin, Sem.run_bind, Sem.run_pure, Result.andThen_ok, List.map_toArray, List.map_cons, List.map_nil, hx, hy]
  subst hm
  rfl
theorem held_maxk {P : Program} {o : Oper} {a : Act} {w : World} (x y : Operand) (t t' : TypeId) (ho : o.op = .call { callee := .builtin .max, args := #[x, y], argTypes := #[t, t'] }) (k : IntKind) (p q m : Int) (hx : a.eval x = .int k p) (hy : a.eval y = .int k q) (hm : m = if q > p then q else p) :
    (execOp a.eval o).run P w = .ok (.value (.int k m)) w := by
  unfold execOp
  simp only [ho, resolve, invoke, builtin, Sem.run_bind, Sem.run_pure, Result.andThen_ok, List.map_toArray, List.map_cons, List.map_nil, hx, hy]
  subst hm
  rfl
theorem max_int (a b : Nat) : (Nat.max a b : Int) = if (b : Int) > (a : Int) then (b : Int) else (a : Int) := by
  by_cases h : a < b
  · rw [if_pos (by omega)]; simp only [Nat.max_def]; split <;> omega
  · rw [if_neg (by omega)]; simp only [Nat.max_def]; split <;> omega
theorem times_right {s : Slot} (h : rightB s = true) (x y : Nat) : rightB { s with lo := x, hi := y } = decide (x ≤ y) := by
  have hk := (rightB_iff.1 h).2
  have hk2 : ({ s with lo := x, hi := y } : Slot) = kindM { s with lo := x, hi := y } := by
    unfold kindM at hk ⊢
    cases hl : s.last
    · rw [hl] at hk
      simp only [Bool.false_eq_true, if_false] at hk ⊢
      have := congrArg Slot.box hk
      simp only at this
      simp [this, hl]
    · rw [hl] at hk
      simp only [if_true] at hk ⊢
      have h1 := congrArg Slot.next hk
      have h2 := congrArg Slot.who hk
      have h3 := congrArg Slot.epoch hk
      have h4 := congrArg Slot.nonce hk
      have h5 := congrArg Slot.mac hk
      simp only at h1 h2 h3 h4 h5
      simp [h1, h2, h3, h4, h5, hl]
  unfold rightB
  rw [← hk2, show slotEq ({ s with lo := x, hi := y } : Slot) { s with lo := x, hi := y } = true from slotEq_iff.2 rfl, Bool.and_true]

set_option maxHeartbeats 16000000 in
set_option maxRecDepth 100000 in
theorem times_walk (s : Slot) (hs : s.ok) (a : Nat) (ha : a < 18446744073709551616) (b : Nat) (hb : b < 18446744073709551616) (w : World) : Calls Try.prog 11 #[.agg (slotC s).toArray, .int .u64 (a : Int), .int .u64 (b : Int)] w fun e w' => e = .returned (.bool true) ∧ Below w.heap.size w w' := by
  have hsh := hide shown_any
  have hri := hide (right_any s hs)
  have h0 := hide (slotC_length s hs.nonce hs.mac)
  have hE : Hid (errR s = if rightB s = true then 0 else 1) := rfl
  cases hR : rightB s
  · have h : errR s = 1 := by rw [hE.out, hR]; rfl
    rw [h] at hri
    clear hE hR hs h ha hb
    generalize slotC s = C0 at *
    have H := hide (At.start w)
    go_enter Try.func11, Try.ntmps11
    go_wp2_with (first
      | (with_reducible refine at_op (op := ⟨some 3, _, _, _, _, _⟩) ?_; (refine wpl_boxa (op := ⟨some 3, _, _, _, _, _⟩) rfl _ _ rfl (C0) rfl ?_); intro g3 W1 hB1 hg1 hF1; replace H := hide (H.out.box hg1 hF1 hB1); clear hB1 hg1 hF1)
      | (go_at_call 12; with_reducible refine (hsh.out _).mono ?_; rintro e Wc ⟨rfl, hbc⟩; replace H := hide (H.out.call hbc); clear hbc)
      | (with_reducible refine at_op (op := ⟨some 16, _, _, _, _, _⟩) ?_; refine wpl_held (op := ⟨some 16, _, _, _, _, _⟩) (.agg (C0).toArray) (held_loadf aggS _ rfl g3 rfl _ (C0) (H.out.get 0 rfl) h0.out) rfl ?_)
      | (go_at_call 14; with_reducible refine (hri.out _).mono ?_; rintro e Wc ⟨rfl, hbc⟩; replace H := hide (H.out.call hbc); clear hbc))
    go_ret
    exact ⟨rfl, H.out.bel⟩
  · have h : errR s = 0 := by rw [hE.out, hR]; rfl
    rw [h] at hri
    obtain ⟨m, hm0⟩ : ∃ m, m = Nat.min a b := ⟨_, rfl⟩
    obtain ⟨M, hM0⟩ : ∃ M, M = Nat.max a b := ⟨_, rfl⟩
    have hm : Hid ((m : Int) = if (b : Int) < (a : Int) then (b : Int) else (a : Int)) := by rw [hm0]; exact min_int a b
    have hM : Hid ((M : Int) = if (b : Int) > (a : Int) then (b : Int) else (a : Int)) := by rw [hM0]; exact max_int a b
    have hmM : m ≤ M := by rw [hm0, hM0]; exact Nat.le_trans (Nat.min_le_left a b) (Nat.le_max_left a b)
    have hMm : (M ≤ m) ↔ a = b := by
      rw [hm0, hM0]
      have h1 : Nat.min a b ≤ a := Nat.min_le_left a b
      have h2 : Nat.min a b ≤ b := Nat.min_le_right a b
      have h3 : a ≤ Nat.max a b := Nat.le_max_left a b
      have h4 : b ≤ Nat.max a b := Nat.le_max_right a b
      constructor
      · intro h; omega
      · rintro rfl
        rw [show Nat.min a a = a from Nat.min_self a, show Nat.max a a = a from Nat.max_self a]
        exact Nat.le_refl a
    have hmb : m < 18446744073709551616 := Nat.lt_of_le_of_lt (by rw [hm0]; exact Nat.min_le_left a b) ha
    have hMb : M < 18446744073709551616 := by rw [hM0]; exact Nat.max_lt.2 ⟨ha, hb⟩
    obtain ⟨s01, hs01⟩ : ∃ x : Slot, x = { s with lo := m } := ⟨_, rfl⟩
    obtain ⟨s1, hs1e⟩ : ∃ x : Slot, x = { s with lo := m, hi := M } := ⟨_, rfl⟩
    obtain ⟨s12, hs12⟩ : ∃ x : Slot, x = { s with lo := M, hi := M } := ⟨_, rfl⟩
    obtain ⟨s2, hs2e⟩ : ∃ x : Slot, x = { s with lo := M, hi := m } := ⟨_, rfl⟩
    have k01 : s01.ok := by rw [hs01]; exact ⟨hs.next, hs.box, hs.who, hs.epoch, hmb, hs.hi, hs.delay, hs.nonce, hs.mac⟩
    have k1 : s1.ok := by rw [hs1e]; exact ⟨hs.next, hs.box, hs.who, hs.epoch, hmb, hMb, hs.delay, hs.nonce, hs.mac⟩
    have k12 : s12.ok := by rw [hs12]; exact ⟨hs.next, hs.box, hs.who, hs.epoch, hMb, hMb, hs.delay, hs.nonce, hs.mac⟩
    have k2 : s2.ok := by rw [hs2e]; exact ⟨hs.next, hs.box, hs.who, hs.epoch, hMb, hmb, hs.delay, hs.nonce, hs.mac⟩
    have hs1 : Hid ((slotC s).set 37 (.int .u64 (m : Int)) = slotC s01) := by rw [hs01]; exact slotC_slo hs.nonce hs.mac m
    have hs2 : Hid ((slotC s01).set 38 (.int .u64 (M : Int)) = slotC s1) := by rw [hs01, hs1e]; exact slotC_shi (s := { s with lo := m }) hs.nonce hs.mac M
    have hs3 : Hid ((slotC s1).set 37 (.int .u64 (M : Int)) = slotC s12) := by rw [hs1e, hs12]; exact slotC_slo (s := { s with lo := m, hi := M }) hs.nonce hs.mac M
    have hs4 : Hid ((slotC s12).set 38 (.int .u64 (m : Int)) = slotC s2) := by rw [hs12, hs2e]; exact slotC_shi (s := { s with lo := M, hi := M }) hs.nonce hs.mac m
    have hc37 : Hid ((slotC s1)[37]? = some (.int .u64 (m : Int))) := by rw [hs1e]; exact slotC_lo (s := { s with lo := m, hi := M }) hs.nonce hs.mac
    have hc38 : Hid ((slotC s1)[38]? = some (.int .u64 (M : Int))) := by rw [hs1e]; exact slotC_hi (s := { s with lo := m, hi := M }) hs.nonce hs.mac
    have hR1 : rightB s1 = true := by rw [hs1e, times_right hR, decide_eq_true_eq]; exact hmM
    have hR2 : rightB s2 = decide (a = b) := by rw [hs2e, times_right hR]; exact decide_eq_decide.2 hMm
    have hen1 : Hid (∀ w, Calls Try.prog 15 #[.agg (slotC s1).toArray] w fun e w' => e = .returned (.tuple #[.agg (cellsB (outM s1)).toArray, .int .i64 0]) ∧ Below w.heap.size w w') := fun w => by
      have k := encode_any s1 k1 w
      rw [show errR s1 = 0 by unfold errR; rw [if_pos hR1]] at k
      exact k
    have hdX : Hid (∀ w, Calls Try.prog 17 #[.agg (cellsB (outM s1)).toArray] w fun e w' => e = .returned (.tuple #[.agg (slotC s1).toArray, .int .i64 0]) ∧ Below w.heap.size w w') := fun w => by
      have k := decode_any (outM s1) (outM_length k1) w
      rw [(right_back k1 hR1).1, (right_back k1 hR1).2] at k
      exact k
    have hen2 := hide (encode_any s2 k2)
    have hE2 : Hid (errR s2 = if rightB s2 = true then 0 else 1) := rfl
    have h01 := hide (slotC_length s01 k01.nonce k01.mac)
    have h1 := hide (slotC_length s1 k1.nonce k1.mac)
    have h1o := hide (slotC_one s1)
    have h12 := hide (slotC_length s12 k12.nonce k12.mac)
    have h2 := hide (slotC_length s2 k2.nonce k2.mac)
    have hX : Hid ((cellsB (outM s1)).length = 64) := by show _ = _; rw [cellsB_length]; exact outM_length k1
    have hY : Hid ((cellsB (outM s2)).length = 64) := by show _ = _; rw [cellsB_length]; exact outM_length k2
    have h11 : Hid (∀ w, (Op.equalIn 10000 32 (.agg (slotC s1).toArray) (.agg (slotC s1).toArray)).run Try.prog w = .ok true w) := fun w => by
      have h := eq_slot k1 k1 w
      rw [show slotEq s1 s1 = true from slotEq_iff.2 rfl] at h
      exact h
    rw [hR2] at hE2
    clear hs hs01 hs1e hs12 hs2e k01 k1 k12 k2 hR hR1 hR2 hE h ha hb hmM hMm hmb hMb hm0 hM0
    generalize slotC s = C0 at *
    generalize slotC s01 = C01 at *
    generalize slotC s1 = C1 at *
    generalize slotC s12 = C12 at *
    generalize slotC s2 = C2 at *
    generalize outM s1 = X at *
    generalize outM s2 = Y at *
    generalize errR s2 = E2 at *
    clear s01 s1 s12 s2
    by_cases hab : a = b
    · have h : E2 = 0 := by rw [hE2.out, decide_eq_true hab]; rfl
      subst h
      subst hab
      clear hE2
      have H := hide (At.start w)
      go_enter Try.func11, Try.ntmps11
      go_wp2_with (first
        | (with_reducible refine at_op (op := ⟨some 3, _, _, _, _, _⟩) ?_; (refine wpl_boxa (op := ⟨some 3, _, _, _, _, _⟩) rfl _ _ rfl (C0) rfl ?_); intro g3 W1 hB1 hg1 hF1; replace H := hide (H.out.box hg1 hF1 hB1); clear hB1 hg1 hF1)
        | (go_at_call 12; with_reducible refine (hsh.out _).mono ?_; rintro e Wc ⟨rfl, hbc⟩; replace H := hide (H.out.call hbc); clear hbc)
        | (with_reducible refine at_op (op := ⟨some 16, _, _, _, _, _⟩) ?_; refine wpl_held (op := ⟨some 16, _, _, _, _, _⟩) (.agg (C0).toArray) (held_loadf aggS _ rfl g3 rfl _ (C0) (H.out.get 0 rfl) h0.out) rfl ?_)
        | (go_at_call 14; with_reducible refine (hri.out _).mono ?_; rintro e Wc ⟨rfl, hbc⟩; replace H := hide (H.out.call hbc); clear hbc)
        | (with_reducible refine at_op (op := ⟨some 22, _, _, _, _, _⟩) ?_; refine wpl_held (op := ⟨some 22, _, _, _, _, _⟩) (.int .u64 (m : Int)) (held_mink _ _ _ _ rfl .u64 (a : Int) (a : Int) _ rfl rfl hm.out) rfl ?_)
        | (with_reducible refine at_op (op := ⟨none, .store _ (.tmp 23) _, _, _, _, _⟩) ?_; (refine wpl_store1 (op := ⟨none, _, _, _, _, _⟩) one64 rfl (.tmp 23) (.tmp 22) rfl g3 37 (.int .u64 (m : Int)) (C0) (C01) rfl rfl rfl _ (H.out.get 0 rfl) (by rw [h0.out]; decide) hs1.out ?_); intro W1 hB1 hF1; replace H := hide (H.out.store 0 rfl hF1 hB1); clear hB1 hF1)
        | (with_reducible refine at_op (op := ⟨some 26, _, _, _, _, _⟩) ?_; refine wpl_held (op := ⟨some 26, _, _, _, _, _⟩) (.int .u64 (M : Int)) (held_maxk _ _ _ _ rfl .u64 (a : Int) (a : Int) _ rfl rfl hM.out) rfl ?_)
        | (with_reducible refine at_op (op := ⟨none, .store _ (.tmp 27) _, _, _, _, _⟩) ?_; (refine wpl_store1 (op := ⟨none, _, _, _, _, _⟩) one64 rfl (.tmp 27) (.tmp 26) rfl g3 38 (.int .u64 (M : Int)) (C01) (C1) rfl rfl rfl _ (H.out.get 0 rfl) (by rw [h01.out]; decide) hs2.out ?_); intro W1 hB1 hF1; replace H := hide (H.out.store 0 rfl hF1 hB1); clear hB1 hF1)
        | (with_reducible refine at_op (op := ⟨some 29, _, _, _, _, _⟩) ?_; refine wpl_held (op := ⟨some 29, _, _, _, _, _⟩) (.agg (C1).toArray) (held_loadf aggS _ rfl g3 rfl _ (C1) (H.out.get 0 rfl) h1.out) rfl ?_)
        | (go_at_call 15; with_reducible refine (hen1.out _).mono ?_; rintro e Wc ⟨rfl, hbc⟩; replace H := hide (H.out.call hbc); clear hbc)
        | ((with_reducible refine wpl_alloca (op := ⟨some 8, _, _, _, _, _⟩) rfl _ rfl _ zero64 ?_); intro g8 W1 hB1 hg1 hF1)
        | ((with_reducible refine wpl_storea agg64b rfl (.tmp 8) (.tmp 31) rfl g8 (cellsB X) rfl rfl _ _ hB1 hX.out z64_len (cellsB_one _) ?_); intro W2 hB2 hF2; replace H := hide (H.out.var hg1 hF1 hF2 hB2); clear hB1 hg1 hF1 hB2 hF2)
        | (with_reducible refine at_op (op := ⟨some 34, _, _, _, _, _⟩) ?_; refine wpl_held (op := ⟨some 34, _, _, _, _, _⟩) (.agg (cellsB X).toArray) (held_loadf agg64b _ rfl g8 rfl _ (cellsB X) (H.out.get 1 rfl) hX.out) rfl ?_)
        | (go_at_call 17; with_reducible refine (hdX.out _).mono ?_; rintro e Wc ⟨rfl, hbc⟩; replace H := hide (H.out.call hbc); clear hbc)
        | ((with_reducible refine wpl_alloca (op := ⟨some 10, _, _, _, _, _⟩) rfl _ rfl _ zeroS ?_); intro g10 W1 hB1 hg1 hF1)
        | ((with_reducible refine wpl_storea aggS rfl (.tmp 10) (.tmp 36) rfl g10 (C1) rfl rfl _ _ hB1 h1.out slot0_len (h1o.out) ?_); intro W2 hB2 hF2; replace H := hide (H.out.var hg1 hF1 hF2 hB2); clear hB1 hg1 hF1 hB2 hF2)
        | (with_reducible refine at_op (op := ⟨some 38, _, _, _, _, _⟩) ?_; refine wpl_held (op := ⟨some 38, _, _, _, _, _⟩) (.agg (C1).toArray) (held_loadf aggS _ rfl g3 rfl _ (C1) (H.out.get 0 rfl) h1.out) rfl ?_)
        | ((with_reducible refine wpl_alloca (op := ⟨some 12, _, _, _, _, _⟩) rfl _ rfl _ zeroS ?_); intro g12 W1 hB1 hg1 hF1)
        | ((with_reducible refine wpl_storea aggS rfl (.tmp 12) (.tmp 38) rfl g12 (C1) rfl rfl _ _ hB1 h1.out slot0_len (h1o.out) ?_); intro W2 hB2 hF2; replace H := hide (H.out.var hg1 hF1 hF2 hB2); clear hB1 hg1 hF1 hB2 hF2)
        | (with_reducible refine at_op (op := ⟨some 40, _, _, _, _, _⟩) ?_; refine wpl_held (op := ⟨some 40, _, _, _, _, _⟩) (.int .u64 (M : Int)) (held_load1 Try.underlying30 rfl one64 _ rfl g3 38 rfl _ _ (.int .u64 (M : Int)) (H.out.get 0 rfl) hc38.out) rfl ?_)
        | (with_reducible refine at_op (op := ⟨none, .store _ (.tmp 41) _, _, _, _, _⟩) ?_; (refine wpl_store1 (op := ⟨none, _, _, _, _, _⟩) one64 rfl (.tmp 41) (.tmp 40) rfl g12 37 (.int .u64 (M : Int)) (C1) (C12) rfl rfl rfl _ (H.out.get 3 rfl) (by rw [h1.out]; decide) hs3.out ?_); intro W1 hB1 hF1; replace H := hide (H.out.store 3 rfl hF1 hB1); clear hB1 hF1)
        | (with_reducible refine at_op (op := ⟨some 43, _, _, _, _, _⟩) ?_; refine wpl_held (op := ⟨some 43, _, _, _, _, _⟩) (.int .u64 (m : Int)) (held_load1 Try.underlying30 rfl one64 _ rfl g3 37 rfl _ _ (.int .u64 (m : Int)) (H.out.get 0 rfl) hc37.out) rfl ?_)
        | (with_reducible refine at_op (op := ⟨none, .store _ (.tmp 44) _, _, _, _, _⟩) ?_; (refine wpl_store1 (op := ⟨none, _, _, _, _, _⟩) one64 rfl (.tmp 44) (.tmp 43) rfl g12 38 (.int .u64 (m : Int)) (C12) (C2) rfl rfl rfl _ (H.out.get 3 rfl) (by rw [h12.out]; decide) hs4.out ?_); intro W1 hB1 hF1; replace H := hide (H.out.store 3 rfl hF1 hB1); clear hB1 hF1)
        | (with_reducible refine at_op (op := ⟨some 46, _, _, _, _, _⟩) ?_; refine wpl_held (op := ⟨some 46, _, _, _, _, _⟩) (.agg (C2).toArray) (held_loadf aggS _ rfl g12 rfl _ (C2) (H.out.get 3 rfl) h2.out) rfl ?_)
        | (go_at_call 15; with_reducible refine (hen2.out _).mono ?_; rintro e Wc ⟨rfl, hbc⟩; replace H := hide (H.out.call hbc); clear hbc)
        | ((with_reducible refine wpl_alloca (op := ⟨some 13, _, _, _, _, _⟩) rfl _ rfl _ zero64 ?_); intro g13 W1 hB1 hg1 hF1)
        | ((with_reducible refine wpl_storea agg64b rfl (.tmp 13) (.tmp 48) rfl g13 (cellsB Y) rfl rfl _ _ hB1 hY.out z64_len (cellsB_one _) ?_); intro W2 hB2 hF2; replace H := hide (H.out.var hg1 hF1 hF2 hB2); clear hB1 hg1 hF1 hB2 hF2)
        | (with_reducible refine at_op (op := ⟨some 60, _, _, _, _, _⟩) ?_; refine wpl_held (op := ⟨some 60, _, _, _, _, _⟩) (.agg (C1).toArray) (held_loadf aggS _ rfl g10 rfl _ (C1) (H.out.get 2 rfl) h1.out) rfl ?_)
        | (with_reducible refine at_op (op := ⟨some 61, _, _, _, _, _⟩) ?_; refine wpl_held (op := ⟨some 61, _, _, _, _, _⟩) (.agg (C1).toArray) (held_loadf aggS _ rfl g3 rfl _ (C1) (H.out.get 0 rfl) h1.out) rfl ?_)
        | (with_reducible refine at_op (op := ⟨some 62, _, _, _, _, _⟩) ?_; refine wpl_held (op := ⟨some 62, _, _, _, _, _⟩) (.bool true) (held_eql _ _ _ _ rfl (C1) (C1) rfl rfl (true) (h11.out _) Try.eqGuardType32) rfl ?_))
      go_ret
      exact ⟨rfl, H.out.bel⟩
    · have h : E2 = 1 := by rw [hE2.out, decide_eq_false hab]; rfl
      subst h
      have hab2 : ((a : Int) == (b : Int)) = false := by simp; omega
      have hab3 : ¬ (a : Int) = (b : Int) := by omega
      clear hE2
      have H := hide (At.start w)
      go_enter Try.func11, Try.ntmps11
      go_wp2_with (first
        | (with_reducible refine at_op (op := ⟨some 3, _, _, _, _, _⟩) ?_; (refine wpl_boxa (op := ⟨some 3, _, _, _, _, _⟩) rfl _ _ rfl (C0) rfl ?_); intro g3 W1 hB1 hg1 hF1; replace H := hide (H.out.box hg1 hF1 hB1); clear hB1 hg1 hF1)
        | (go_at_call 12; with_reducible refine (hsh.out _).mono ?_; rintro e Wc ⟨rfl, hbc⟩; replace H := hide (H.out.call hbc); clear hbc)
        | (with_reducible refine at_op (op := ⟨some 16, _, _, _, _, _⟩) ?_; refine wpl_held (op := ⟨some 16, _, _, _, _, _⟩) (.agg (C0).toArray) (held_loadf aggS _ rfl g3 rfl _ (C0) (H.out.get 0 rfl) h0.out) rfl ?_)
        | (go_at_call 14; with_reducible refine (hri.out _).mono ?_; rintro e Wc ⟨rfl, hbc⟩; replace H := hide (H.out.call hbc); clear hbc)
        | (with_reducible refine at_op (op := ⟨some 22, _, _, _, _, _⟩) ?_; refine wpl_held (op := ⟨some 22, _, _, _, _, _⟩) (.int .u64 (m : Int)) (held_mink _ _ _ _ rfl .u64 (a : Int) (b : Int) _ rfl rfl hm.out) rfl ?_)
        | (with_reducible refine at_op (op := ⟨none, .store _ (.tmp 23) _, _, _, _, _⟩) ?_; (refine wpl_store1 (op := ⟨none, _, _, _, _, _⟩) one64 rfl (.tmp 23) (.tmp 22) rfl g3 37 (.int .u64 (m : Int)) (C0) (C01) rfl rfl rfl _ (H.out.get 0 rfl) (by rw [h0.out]; decide) hs1.out ?_); intro W1 hB1 hF1; replace H := hide (H.out.store 0 rfl hF1 hB1); clear hB1 hF1)
        | (with_reducible refine at_op (op := ⟨some 26, _, _, _, _, _⟩) ?_; refine wpl_held (op := ⟨some 26, _, _, _, _, _⟩) (.int .u64 (M : Int)) (held_maxk _ _ _ _ rfl .u64 (a : Int) (b : Int) _ rfl rfl hM.out) rfl ?_)
        | (with_reducible refine at_op (op := ⟨none, .store _ (.tmp 27) _, _, _, _, _⟩) ?_; (refine wpl_store1 (op := ⟨none, _, _, _, _, _⟩) one64 rfl (.tmp 27) (.tmp 26) rfl g3 38 (.int .u64 (M : Int)) (C01) (C1) rfl rfl rfl _ (H.out.get 0 rfl) (by rw [h01.out]; decide) hs2.out ?_); intro W1 hB1 hF1; replace H := hide (H.out.store 0 rfl hF1 hB1); clear hB1 hF1)
        | (with_reducible refine at_op (op := ⟨some 29, _, _, _, _, _⟩) ?_; refine wpl_held (op := ⟨some 29, _, _, _, _, _⟩) (.agg (C1).toArray) (held_loadf aggS _ rfl g3 rfl _ (C1) (H.out.get 0 rfl) h1.out) rfl ?_)
        | (go_at_call 15; with_reducible refine (hen1.out _).mono ?_; rintro e Wc ⟨rfl, hbc⟩; replace H := hide (H.out.call hbc); clear hbc)
        | ((with_reducible refine wpl_alloca (op := ⟨some 8, _, _, _, _, _⟩) rfl _ rfl _ zero64 ?_); intro g8 W1 hB1 hg1 hF1)
        | ((with_reducible refine wpl_storea agg64b rfl (.tmp 8) (.tmp 31) rfl g8 (cellsB X) rfl rfl _ _ hB1 hX.out z64_len (cellsB_one _) ?_); intro W2 hB2 hF2; replace H := hide (H.out.var hg1 hF1 hF2 hB2); clear hB1 hg1 hF1 hB2 hF2)
        | (with_reducible refine at_op (op := ⟨some 34, _, _, _, _, _⟩) ?_; refine wpl_held (op := ⟨some 34, _, _, _, _, _⟩) (.agg (cellsB X).toArray) (held_loadf agg64b _ rfl g8 rfl _ (cellsB X) (H.out.get 1 rfl) hX.out) rfl ?_)
        | (go_at_call 17; with_reducible refine (hdX.out _).mono ?_; rintro e Wc ⟨rfl, hbc⟩; replace H := hide (H.out.call hbc); clear hbc)
        | ((with_reducible refine wpl_alloca (op := ⟨some 10, _, _, _, _, _⟩) rfl _ rfl _ zeroS ?_); intro g10 W1 hB1 hg1 hF1)
        | ((with_reducible refine wpl_storea aggS rfl (.tmp 10) (.tmp 36) rfl g10 (C1) rfl rfl _ _ hB1 h1.out slot0_len (h1o.out) ?_); intro W2 hB2 hF2; replace H := hide (H.out.var hg1 hF1 hF2 hB2); clear hB1 hg1 hF1 hB2 hF2)
        | (with_reducible refine at_op (op := ⟨some 38, _, _, _, _, _⟩) ?_; refine wpl_held (op := ⟨some 38, _, _, _, _, _⟩) (.agg (C1).toArray) (held_loadf aggS _ rfl g3 rfl _ (C1) (H.out.get 0 rfl) h1.out) rfl ?_)
        | ((with_reducible refine wpl_alloca (op := ⟨some 12, _, _, _, _, _⟩) rfl _ rfl _ zeroS ?_); intro g12 W1 hB1 hg1 hF1)
        | ((with_reducible refine wpl_storea aggS rfl (.tmp 12) (.tmp 38) rfl g12 (C1) rfl rfl _ _ hB1 h1.out slot0_len (h1o.out) ?_); intro W2 hB2 hF2; replace H := hide (H.out.var hg1 hF1 hF2 hB2); clear hB1 hg1 hF1 hB2 hF2)
        | (with_reducible refine at_op (op := ⟨some 40, _, _, _, _, _⟩) ?_; refine wpl_held (op := ⟨some 40, _, _, _, _, _⟩) (.int .u64 (M : Int)) (held_load1 Try.underlying30 rfl one64 _ rfl g3 38 rfl _ _ (.int .u64 (M : Int)) (H.out.get 0 rfl) hc38.out) rfl ?_)
        | (with_reducible refine at_op (op := ⟨none, .store _ (.tmp 41) _, _, _, _, _⟩) ?_; (refine wpl_store1 (op := ⟨none, _, _, _, _, _⟩) one64 rfl (.tmp 41) (.tmp 40) rfl g12 37 (.int .u64 (M : Int)) (C1) (C12) rfl rfl rfl _ (H.out.get 3 rfl) (by rw [h1.out]; decide) hs3.out ?_); intro W1 hB1 hF1; replace H := hide (H.out.store 3 rfl hF1 hB1); clear hB1 hF1)
        | (with_reducible refine at_op (op := ⟨some 43, _, _, _, _, _⟩) ?_; refine wpl_held (op := ⟨some 43, _, _, _, _, _⟩) (.int .u64 (m : Int)) (held_load1 Try.underlying30 rfl one64 _ rfl g3 37 rfl _ _ (.int .u64 (m : Int)) (H.out.get 0 rfl) hc37.out) rfl ?_)
        | (with_reducible refine at_op (op := ⟨none, .store _ (.tmp 44) _, _, _, _, _⟩) ?_; (refine wpl_store1 (op := ⟨none, _, _, _, _, _⟩) one64 rfl (.tmp 44) (.tmp 43) rfl g12 38 (.int .u64 (m : Int)) (C12) (C2) rfl rfl rfl _ (H.out.get 3 rfl) (by rw [h12.out]; decide) hs4.out ?_); intro W1 hB1 hF1; replace H := hide (H.out.store 3 rfl hF1 hB1); clear hB1 hF1)
        | (with_reducible refine at_op (op := ⟨some 46, _, _, _, _, _⟩) ?_; refine wpl_held (op := ⟨some 46, _, _, _, _, _⟩) (.agg (C2).toArray) (held_loadf aggS _ rfl g12 rfl _ (C2) (H.out.get 3 rfl) h2.out) rfl ?_)
        | (go_at_call 15; with_reducible refine (hen2.out _).mono ?_; rintro e Wc ⟨rfl, hbc⟩; replace H := hide (H.out.call hbc); clear hbc)
        | ((with_reducible refine wpl_alloca (op := ⟨some 13, _, _, _, _, _⟩) rfl _ rfl _ zero64 ?_); intro g13 W1 hB1 hg1 hF1)
        | ((with_reducible refine wpl_storea agg64b rfl (.tmp 13) (.tmp 48) rfl g13 (cellsB Y) rfl rfl _ _ hB1 hY.out z64_len (cellsB_one _) ?_); intro W2 hB2 hF2; replace H := hide (H.out.var hg1 hF1 hF2 hB2); clear hB1 hg1 hF1 hB2 hF2)
        | (with_reducible refine at_op (op := ⟨some 60, _, _, _, _, _⟩) ?_; refine wpl_held (op := ⟨some 60, _, _, _, _, _⟩) (.agg (C1).toArray) (held_loadf aggS _ rfl g10 rfl _ (C1) (H.out.get 2 rfl) h1.out) rfl ?_)
        | (with_reducible refine at_op (op := ⟨some 61, _, _, _, _, _⟩) ?_; refine wpl_held (op := ⟨some 61, _, _, _, _, _⟩) (.agg (C1).toArray) (held_loadf aggS _ rfl g3 rfl _ (C1) (H.out.get 0 rfl) h1.out) rfl ?_)
        | (with_reducible refine at_op (op := ⟨some 62, _, _, _, _, _⟩) ?_; refine wpl_held (op := ⟨some 62, _, _, _, _, _⟩) (.bool true) (held_eql _ _ _ _ rfl (C1) (C1) rfl rfl (true) (h11.out _) Try.eqGuardType32) rfl ?_))
      go_ret
      exact ⟨rfl, H.out.bel⟩
end Go.Proofs.Ytedodbejbkdplaa
