/-
  SlotFields: the walk.
-/
import Derived.Test.YtedodbejbkdplaaTimesW
namespace Go.Proofs.Ytedodbejbkdplaa
set_option linter.unusedVariables false
set_option linter.unusedSimpArgs false
open Go.RowKit

theorem kind_on {s : Slot} (hl : s.last = false) (h : rightB s = true) : s.box = 0 ∧ s.lo ≤ s.hi := by
  rw [rightB_on hl, Bool.and_eq_true, decide_eq_true_eq, nateq_iff] at h
  exact ⟨h.2, h.1⟩
theorem kind_last {s : Slot} (hl : s.last = true) (h : rightB s = true) : s.next = 0 ∧ s.who = 0 ∧ s.epoch = 0 ∧ s.nonce = Z16 ∧ s.mac = Z16 ∧ s.lo ≤ s.hi := by
  rw [rightB_last hl] at h
  simp only [Bool.and_eq_true, decide_eq_true_eq, nateq_iff, beq_iff_eq] at h
  obtain ⟨h0, h1, h2, h3, h4, h5⟩ := h
  exact ⟨h1, h2, h3, h4, h5, h0⟩
theorem set_not_zero (l : List UInt8) (i : Nat) (x : UInt8) (hl : l.length = 16) (hi : i < 16) (hx : x ≠ 0) : (l.set i x == Z16) = false := by
  rw [Bool.eq_false_iff]
  intro h
  have h : l.set i x = Z16 := by simpa using h
  have h1 := congrArg (fun m => m[i]?) h
  simp only [List.getElem?_set_self (show i < l.length by omega)] at h1
  have h2 : Z16[i]? = some 0 := by unfold Z16; rw [List.getElem?_replicate, if_pos hi]
  rw [h2] at h1
  injection h1 with h1
  exact hx h1
theorem byte_up (n : Nat) (hn : n < 65536) : ∃ x : UInt8, x ≠ 0 ∧ (((n : Int) % 255) % 256 + 1) % 256 = (x.toNat : Int) ∧ (n : Int) % 255 + 1 = (x.toNat : Int) := by
  refine ⟨UInt8.ofNat (n % 255 + 1), ?_, ?_, ?_⟩
  · intro h
    have := congrArg UInt8.toNat h
    rw [UInt8.toNat_ofNat'] at this
    have h0 : (0 : UInt8).toNat = 0 := rfl
    omega
  · rw [UInt8.toNat_ofNat']; omega
  · rw [UInt8.toNat_ofNat']; omega
theorem slotC_nonce_set {s : Slot} (h1 : s.nonce.length = 16) (i : Nat) (hi : i < 16) (x : UInt8) : (slotC s).set (5 + i) (.int .u8 (x.toNat : Int)) = slotC { s with nonce := s.nonce.set i x } := by
  show (_ :: _ :: _ :: _ :: _ :: (cellsB s.nonce ++ _)).set (5 + i) _ = _
  rw [Nat.add_comm]
  simp only [List.set_cons_succ]
  rw [List.set_append_left _ _ (by rw [cellsB_length]; omega), cellsB_set]
  rfl
theorem slotC_mac_set {s : Slot} (h1 : s.nonce.length = 16) (h2 : s.mac.length = 16) (i : Nat) (hi : i < 16) (x : UInt8) : (slotC s).set (21 + i) (.int .u8 (x.toNat : Int)) = slotC { s with mac := s.mac.set i x } := by
  have e : 21 + i = (16 + i) + 5 := by omega
  rw [e]
  show (_ :: _ :: _ :: _ :: _ :: (cellsB s.nonce ++ (cellsB s.mac ++ _))).set (16 + i + 5) _ = _
  simp only [List.set_cons_succ]
  rw [List.set_append_right _ _ (by rw [cellsB_length]; omega), cellsB_length, h1, show 16 + i - 16 = i by omega, List.set_append_left _ _ (by rw [cellsB_length]; omega), cellsB_set]
  rfl
/-- What the law turns, and whether it is right still. -/
structure Turn (s T : Slot) (f : Nat) (lo : Nat) (want : Bool) : Prop where
  ok : T.ok
  lo : T.lo = lo
  hi : T.hi = s.hi
  right : rightB T = want

set_option maxHeartbeats 16000000 in
set_option maxRecDepth 100000 in
theorem field0_walk (s : Slot) (hs : s.ok) (a : Int) (n : Nat) (hn : n < 65536) (hn0 : n ≠ 0) (hR : rightB s = true) (hf : a % 65536 % 8 = 0) (w : World) : Calls Try.prog 6 #[.agg (slotC s).toArray, .int .i64 a, .int .u16 (n : Int)] w fun e w' => e = .returned (.bool true) ∧ Below w.heap.size w w' := by
  have hsh := hide shown_any
  have hri := hide (right_any s hs)
  have h0 := hide (slotC_length s hs.nonce hs.mac)
  have h0o := hide (slotC_one s)
  have hE : Hid (errR s = if rightB s = true then 0 else 1) := rfl
  have h : errR s = 0 := by rw [hE.out, hR]; rfl
  rw [h] at hri
  clear h
  have hmask := mask16 a
  have hn1 : ((n : Int) == 0) = false := by simp; omega
  have hn2 : ¬ (n : Int) = 0 := by omega
  obtain ⟨T, hT⟩ : ∃ y : Slot, y = { s with next := n } := ⟨_, rfl⟩
  have kT : T.ok := by rw [hT]; exact ⟨(by simp only; omega), hs.box, hs.who, hs.epoch, hs.lo, hs.hi, hs.delay, hs.nonce, hs.mac⟩
  have hst : Hid ((slotC s).set (1) (.int .u16 (n : Int)) = slotC T) := by rw [hT]; exact rfl
  have hTl : T.last = s.last := by rw [hT]
  have hTlo : T.lo = s.lo := by rw [hT]
  have hThi : T.hi = s.hi := by rw [hT]
  have hri1 := hide (right_any T kT)
  have hE1 : Hid (errR T = if rightB T = true then 0 else 1) := rfl
  have h1 := hide (slotC_length T kT.nonce kT.mac)
  obtain ⟨lo, hlo0⟩ : ∃ x, x = T.lo := ⟨_, rfl⟩
  obtain ⟨hi, hhi0⟩ : ∃ x, x = T.hi := ⟨_, rfl⟩
  have hlo : Hid ((slotC T)[37]? = some (.int .u64 (lo : Int))) := by rw [hlo0]; exact slotC_lo kT.nonce kT.mac
  have hhi : Hid ((slotC T)[38]? = some (.int .u64 (hi : Int))) := by rw [hhi0]; exact slotC_hi kT.nonce kT.mac
  have hla0 : Hid ((slotC s)[0]? = some (.bool s.last)) := rfl
  have wn1 : IntKind.u32.wrap (n : Int) = (n : Int) := by rw [IntKind.wrap_u32]; omega
  have wn2 : IntKind.u64.wrap (n : Int) = (n : Int) := by rw [IntKind.wrap_u64]; omega
  rcases hl : s.last with _ | _
  · have hle : lo ≤ hi := by rw [hlo0, hhi0, hTlo, hThi]; exact (kind_on hl hR).2
    have hRT : rightB T = true := by rw [rightB_on (hTl.trans hl), show T.box = 0 by rw [hT]; exact (kind_on hl hR).1, ← hlo0, ← hhi0, decide_eq_true hle]; rfl
    rw [hl] at hla0
    have hla := hla0
    rw [hRT] at hE1
    clear hTl hTlo hThi kT hs hR hlo0 hhi0 hl hE hRT hT
    generalize slotC s = C0 at *
    generalize slotC T = C1 at *
    generalize errR T = E1 at *
    clear T s
    have h : E1 = 0 := hE1.out
    subst h
    have hd1 : decide (lo ≤ hi) = true := decide_eq_true hle
    have hd2 : (lo : Int) ≤ (hi : Int) := by omega
    clear hE1
    have H := hide (At.start w)
    go_enter Try.func6, Try.ntmps6
    go_wp2_with (first
      | (with_reducible refine at_op (op := ⟨some 3, _, _, _, _, _⟩) ?_; (refine wpl_boxa (op := ⟨some 3, _, _, _, _, _⟩) rfl _ _ rfl (C0) rfl ?_); intro g3 W1 hB1 hg1 hF1; replace H := hide (H.out.box hg1 hF1 hB1); clear hB1 hg1 hF1)
      | (go_at_call 12; with_reducible refine (hsh.out _).mono ?_; rintro e Wc ⟨rfl, hbc⟩; replace H := hide (H.out.call hbc); clear hbc)
      | (with_reducible refine at_op (op := ⟨some 11, _, _, _, _, _⟩) ?_; refine wpl_held (op := ⟨some 11, _, _, _, _, _⟩) (.agg (C0).toArray) (held_loadf aggS _ rfl g3 rfl _ (C0) (H.out.get 0 rfl) h0.out) rfl ?_)
      | (go_at_call 14; with_reducible refine (hri.out _).mono ?_; rintro e Wc ⟨rfl, hbc⟩; replace H := hide (H.out.call hbc); clear hbc)
      | (with_reducible refine at_op (op := ⟨some 22, _, _, _, _, _⟩) ?_; refine wpl_held (op := ⟨some 22, _, _, _, _, _⟩) (.agg (C0).toArray) (held_loadf aggS _ rfl g3 rfl _ (C0) (H.out.get 0 rfl) h0.out) rfl ?_)
      | ((with_reducible refine wpl_alloca (op := ⟨some 8, _, _, _, _, _⟩) rfl _ rfl _ zeroS ?_); intro g8 W1 hB1 hg1 hF1)
      | ((with_reducible refine wpl_storea aggS rfl (.tmp 8) (.tmp 22) rfl g8 (C0) rfl rfl _ _ hB1 h0.out slot0_len (h0o.out) ?_); intro W2 hB2 hF2; replace H := hide (H.out.var hg1 hF1 hF2 hB2); clear hB1 hg1 hF1 hB2 hF2)
      | (with_reducible refine at_op (op := ⟨none, .store _ (.tmp 27) _, _, _, _, _⟩) ?_; (refine wpl_store1 (op := ⟨none, _, _, _, _, _⟩) one16a rfl (.tmp 27) (.tmp 26) rfl g8 1 (.int .u16 (n : Int)) (C0) (C1) rfl rfl rfl _ (H.out.get 1 rfl) (by rw [h0.out]; decide) hst.out ?_); intro W1 hB1 hF1; replace H := hide (H.out.store 1 rfl hF1 hB1); clear hB1 hF1)
      | (with_reducible refine at_op (op := ⟨some 72, _, _, _, _, _⟩) ?_; refine wpl_held (op := ⟨some 72, _, _, _, _, _⟩) (.int .u64 (lo : Int)) (held_load1 Try.underlying30 rfl one64 _ rfl g8 37 rfl _ _ (.int .u64 (lo : Int)) (H.out.get 1 rfl) hlo.out) rfl ?_)
      | (with_reducible refine at_op (op := ⟨some 74, _, _, _, _, _⟩) ?_; refine wpl_held (op := ⟨some 74, _, _, _, _, _⟩) (.int .u64 (hi : Int)) (held_load1 Try.underlying30 rfl one64 _ rfl g8 38 rfl _ _ (.int .u64 (hi : Int)) (H.out.get 1 rfl) hhi.out) rfl ?_)
      | (with_reducible refine at_op (op := ⟨some 77, _, _, _, _, _⟩) ?_; refine wpl_held (op := ⟨some 77, _, _, _, _, _⟩) (.bool false) (held_load1 Try.underlying4 rfl oneBool _ rfl g3 0 rfl _ _ (.bool false) (H.out.get 0 rfl) hla.out) rfl ?_)
      | (with_reducible refine at_op (op := ⟨some 88, _, _, _, _, _⟩) ?_; refine wpl_held (op := ⟨some 88, _, _, _, _, _⟩) (.bool false) (held_load1 Try.underlying4 rfl oneBool _ rfl g3 0 rfl _ _ (.bool false) (H.out.get 0 rfl) hla.out) rfl ?_)
      | (with_reducible refine at_op (op := ⟨some 97, _, _, _, _, _⟩) ?_; refine wpl_held (op := ⟨some 97, _, _, _, _, _⟩) (.agg (C1).toArray) (held_loadf aggS _ rfl g8 rfl _ (C1) (H.out.get 1 rfl) h1.out) rfl ?_)
      | (go_at_call 14; with_reducible refine (hri1.out _).mono ?_; rintro e Wc ⟨rfl, hbc⟩; replace H := hide (H.out.call hbc); clear hbc))
    go_ret
    exact ⟨rfl, H.out.bel⟩
  · have hle : lo ≤ hi := by rw [hlo0, hhi0, hTlo, hThi]; exact (kind_last hl hR).2.2.2.2.2
    have hRT : rightB T = false := by rw [rightB_last (hTl.trans hl), show T.next = n by rw [hT], show nateq n 0 = false from by rw [Bool.eq_false_iff]; intro h; exact hn0 (nateq_iff.1 h)]; simp
    rw [hl] at hla0
    have hla := hla0
    rw [hRT] at hE1
    clear hTl hTlo hThi kT hs hR hlo0 hhi0 hl hE hRT hT
    generalize slotC s = C0 at *
    generalize slotC T = C1 at *
    generalize errR T = E1 at *
    clear T s
    have h : E1 = 1 := hE1.out
    subst h
    have hd1 : decide (lo ≤ hi) = true := decide_eq_true hle
    have hd2 : (lo : Int) ≤ (hi : Int) := by omega
    clear hE1
    have H := hide (At.start w)
    go_enter Try.func6, Try.ntmps6
    go_wp2_with (first
      | (with_reducible refine at_op (op := ⟨some 3, _, _, _, _, _⟩) ?_; (refine wpl_boxa (op := ⟨some 3, _, _, _, _, _⟩) rfl _ _ rfl (C0) rfl ?_); intro g3 W1 hB1 hg1 hF1; replace H := hide (H.out.box hg1 hF1 hB1); clear hB1 hg1 hF1)
      | (go_at_call 12; with_reducible refine (hsh.out _).mono ?_; rintro e Wc ⟨rfl, hbc⟩; replace H := hide (H.out.call hbc); clear hbc)
      | (with_reducible refine at_op (op := ⟨some 11, _, _, _, _, _⟩) ?_; refine wpl_held (op := ⟨some 11, _, _, _, _, _⟩) (.agg (C0).toArray) (held_loadf aggS _ rfl g3 rfl _ (C0) (H.out.get 0 rfl) h0.out) rfl ?_)
      | (go_at_call 14; with_reducible refine (hri.out _).mono ?_; rintro e Wc ⟨rfl, hbc⟩; replace H := hide (H.out.call hbc); clear hbc)
      | (with_reducible refine at_op (op := ⟨some 22, _, _, _, _, _⟩) ?_; refine wpl_held (op := ⟨some 22, _, _, _, _, _⟩) (.agg (C0).toArray) (held_loadf aggS _ rfl g3 rfl _ (C0) (H.out.get 0 rfl) h0.out) rfl ?_)
      | ((with_reducible refine wpl_alloca (op := ⟨some 8, _, _, _, _, _⟩) rfl _ rfl _ zeroS ?_); intro g8 W1 hB1 hg1 hF1)
      | ((with_reducible refine wpl_storea aggS rfl (.tmp 8) (.tmp 22) rfl g8 (C0) rfl rfl _ _ hB1 h0.out slot0_len (h0o.out) ?_); intro W2 hB2 hF2; replace H := hide (H.out.var hg1 hF1 hF2 hB2); clear hB1 hg1 hF1 hB2 hF2)
      | (with_reducible refine at_op (op := ⟨none, .store _ (.tmp 27) _, _, _, _, _⟩) ?_; (refine wpl_store1 (op := ⟨none, _, _, _, _, _⟩) one16a rfl (.tmp 27) (.tmp 26) rfl g8 1 (.int .u16 (n : Int)) (C0) (C1) rfl rfl rfl _ (H.out.get 1 rfl) (by rw [h0.out]; decide) hst.out ?_); intro W1 hB1 hF1; replace H := hide (H.out.store 1 rfl hF1 hB1); clear hB1 hF1)
      | (with_reducible refine at_op (op := ⟨some 72, _, _, _, _, _⟩) ?_; refine wpl_held (op := ⟨some 72, _, _, _, _, _⟩) (.int .u64 (lo : Int)) (held_load1 Try.underlying30 rfl one64 _ rfl g8 37 rfl _ _ (.int .u64 (lo : Int)) (H.out.get 1 rfl) hlo.out) rfl ?_)
      | (with_reducible refine at_op (op := ⟨some 74, _, _, _, _, _⟩) ?_; refine wpl_held (op := ⟨some 74, _, _, _, _, _⟩) (.int .u64 (hi : Int)) (held_load1 Try.underlying30 rfl one64 _ rfl g8 38 rfl _ _ (.int .u64 (hi : Int)) (H.out.get 1 rfl) hhi.out) rfl ?_)
      | (with_reducible refine at_op (op := ⟨some 77, _, _, _, _, _⟩) ?_; refine wpl_held (op := ⟨some 77, _, _, _, _, _⟩) (.bool true) (held_load1 Try.underlying4 rfl oneBool _ rfl g3 0 rfl _ _ (.bool true) (H.out.get 0 rfl) hla.out) rfl ?_)
      | (with_reducible refine at_op (op := ⟨some 88, _, _, _, _, _⟩) ?_; refine wpl_held (op := ⟨some 88, _, _, _, _, _⟩) (.bool true) (held_load1 Try.underlying4 rfl oneBool _ rfl g3 0 rfl _ _ (.bool true) (H.out.get 0 rfl) hla.out) rfl ?_)
      | (with_reducible refine at_op (op := ⟨some 97, _, _, _, _, _⟩) ?_; refine wpl_held (op := ⟨some 97, _, _, _, _, _⟩) (.agg (C1).toArray) (held_loadf aggS _ rfl g8 rfl _ (C1) (H.out.get 1 rfl) h1.out) rfl ?_)
      | (go_at_call 14; with_reducible refine (hri1.out _).mono ?_; rintro e Wc ⟨rfl, hbc⟩; replace H := hide (H.out.call hbc); clear hbc))
    go_ret
    exact ⟨rfl, H.out.bel⟩

set_option maxHeartbeats 16000000 in
set_option maxRecDepth 100000 in
theorem field1_walk (s : Slot) (hs : s.ok) (a : Int) (n : Nat) (hn : n < 65536) (hn0 : n ≠ 0) (hR : rightB s = true) (hf : a % 65536 % 8 = 1) (w : World) : Calls Try.prog 6 #[.agg (slotC s).toArray, .int .i64 a, .int .u16 (n : Int)] w fun e w' => e = .returned (.bool true) ∧ Below w.heap.size w w' := by
  have hsh := hide shown_any
  have hri := hide (right_any s hs)
  have h0 := hide (slotC_length s hs.nonce hs.mac)
  have h0o := hide (slotC_one s)
  have hE : Hid (errR s = if rightB s = true then 0 else 1) := rfl
  have h : errR s = 0 := by rw [hE.out, hR]; rfl
  rw [h] at hri
  clear h
  have hmask := mask16 a
  have hn1 : ((n : Int) == 0) = false := by simp; omega
  have hn2 : ¬ (n : Int) = 0 := by omega
  obtain ⟨T, hT⟩ : ∃ y : Slot, y = { s with box := n } := ⟨_, rfl⟩
  have kT : T.ok := by rw [hT]; exact ⟨hs.next, (by simp only; omega), hs.who, hs.epoch, hs.lo, hs.hi, hs.delay, hs.nonce, hs.mac⟩
  have hst : Hid ((slotC s).set (2) (.int .u16 (n : Int)) = slotC T) := by rw [hT]; exact rfl
  have hTl : T.last = s.last := by rw [hT]
  have hTlo : T.lo = s.lo := by rw [hT]
  have hThi : T.hi = s.hi := by rw [hT]
  have hri1 := hide (right_any T kT)
  have hE1 : Hid (errR T = if rightB T = true then 0 else 1) := rfl
  have h1 := hide (slotC_length T kT.nonce kT.mac)
  obtain ⟨lo, hlo0⟩ : ∃ x, x = T.lo := ⟨_, rfl⟩
  obtain ⟨hi, hhi0⟩ : ∃ x, x = T.hi := ⟨_, rfl⟩
  have hlo : Hid ((slotC T)[37]? = some (.int .u64 (lo : Int))) := by rw [hlo0]; exact slotC_lo kT.nonce kT.mac
  have hhi : Hid ((slotC T)[38]? = some (.int .u64 (hi : Int))) := by rw [hhi0]; exact slotC_hi kT.nonce kT.mac
  have hla0 : Hid ((slotC s)[0]? = some (.bool s.last)) := rfl
  have wn1 : IntKind.u32.wrap (n : Int) = (n : Int) := by rw [IntKind.wrap_u32]; omega
  have wn2 : IntKind.u64.wrap (n : Int) = (n : Int) := by rw [IntKind.wrap_u64]; omega
  rcases hl : s.last with _ | _
  · have hle : lo ≤ hi := by rw [hlo0, hhi0, hTlo, hThi]; exact (kind_on hl hR).2
    have hRT : rightB T = false := by rw [rightB_on (hTl.trans hl), show T.box = n by rw [hT]]; simp [nateq]; omega
    rw [hl] at hla0
    have hla := hla0
    rw [hRT] at hE1
    clear hTl hTlo hThi kT hs hR hlo0 hhi0 hl hE hRT hT
    generalize slotC s = C0 at *
    generalize slotC T = C1 at *
    generalize errR T = E1 at *
    clear T s
    have h : E1 = 1 := hE1.out
    subst h
    have hd1 : decide (lo ≤ hi) = true := decide_eq_true hle
    have hd2 : (lo : Int) ≤ (hi : Int) := by omega
    clear hE1
    have H := hide (At.start w)
    go_enter Try.func6, Try.ntmps6
    go_wp2_with (first
      | (with_reducible refine at_op (op := ⟨some 3, _, _, _, _, _⟩) ?_; (refine wpl_boxa (op := ⟨some 3, _, _, _, _, _⟩) rfl _ _ rfl (C0) rfl ?_); intro g3 W1 hB1 hg1 hF1; replace H := hide (H.out.box hg1 hF1 hB1); clear hB1 hg1 hF1)
      | (go_at_call 12; with_reducible refine (hsh.out _).mono ?_; rintro e Wc ⟨rfl, hbc⟩; replace H := hide (H.out.call hbc); clear hbc)
      | (with_reducible refine at_op (op := ⟨some 11, _, _, _, _, _⟩) ?_; refine wpl_held (op := ⟨some 11, _, _, _, _, _⟩) (.agg (C0).toArray) (held_loadf aggS _ rfl g3 rfl _ (C0) (H.out.get 0 rfl) h0.out) rfl ?_)
      | (go_at_call 14; with_reducible refine (hri.out _).mono ?_; rintro e Wc ⟨rfl, hbc⟩; replace H := hide (H.out.call hbc); clear hbc)
      | (with_reducible refine at_op (op := ⟨some 22, _, _, _, _, _⟩) ?_; refine wpl_held (op := ⟨some 22, _, _, _, _, _⟩) (.agg (C0).toArray) (held_loadf aggS _ rfl g3 rfl _ (C0) (H.out.get 0 rfl) h0.out) rfl ?_)
      | ((with_reducible refine wpl_alloca (op := ⟨some 8, _, _, _, _, _⟩) rfl _ rfl _ zeroS ?_); intro g8 W1 hB1 hg1 hF1)
      | ((with_reducible refine wpl_storea aggS rfl (.tmp 8) (.tmp 22) rfl g8 (C0) rfl rfl _ _ hB1 h0.out slot0_len (h0o.out) ?_); intro W2 hB2 hF2; replace H := hide (H.out.var hg1 hF1 hF2 hB2); clear hB1 hg1 hF1 hB2 hF2)
      | (with_reducible refine at_op (op := ⟨none, .store _ (.tmp 31) _, _, _, _, _⟩) ?_; (refine wpl_store1 (op := ⟨none, _, _, _, _, _⟩) one16b rfl (.tmp 31) (.tmp 30) rfl g8 2 (.int .u16 (n : Int)) (C0) (C1) rfl rfl rfl _ (H.out.get 1 rfl) (by rw [h0.out]; decide) hst.out ?_); intro W1 hB1 hF1; replace H := hide (H.out.store 1 rfl hF1 hB1); clear hB1 hF1)
      | (with_reducible refine at_op (op := ⟨some 72, _, _, _, _, _⟩) ?_; refine wpl_held (op := ⟨some 72, _, _, _, _, _⟩) (.int .u64 (lo : Int)) (held_load1 Try.underlying30 rfl one64 _ rfl g8 37 rfl _ _ (.int .u64 (lo : Int)) (H.out.get 1 rfl) hlo.out) rfl ?_)
      | (with_reducible refine at_op (op := ⟨some 74, _, _, _, _, _⟩) ?_; refine wpl_held (op := ⟨some 74, _, _, _, _, _⟩) (.int .u64 (hi : Int)) (held_load1 Try.underlying30 rfl one64 _ rfl g8 38 rfl _ _ (.int .u64 (hi : Int)) (H.out.get 1 rfl) hhi.out) rfl ?_)
      | (with_reducible refine at_op (op := ⟨some 77, _, _, _, _, _⟩) ?_; refine wpl_held (op := ⟨some 77, _, _, _, _, _⟩) (.bool false) (held_load1 Try.underlying4 rfl oneBool _ rfl g3 0 rfl _ _ (.bool false) (H.out.get 0 rfl) hla.out) rfl ?_)
      | (with_reducible refine at_op (op := ⟨some 88, _, _, _, _, _⟩) ?_; refine wpl_held (op := ⟨some 88, _, _, _, _, _⟩) (.bool false) (held_load1 Try.underlying4 rfl oneBool _ rfl g3 0 rfl _ _ (.bool false) (H.out.get 0 rfl) hla.out) rfl ?_)
      | (with_reducible refine at_op (op := ⟨some 97, _, _, _, _, _⟩) ?_; refine wpl_held (op := ⟨some 97, _, _, _, _, _⟩) (.agg (C1).toArray) (held_loadf aggS _ rfl g8 rfl _ (C1) (H.out.get 1 rfl) h1.out) rfl ?_)
      | (go_at_call 14; with_reducible refine (hri1.out _).mono ?_; rintro e Wc ⟨rfl, hbc⟩; replace H := hide (H.out.call hbc); clear hbc))
    go_ret
    exact ⟨rfl, H.out.bel⟩
  · have hle : lo ≤ hi := by rw [hlo0, hhi0, hTlo, hThi]; exact (kind_last hl hR).2.2.2.2.2
    have hRT : rightB T = true := by rw [rightB_last (hTl.trans hl), show T.next = 0 by rw [hT]; exact (kind_last hl hR).1, show T.who = 0 by rw [hT]; exact (kind_last hl hR).2.1, show T.epoch = 0 by rw [hT]; exact (kind_last hl hR).2.2.1, show T.nonce = Z16 by rw [hT]; exact (kind_last hl hR).2.2.2.1, show T.mac = Z16 by rw [hT]; exact (kind_last hl hR).2.2.2.2.1, ← hlo0, ← hhi0, decide_eq_true hle]; rfl
    rw [hl] at hla0
    have hla := hla0
    rw [hRT] at hE1
    clear hTl hTlo hThi kT hs hR hlo0 hhi0 hl hE hRT hT
    generalize slotC s = C0 at *
    generalize slotC T = C1 at *
    generalize errR T = E1 at *
    clear T s
    have h : E1 = 0 := hE1.out
    subst h
    have hd1 : decide (lo ≤ hi) = true := decide_eq_true hle
    have hd2 : (lo : Int) ≤ (hi : Int) := by omega
    clear hE1
    have H := hide (At.start w)
    go_enter Try.func6, Try.ntmps6
    go_wp2_with (first
      | (with_reducible refine at_op (op := ⟨some 3, _, _, _, _, _⟩) ?_; (refine wpl_boxa (op := ⟨some 3, _, _, _, _, _⟩) rfl _ _ rfl (C0) rfl ?_); intro g3 W1 hB1 hg1 hF1; replace H := hide (H.out.box hg1 hF1 hB1); clear hB1 hg1 hF1)
      | (go_at_call 12; with_reducible refine (hsh.out _).mono ?_; rintro e Wc ⟨rfl, hbc⟩; replace H := hide (H.out.call hbc); clear hbc)
      | (with_reducible refine at_op (op := ⟨some 11, _, _, _, _, _⟩) ?_; refine wpl_held (op := ⟨some 11, _, _, _, _, _⟩) (.agg (C0).toArray) (held_loadf aggS _ rfl g3 rfl _ (C0) (H.out.get 0 rfl) h0.out) rfl ?_)
      | (go_at_call 14; with_reducible refine (hri.out _).mono ?_; rintro e Wc ⟨rfl, hbc⟩; replace H := hide (H.out.call hbc); clear hbc)
      | (with_reducible refine at_op (op := ⟨some 22, _, _, _, _, _⟩) ?_; refine wpl_held (op := ⟨some 22, _, _, _, _, _⟩) (.agg (C0).toArray) (held_loadf aggS _ rfl g3 rfl _ (C0) (H.out.get 0 rfl) h0.out) rfl ?_)
      | ((with_reducible refine wpl_alloca (op := ⟨some 8, _, _, _, _, _⟩) rfl _ rfl _ zeroS ?_); intro g8 W1 hB1 hg1 hF1)
      | ((with_reducible refine wpl_storea aggS rfl (.tmp 8) (.tmp 22) rfl g8 (C0) rfl rfl _ _ hB1 h0.out slot0_len (h0o.out) ?_); intro W2 hB2 hF2; replace H := hide (H.out.var hg1 hF1 hF2 hB2); clear hB1 hg1 hF1 hB2 hF2)
      | (with_reducible refine at_op (op := ⟨none, .store _ (.tmp 31) _, _, _, _, _⟩) ?_; (refine wpl_store1 (op := ⟨none, _, _, _, _, _⟩) one16b rfl (.tmp 31) (.tmp 30) rfl g8 2 (.int .u16 (n : Int)) (C0) (C1) rfl rfl rfl _ (H.out.get 1 rfl) (by rw [h0.out]; decide) hst.out ?_); intro W1 hB1 hF1; replace H := hide (H.out.store 1 rfl hF1 hB1); clear hB1 hF1)
      | (with_reducible refine at_op (op := ⟨some 72, _, _, _, _, _⟩) ?_; refine wpl_held (op := ⟨some 72, _, _, _, _, _⟩) (.int .u64 (lo : Int)) (held_load1 Try.underlying30 rfl one64 _ rfl g8 37 rfl _ _ (.int .u64 (lo : Int)) (H.out.get 1 rfl) hlo.out) rfl ?_)
      | (with_reducible refine at_op (op := ⟨some 74, _, _, _, _, _⟩) ?_; refine wpl_held (op := ⟨some 74, _, _, _, _, _⟩) (.int .u64 (hi : Int)) (held_load1 Try.underlying30 rfl one64 _ rfl g8 38 rfl _ _ (.int .u64 (hi : Int)) (H.out.get 1 rfl) hhi.out) rfl ?_)
      | (with_reducible refine at_op (op := ⟨some 77, _, _, _, _, _⟩) ?_; refine wpl_held (op := ⟨some 77, _, _, _, _, _⟩) (.bool true) (held_load1 Try.underlying4 rfl oneBool _ rfl g3 0 rfl _ _ (.bool true) (H.out.get 0 rfl) hla.out) rfl ?_)
      | (with_reducible refine at_op (op := ⟨some 88, _, _, _, _, _⟩) ?_; refine wpl_held (op := ⟨some 88, _, _, _, _, _⟩) (.bool true) (held_load1 Try.underlying4 rfl oneBool _ rfl g3 0 rfl _ _ (.bool true) (H.out.get 0 rfl) hla.out) rfl ?_)
      | (with_reducible refine at_op (op := ⟨some 97, _, _, _, _, _⟩) ?_; refine wpl_held (op := ⟨some 97, _, _, _, _, _⟩) (.agg (C1).toArray) (held_loadf aggS _ rfl g8 rfl _ (C1) (H.out.get 1 rfl) h1.out) rfl ?_)
      | (go_at_call 14; with_reducible refine (hri1.out _).mono ?_; rintro e Wc ⟨rfl, hbc⟩; replace H := hide (H.out.call hbc); clear hbc))
    go_ret
    exact ⟨rfl, H.out.bel⟩

set_option maxHeartbeats 16000000 in
set_option maxRecDepth 100000 in
theorem field2_walk (s : Slot) (hs : s.ok) (a : Int) (n : Nat) (hn : n < 65536) (hn0 : n ≠ 0) (hR : rightB s = true) (hf : a % 65536 % 8 = 2) (w : World) : Calls Try.prog 6 #[.agg (slotC s).toArray, .int .i64 a, .int .u16 (n : Int)] w fun e w' => e = .returned (.bool true) ∧ Below w.heap.size w w' := by
  have hsh := hide shown_any
  have hri := hide (right_any s hs)
  have h0 := hide (slotC_length s hs.nonce hs.mac)
  have h0o := hide (slotC_one s)
  have hE : Hid (errR s = if rightB s = true then 0 else 1) := rfl
  have h : errR s = 0 := by rw [hE.out, hR]; rfl
  rw [h] at hri
  clear h
  have hmask := mask16 a
  have hn1 : ((n : Int) == 0) = false := by simp; omega
  have hn2 : ¬ (n : Int) = 0 := by omega
  obtain ⟨T, hT⟩ : ∃ y : Slot, y = { s with who := n } := ⟨_, rfl⟩
  have kT : T.ok := by rw [hT]; exact ⟨hs.next, hs.box, (by simp only; omega), hs.epoch, hs.lo, hs.hi, hs.delay, hs.nonce, hs.mac⟩
  have hst : Hid ((slotC s).set (3) (.int .u16 (n : Int)) = slotC T) := by rw [hT]; exact rfl
  have hTl : T.last = s.last := by rw [hT]
  have hTlo : T.lo = s.lo := by rw [hT]
  have hThi : T.hi = s.hi := by rw [hT]
  have hri1 := hide (right_any T kT)
  have hE1 : Hid (errR T = if rightB T = true then 0 else 1) := rfl
  have h1 := hide (slotC_length T kT.nonce kT.mac)
  obtain ⟨lo, hlo0⟩ : ∃ x, x = T.lo := ⟨_, rfl⟩
  obtain ⟨hi, hhi0⟩ : ∃ x, x = T.hi := ⟨_, rfl⟩
  have hlo : Hid ((slotC T)[37]? = some (.int .u64 (lo : Int))) := by rw [hlo0]; exact slotC_lo kT.nonce kT.mac
  have hhi : Hid ((slotC T)[38]? = some (.int .u64 (hi : Int))) := by rw [hhi0]; exact slotC_hi kT.nonce kT.mac
  have hla0 : Hid ((slotC s)[0]? = some (.bool s.last)) := rfl
  have wn1 : IntKind.u32.wrap (n : Int) = (n : Int) := by rw [IntKind.wrap_u32]; omega
  have wn2 : IntKind.u64.wrap (n : Int) = (n : Int) := by rw [IntKind.wrap_u64]; omega
  rcases hl : s.last with _ | _
  · have hle : lo ≤ hi := by rw [hlo0, hhi0, hTlo, hThi]; exact (kind_on hl hR).2
    have hRT : rightB T = true := by rw [rightB_on (hTl.trans hl), show T.box = 0 by rw [hT]; exact (kind_on hl hR).1, ← hlo0, ← hhi0, decide_eq_true hle]; rfl
    rw [hl] at hla0
    have hla := hla0
    rw [hRT] at hE1
    clear hTl hTlo hThi kT hs hR hlo0 hhi0 hl hE hRT hT
    generalize slotC s = C0 at *
    generalize slotC T = C1 at *
    generalize errR T = E1 at *
    clear T s
    have h : E1 = 0 := hE1.out
    subst h
    have hd1 : decide (lo ≤ hi) = true := decide_eq_true hle
    have hd2 : (lo : Int) ≤ (hi : Int) := by omega
    clear hE1
    have H := hide (At.start w)
    go_enter Try.func6, Try.ntmps6
    go_wp2_with (first
      | (with_reducible refine at_op (op := ⟨some 3, _, _, _, _, _⟩) ?_; (refine wpl_boxa (op := ⟨some 3, _, _, _, _, _⟩) rfl _ _ rfl (C0) rfl ?_); intro g3 W1 hB1 hg1 hF1; replace H := hide (H.out.box hg1 hF1 hB1); clear hB1 hg1 hF1)
      | (go_at_call 12; with_reducible refine (hsh.out _).mono ?_; rintro e Wc ⟨rfl, hbc⟩; replace H := hide (H.out.call hbc); clear hbc)
      | (with_reducible refine at_op (op := ⟨some 11, _, _, _, _, _⟩) ?_; refine wpl_held (op := ⟨some 11, _, _, _, _, _⟩) (.agg (C0).toArray) (held_loadf aggS _ rfl g3 rfl _ (C0) (H.out.get 0 rfl) h0.out) rfl ?_)
      | (go_at_call 14; with_reducible refine (hri.out _).mono ?_; rintro e Wc ⟨rfl, hbc⟩; replace H := hide (H.out.call hbc); clear hbc)
      | (with_reducible refine at_op (op := ⟨some 22, _, _, _, _, _⟩) ?_; refine wpl_held (op := ⟨some 22, _, _, _, _, _⟩) (.agg (C0).toArray) (held_loadf aggS _ rfl g3 rfl _ (C0) (H.out.get 0 rfl) h0.out) rfl ?_)
      | ((with_reducible refine wpl_alloca (op := ⟨some 8, _, _, _, _, _⟩) rfl _ rfl _ zeroS ?_); intro g8 W1 hB1 hg1 hF1)
      | ((with_reducible refine wpl_storea aggS rfl (.tmp 8) (.tmp 22) rfl g8 (C0) rfl rfl _ _ hB1 h0.out slot0_len (h0o.out) ?_); intro W2 hB2 hF2; replace H := hide (H.out.var hg1 hF1 hF2 hB2); clear hB1 hg1 hF1 hB2 hF2)
      | (with_reducible refine at_op (op := ⟨none, .store _ (.tmp 35) _, _, _, _, _⟩) ?_; (refine wpl_store1 (op := ⟨none, _, _, _, _, _⟩) one16w rfl (.tmp 35) (.tmp 34) rfl g8 3 (.int .u16 (n : Int)) (C0) (C1) rfl rfl rfl _ (H.out.get 1 rfl) (by rw [h0.out]; decide) hst.out ?_); intro W1 hB1 hF1; replace H := hide (H.out.store 1 rfl hF1 hB1); clear hB1 hF1)
      | (with_reducible refine at_op (op := ⟨some 72, _, _, _, _, _⟩) ?_; refine wpl_held (op := ⟨some 72, _, _, _, _, _⟩) (.int .u64 (lo : Int)) (held_load1 Try.underlying30 rfl one64 _ rfl g8 37 rfl _ _ (.int .u64 (lo : Int)) (H.out.get 1 rfl) hlo.out) rfl ?_)
      | (with_reducible refine at_op (op := ⟨some 74, _, _, _, _, _⟩) ?_; refine wpl_held (op := ⟨some 74, _, _, _, _, _⟩) (.int .u64 (hi : Int)) (held_load1 Try.underlying30 rfl one64 _ rfl g8 38 rfl _ _ (.int .u64 (hi : Int)) (H.out.get 1 rfl) hhi.out) rfl ?_)
      | (with_reducible refine at_op (op := ⟨some 77, _, _, _, _, _⟩) ?_; refine wpl_held (op := ⟨some 77, _, _, _, _, _⟩) (.bool false) (held_load1 Try.underlying4 rfl oneBool _ rfl g3 0 rfl _ _ (.bool false) (H.out.get 0 rfl) hla.out) rfl ?_)
      | (with_reducible refine at_op (op := ⟨some 88, _, _, _, _, _⟩) ?_; refine wpl_held (op := ⟨some 88, _, _, _, _, _⟩) (.bool false) (held_load1 Try.underlying4 rfl oneBool _ rfl g3 0 rfl _ _ (.bool false) (H.out.get 0 rfl) hla.out) rfl ?_)
      | (with_reducible refine at_op (op := ⟨some 97, _, _, _, _, _⟩) ?_; refine wpl_held (op := ⟨some 97, _, _, _, _, _⟩) (.agg (C1).toArray) (held_loadf aggS _ rfl g8 rfl _ (C1) (H.out.get 1 rfl) h1.out) rfl ?_)
      | (go_at_call 14; with_reducible refine (hri1.out _).mono ?_; rintro e Wc ⟨rfl, hbc⟩; replace H := hide (H.out.call hbc); clear hbc))
    go_ret
    exact ⟨rfl, H.out.bel⟩
  · have hle : lo ≤ hi := by rw [hlo0, hhi0, hTlo, hThi]; exact (kind_last hl hR).2.2.2.2.2
    have hRT : rightB T = false := by rw [rightB_last (hTl.trans hl), show T.who = n by rw [hT], show nateq n 0 = false from by rw [Bool.eq_false_iff]; intro h; exact hn0 (nateq_iff.1 h)]; simp
    rw [hl] at hla0
    have hla := hla0
    rw [hRT] at hE1
    clear hTl hTlo hThi kT hs hR hlo0 hhi0 hl hE hRT hT
    generalize slotC s = C0 at *
    generalize slotC T = C1 at *
    generalize errR T = E1 at *
    clear T s
    have h : E1 = 1 := hE1.out
    subst h
    have hd1 : decide (lo ≤ hi) = true := decide_eq_true hle
    have hd2 : (lo : Int) ≤ (hi : Int) := by omega
    clear hE1
    have H := hide (At.start w)
    go_enter Try.func6, Try.ntmps6
    go_wp2_with (first
      | (with_reducible refine at_op (op := ⟨some 3, _, _, _, _, _⟩) ?_; (refine wpl_boxa (op := ⟨some 3, _, _, _, _, _⟩) rfl _ _ rfl (C0) rfl ?_); intro g3 W1 hB1 hg1 hF1; replace H := hide (H.out.box hg1 hF1 hB1); clear hB1 hg1 hF1)
      | (go_at_call 12; with_reducible refine (hsh.out _).mono ?_; rintro e Wc ⟨rfl, hbc⟩; replace H := hide (H.out.call hbc); clear hbc)
      | (with_reducible refine at_op (op := ⟨some 11, _, _, _, _, _⟩) ?_; refine wpl_held (op := ⟨some 11, _, _, _, _, _⟩) (.agg (C0).toArray) (held_loadf aggS _ rfl g3 rfl _ (C0) (H.out.get 0 rfl) h0.out) rfl ?_)
      | (go_at_call 14; with_reducible refine (hri.out _).mono ?_; rintro e Wc ⟨rfl, hbc⟩; replace H := hide (H.out.call hbc); clear hbc)
      | (with_reducible refine at_op (op := ⟨some 22, _, _, _, _, _⟩) ?_; refine wpl_held (op := ⟨some 22, _, _, _, _, _⟩) (.agg (C0).toArray) (held_loadf aggS _ rfl g3 rfl _ (C0) (H.out.get 0 rfl) h0.out) rfl ?_)
      | ((with_reducible refine wpl_alloca (op := ⟨some 8, _, _, _, _, _⟩) rfl _ rfl _ zeroS ?_); intro g8 W1 hB1 hg1 hF1)
      | ((with_reducible refine wpl_storea aggS rfl (.tmp 8) (.tmp 22) rfl g8 (C0) rfl rfl _ _ hB1 h0.out slot0_len (h0o.out) ?_); intro W2 hB2 hF2; replace H := hide (H.out.var hg1 hF1 hF2 hB2); clear hB1 hg1 hF1 hB2 hF2)
      | (with_reducible refine at_op (op := ⟨none, .store _ (.tmp 35) _, _, _, _, _⟩) ?_; (refine wpl_store1 (op := ⟨none, _, _, _, _, _⟩) one16w rfl (.tmp 35) (.tmp 34) rfl g8 3 (.int .u16 (n : Int)) (C0) (C1) rfl rfl rfl _ (H.out.get 1 rfl) (by rw [h0.out]; decide) hst.out ?_); intro W1 hB1 hF1; replace H := hide (H.out.store 1 rfl hF1 hB1); clear hB1 hF1)
      | (with_reducible refine at_op (op := ⟨some 72, _, _, _, _, _⟩) ?_; refine wpl_held (op := ⟨some 72, _, _, _, _, _⟩) (.int .u64 (lo : Int)) (held_load1 Try.underlying30 rfl one64 _ rfl g8 37 rfl _ _ (.int .u64 (lo : Int)) (H.out.get 1 rfl) hlo.out) rfl ?_)
      | (with_reducible refine at_op (op := ⟨some 74, _, _, _, _, _⟩) ?_; refine wpl_held (op := ⟨some 74, _, _, _, _, _⟩) (.int .u64 (hi : Int)) (held_load1 Try.underlying30 rfl one64 _ rfl g8 38 rfl _ _ (.int .u64 (hi : Int)) (H.out.get 1 rfl) hhi.out) rfl ?_)
      | (with_reducible refine at_op (op := ⟨some 77, _, _, _, _, _⟩) ?_; refine wpl_held (op := ⟨some 77, _, _, _, _, _⟩) (.bool true) (held_load1 Try.underlying4 rfl oneBool _ rfl g3 0 rfl _ _ (.bool true) (H.out.get 0 rfl) hla.out) rfl ?_)
      | (with_reducible refine at_op (op := ⟨some 88, _, _, _, _, _⟩) ?_; refine wpl_held (op := ⟨some 88, _, _, _, _, _⟩) (.bool true) (held_load1 Try.underlying4 rfl oneBool _ rfl g3 0 rfl _ _ (.bool true) (H.out.get 0 rfl) hla.out) rfl ?_)
      | (with_reducible refine at_op (op := ⟨some 97, _, _, _, _, _⟩) ?_; refine wpl_held (op := ⟨some 97, _, _, _, _, _⟩) (.agg (C1).toArray) (held_loadf aggS _ rfl g8 rfl _ (C1) (H.out.get 1 rfl) h1.out) rfl ?_)
      | (go_at_call 14; with_reducible refine (hri1.out _).mono ?_; rintro e Wc ⟨rfl, hbc⟩; replace H := hide (H.out.call hbc); clear hbc))
    go_ret
    exact ⟨rfl, H.out.bel⟩

set_option maxHeartbeats 16000000 in
set_option maxRecDepth 100000 in
theorem field3_walk (s : Slot) (hs : s.ok) (a : Int) (n : Nat) (hn : n < 65536) (hn0 : n ≠ 0) (hR : rightB s = true) (hf : a % 65536 % 8 = 3) (w : World) : Calls Try.prog 6 #[.agg (slotC s).toArray, .int .i64 a, .int .u16 (n : Int)] w fun e w' => e = .returned (.bool true) ∧ Below w.heap.size w w' := by
  have hsh := hide shown_any
  have hri := hide (right_any s hs)
  have h0 := hide (slotC_length s hs.nonce hs.mac)
  have h0o := hide (slotC_one s)
  have hE : Hid (errR s = if rightB s = true then 0 else 1) := rfl
  have h : errR s = 0 := by rw [hE.out, hR]; rfl
  rw [h] at hri
  clear h
  have hmask := mask16 a
  have hn1 : ((n : Int) == 0) = false := by simp; omega
  have hn2 : ¬ (n : Int) = 0 := by omega
  obtain ⟨T, hT⟩ : ∃ y : Slot, y = { s with epoch := n } := ⟨_, rfl⟩
  have kT : T.ok := by rw [hT]; exact ⟨hs.next, hs.box, hs.who, (by simp only; omega), hs.lo, hs.hi, hs.delay, hs.nonce, hs.mac⟩
  have hst : Hid ((slotC s).set (4) (.int .u32 (n : Int)) = slotC T) := by rw [hT]; exact rfl
  have hTl : T.last = s.last := by rw [hT]
  have hTlo : T.lo = s.lo := by rw [hT]
  have hThi : T.hi = s.hi := by rw [hT]
  have hri1 := hide (right_any T kT)
  have hE1 : Hid (errR T = if rightB T = true then 0 else 1) := rfl
  have h1 := hide (slotC_length T kT.nonce kT.mac)
  obtain ⟨lo, hlo0⟩ : ∃ x, x = T.lo := ⟨_, rfl⟩
  obtain ⟨hi, hhi0⟩ : ∃ x, x = T.hi := ⟨_, rfl⟩
  have hlo : Hid ((slotC T)[37]? = some (.int .u64 (lo : Int))) := by rw [hlo0]; exact slotC_lo kT.nonce kT.mac
  have hhi : Hid ((slotC T)[38]? = some (.int .u64 (hi : Int))) := by rw [hhi0]; exact slotC_hi kT.nonce kT.mac
  have hla0 : Hid ((slotC s)[0]? = some (.bool s.last)) := rfl
  have wn1 : IntKind.u32.wrap (n : Int) = (n : Int) := by rw [IntKind.wrap_u32]; omega
  have wn2 : IntKind.u64.wrap (n : Int) = (n : Int) := by rw [IntKind.wrap_u64]; omega
  rcases hl : s.last with _ | _
  · have hle : lo ≤ hi := by rw [hlo0, hhi0, hTlo, hThi]; exact (kind_on hl hR).2
    have hRT : rightB T = true := by rw [rightB_on (hTl.trans hl), show T.box = 0 by rw [hT]; exact (kind_on hl hR).1, ← hlo0, ← hhi0, decide_eq_true hle]; rfl
    rw [hl] at hla0
    have hla := hla0
    rw [hRT] at hE1
    clear hTl hTlo hThi kT hs hR hlo0 hhi0 hl hE hRT hT
    generalize slotC s = C0 at *
    generalize slotC T = C1 at *
    generalize errR T = E1 at *
    clear T s
    have h : E1 = 0 := hE1.out
    subst h
    have hd1 : decide (lo ≤ hi) = true := decide_eq_true hle
    have hd2 : (lo : Int) ≤ (hi : Int) := by omega
    clear hE1
    have H := hide (At.start w)
    go_enter Try.func6, Try.ntmps6
    go_wp2_with (first
      | (with_reducible refine at_op (op := ⟨some 3, _, _, _, _, _⟩) ?_; (refine wpl_boxa (op := ⟨some 3, _, _, _, _, _⟩) rfl _ _ rfl (C0) rfl ?_); intro g3 W1 hB1 hg1 hF1; replace H := hide (H.out.box hg1 hF1 hB1); clear hB1 hg1 hF1)
      | (go_at_call 12; with_reducible refine (hsh.out _).mono ?_; rintro e Wc ⟨rfl, hbc⟩; replace H := hide (H.out.call hbc); clear hbc)
      | (with_reducible refine at_op (op := ⟨some 11, _, _, _, _, _⟩) ?_; refine wpl_held (op := ⟨some 11, _, _, _, _, _⟩) (.agg (C0).toArray) (held_loadf aggS _ rfl g3 rfl _ (C0) (H.out.get 0 rfl) h0.out) rfl ?_)
      | (go_at_call 14; with_reducible refine (hri.out _).mono ?_; rintro e Wc ⟨rfl, hbc⟩; replace H := hide (H.out.call hbc); clear hbc)
      | (with_reducible refine at_op (op := ⟨some 22, _, _, _, _, _⟩) ?_; refine wpl_held (op := ⟨some 22, _, _, _, _, _⟩) (.agg (C0).toArray) (held_loadf aggS _ rfl g3 rfl _ (C0) (H.out.get 0 rfl) h0.out) rfl ?_)
      | ((with_reducible refine wpl_alloca (op := ⟨some 8, _, _, _, _, _⟩) rfl _ rfl _ zeroS ?_); intro g8 W1 hB1 hg1 hF1)
      | ((with_reducible refine wpl_storea aggS rfl (.tmp 8) (.tmp 22) rfl g8 (C0) rfl rfl _ _ hB1 h0.out slot0_len (h0o.out) ?_); intro W2 hB2 hF2; replace H := hide (H.out.var hg1 hF1 hF2 hB2); clear hB1 hg1 hF1 hB2 hF2)
      | (with_reducible refine at_op (op := ⟨none, .store _ (.tmp 40) _, _, _, _, _⟩) ?_; (refine wpl_store1 (op := ⟨none, _, _, _, _, _⟩) one32 rfl (.tmp 40) (.tmp 39) rfl g8 4 (.int .u32 (n : Int)) (C0) (C1) rfl rfl rfl _ (H.out.get 1 rfl) (by rw [h0.out]; decide) hst.out ?_); intro W1 hB1 hF1; replace H := hide (H.out.store 1 rfl hF1 hB1); clear hB1 hF1)
      | (with_reducible refine at_op (op := ⟨some 72, _, _, _, _, _⟩) ?_; refine wpl_held (op := ⟨some 72, _, _, _, _, _⟩) (.int .u64 (lo : Int)) (held_load1 Try.underlying30 rfl one64 _ rfl g8 37 rfl _ _ (.int .u64 (lo : Int)) (H.out.get 1 rfl) hlo.out) rfl ?_)
      | (with_reducible refine at_op (op := ⟨some 74, _, _, _, _, _⟩) ?_; refine wpl_held (op := ⟨some 74, _, _, _, _, _⟩) (.int .u64 (hi : Int)) (held_load1 Try.underlying30 rfl one64 _ rfl g8 38 rfl _ _ (.int .u64 (hi : Int)) (H.out.get 1 rfl) hhi.out) rfl ?_)
      | (with_reducible refine at_op (op := ⟨some 77, _, _, _, _, _⟩) ?_; refine wpl_held (op := ⟨some 77, _, _, _, _, _⟩) (.bool false) (held_load1 Try.underlying4 rfl oneBool _ rfl g3 0 rfl _ _ (.bool false) (H.out.get 0 rfl) hla.out) rfl ?_)
      | (with_reducible refine at_op (op := ⟨some 88, _, _, _, _, _⟩) ?_; refine wpl_held (op := ⟨some 88, _, _, _, _, _⟩) (.bool false) (held_load1 Try.underlying4 rfl oneBool _ rfl g3 0 rfl _ _ (.bool false) (H.out.get 0 rfl) hla.out) rfl ?_)
      | (with_reducible refine at_op (op := ⟨some 97, _, _, _, _, _⟩) ?_; refine wpl_held (op := ⟨some 97, _, _, _, _, _⟩) (.agg (C1).toArray) (held_loadf aggS _ rfl g8 rfl _ (C1) (H.out.get 1 rfl) h1.out) rfl ?_)
      | (go_at_call 14; with_reducible refine (hri1.out _).mono ?_; rintro e Wc ⟨rfl, hbc⟩; replace H := hide (H.out.call hbc); clear hbc))
    go_ret
    exact ⟨rfl, H.out.bel⟩
  · have hle : lo ≤ hi := by rw [hlo0, hhi0, hTlo, hThi]; exact (kind_last hl hR).2.2.2.2.2
    have hRT : rightB T = false := by rw [rightB_last (hTl.trans hl), show T.epoch = n by rw [hT], show nateq n 0 = false from by rw [Bool.eq_false_iff]; intro h; exact hn0 (nateq_iff.1 h)]; simp
    rw [hl] at hla0
    have hla := hla0
    rw [hRT] at hE1
    clear hTl hTlo hThi kT hs hR hlo0 hhi0 hl hE hRT hT
    generalize slotC s = C0 at *
    generalize slotC T = C1 at *
    generalize errR T = E1 at *
    clear T s
    have h : E1 = 1 := hE1.out
    subst h
    have hd1 : decide (lo ≤ hi) = true := decide_eq_true hle
    have hd2 : (lo : Int) ≤ (hi : Int) := by omega
    clear hE1
    have H := hide (At.start w)
    go_enter Try.func6, Try.ntmps6
    go_wp2_with (first
      | (with_reducible refine at_op (op := ⟨some 3, _, _, _, _, _⟩) ?_; (refine wpl_boxa (op := ⟨some 3, _, _, _, _, _⟩) rfl _ _ rfl (C0) rfl ?_); intro g3 W1 hB1 hg1 hF1; replace H := hide (H.out.box hg1 hF1 hB1); clear hB1 hg1 hF1)
      | (go_at_call 12; with_reducible refine (hsh.out _).mono ?_; rintro e Wc ⟨rfl, hbc⟩; replace H := hide (H.out.call hbc); clear hbc)
      | (with_reducible refine at_op (op := ⟨some 11, _, _, _, _, _⟩) ?_; refine wpl_held (op := ⟨some 11, _, _, _, _, _⟩) (.agg (C0).toArray) (held_loadf aggS _ rfl g3 rfl _ (C0) (H.out.get 0 rfl) h0.out) rfl ?_)
      | (go_at_call 14; with_reducible refine (hri.out _).mono ?_; rintro e Wc ⟨rfl, hbc⟩; replace H := hide (H.out.call hbc); clear hbc)
      | (with_reducible refine at_op (op := ⟨some 22, _, _, _, _, _⟩) ?_; refine wpl_held (op := ⟨some 22, _, _, _, _, _⟩) (.agg (C0).toArray) (held_loadf aggS _ rfl g3 rfl _ (C0) (H.out.get 0 rfl) h0.out) rfl ?_)
      | ((with_reducible refine wpl_alloca (op := ⟨some 8, _, _, _, _, _⟩) rfl _ rfl _ zeroS ?_); intro g8 W1 hB1 hg1 hF1)
      | ((with_reducible refine wpl_storea aggS rfl (.tmp 8) (.tmp 22) rfl g8 (C0) rfl rfl _ _ hB1 h0.out slot0_len (h0o.out) ?_); intro W2 hB2 hF2; replace H := hide (H.out.var hg1 hF1 hF2 hB2); clear hB1 hg1 hF1 hB2 hF2)
      | (with_reducible refine at_op (op := ⟨none, .store _ (.tmp 40) _, _, _, _, _⟩) ?_; (refine wpl_store1 (op := ⟨none, _, _, _, _, _⟩) one32 rfl (.tmp 40) (.tmp 39) rfl g8 4 (.int .u32 (n : Int)) (C0) (C1) rfl rfl rfl _ (H.out.get 1 rfl) (by rw [h0.out]; decide) hst.out ?_); intro W1 hB1 hF1; replace H := hide (H.out.store 1 rfl hF1 hB1); clear hB1 hF1)
      | (with_reducible refine at_op (op := ⟨some 72, _, _, _, _, _⟩) ?_; refine wpl_held (op := ⟨some 72, _, _, _, _, _⟩) (.int .u64 (lo : Int)) (held_load1 Try.underlying30 rfl one64 _ rfl g8 37 rfl _ _ (.int .u64 (lo : Int)) (H.out.get 1 rfl) hlo.out) rfl ?_)
      | (with_reducible refine at_op (op := ⟨some 74, _, _, _, _, _⟩) ?_; refine wpl_held (op := ⟨some 74, _, _, _, _, _⟩) (.int .u64 (hi : Int)) (held_load1 Try.underlying30 rfl one64 _ rfl g8 38 rfl _ _ (.int .u64 (hi : Int)) (H.out.get 1 rfl) hhi.out) rfl ?_)
      | (with_reducible refine at_op (op := ⟨some 77, _, _, _, _, _⟩) ?_; refine wpl_held (op := ⟨some 77, _, _, _, _, _⟩) (.bool true) (held_load1 Try.underlying4 rfl oneBool _ rfl g3 0 rfl _ _ (.bool true) (H.out.get 0 rfl) hla.out) rfl ?_)
      | (with_reducible refine at_op (op := ⟨some 88, _, _, _, _, _⟩) ?_; refine wpl_held (op := ⟨some 88, _, _, _, _, _⟩) (.bool true) (held_load1 Try.underlying4 rfl oneBool _ rfl g3 0 rfl _ _ (.bool true) (H.out.get 0 rfl) hla.out) rfl ?_)
      | (with_reducible refine at_op (op := ⟨some 97, _, _, _, _, _⟩) ?_; refine wpl_held (op := ⟨some 97, _, _, _, _, _⟩) (.agg (C1).toArray) (held_loadf aggS _ rfl g8 rfl _ (C1) (H.out.get 1 rfl) h1.out) rfl ?_)
      | (go_at_call 14; with_reducible refine (hri1.out _).mono ?_; rintro e Wc ⟨rfl, hbc⟩; replace H := hide (H.out.call hbc); clear hbc))
    go_ret
    exact ⟨rfl, H.out.bel⟩

set_option maxHeartbeats 16000000 in
set_option maxRecDepth 100000 in
theorem field4_walk (s : Slot) (hs : s.ok) (a : Int) (n : Nat) (hn : n < 65536) (hn0 : n ≠ 0) (hR : rightB s = true) (hf : a % 65536 % 8 = 4) (w : World) : Calls Try.prog 6 #[.agg (slotC s).toArray, .int .i64 a, .int .u16 (n : Int)] w fun e w' => e = .returned (.bool true) ∧ Below w.heap.size w w' := by
  have hsh := hide shown_any
  have hri := hide (right_any s hs)
  have h0 := hide (slotC_length s hs.nonce hs.mac)
  have h0o := hide (slotC_one s)
  have hE : Hid (errR s = if rightB s = true then 0 else 1) := rfl
  have h : errR s = 0 := by rw [hE.out, hR]; rfl
  rw [h] at hri
  clear h
  have hmask := mask16 a
  have hn1 : ((n : Int) == 0) = false := by simp; omega
  have hn2 : ¬ (n : Int) = 0 := by omega
  obtain ⟨x, hx0, hx1, hx2⟩ := byte_up n hn
  obtain ⟨i, hi0⟩ : ∃ i : Nat, i = n % 16 := ⟨_, rfl⟩
  have hi16 : i < 16 := by omega
  have hmod : (n : Int) % 16 = (i : Int) := by omega
  have hnz := set_not_zero s.nonce i x hs.nonce hi16 hx0
  obtain ⟨T, hT⟩ : ∃ y : Slot, y = { s with nonce := s.nonce.set i x } := ⟨_, rfl⟩
  have kT : T.ok := by rw [hT]; exact ⟨hs.next, hs.box, hs.who, hs.epoch, hs.lo, hs.hi, hs.delay, by rw [List.length_set]; exact hs.nonce, hs.mac⟩
  have hst : Hid ((slotC s).set (5 + i) (.int .u8 (x.toNat : Int)) = slotC T) := by rw [hT]; exact slotC_nonce_set hs.nonce i hi16 x
  have hTl : T.last = s.last := by rw [hT]
  have hTlo : T.lo = s.lo := by rw [hT]
  have hThi : T.hi = s.hi := by rw [hT]
  have hri1 := hide (right_any T kT)
  have hE1 : Hid (errR T = if rightB T = true then 0 else 1) := rfl
  have h1 := hide (slotC_length T kT.nonce kT.mac)
  obtain ⟨lo, hlo0⟩ : ∃ x, x = T.lo := ⟨_, rfl⟩
  obtain ⟨hi, hhi0⟩ : ∃ x, x = T.hi := ⟨_, rfl⟩
  have hlo : Hid ((slotC T)[37]? = some (.int .u64 (lo : Int))) := by rw [hlo0]; exact slotC_lo kT.nonce kT.mac
  have hhi : Hid ((slotC T)[38]? = some (.int .u64 (hi : Int))) := by rw [hhi0]; exact slotC_hi kT.nonce kT.mac
  have hla0 : Hid ((slotC s)[0]? = some (.bool s.last)) := rfl
  have wn1 : IntKind.u32.wrap (n : Int) = (n : Int) := by rw [IntKind.wrap_u32]; omega
  have wn2 : IntKind.u64.wrap (n : Int) = (n : Int) := by rw [IntKind.wrap_u64]; omega
  rcases hl : s.last with _ | _
  · have hle : lo ≤ hi := by rw [hlo0, hhi0, hTlo, hThi]; exact (kind_on hl hR).2
    have hRT : rightB T = true := by rw [rightB_on (hTl.trans hl), show T.box = 0 by rw [hT]; exact (kind_on hl hR).1, ← hlo0, ← hhi0, decide_eq_true hle]; rfl
    rw [hl] at hla0
    have hla := hla0
    rw [hRT] at hE1
    clear hTl hTlo hThi kT hs hR hlo0 hhi0 hl hE hRT hT hnz hx0 hi0
    generalize slotC s = C0 at *
    generalize slotC T = C1 at *
    generalize errR T = E1 at *
    clear T s
    have h : E1 = 0 := hE1.out
    subst h
    have hd1 : decide (lo ≤ hi) = true := decide_eq_true hle
    have hd2 : (lo : Int) ≤ (hi : Int) := by omega
    clear hE1
    have H := hide (At.start w)
    go_enter Try.func6, Try.ntmps6
    go_wp2_with (first
      | (with_reducible refine at_op (op := ⟨some 49, _, _, _, _, _⟩) ?_; rw [hx2])
      | (with_reducible refine at_op (op := ⟨some 45, _, _, _, _, _⟩) ?_; rw [hmod])
      | (with_reducible refine at_op (op := ⟨some 3, _, _, _, _, _⟩) ?_; (refine wpl_boxa (op := ⟨some 3, _, _, _, _, _⟩) rfl _ _ rfl (C0) rfl ?_); intro g3 W1 hB1 hg1 hF1; replace H := hide (H.out.box hg1 hF1 hB1); clear hB1 hg1 hF1)
      | (go_at_call 12; with_reducible refine (hsh.out _).mono ?_; rintro e Wc ⟨rfl, hbc⟩; replace H := hide (H.out.call hbc); clear hbc)
      | (with_reducible refine at_op (op := ⟨some 11, _, _, _, _, _⟩) ?_; refine wpl_held (op := ⟨some 11, _, _, _, _, _⟩) (.agg (C0).toArray) (held_loadf aggS _ rfl g3 rfl _ (C0) (H.out.get 0 rfl) h0.out) rfl ?_)
      | (go_at_call 14; with_reducible refine (hri.out _).mono ?_; rintro e Wc ⟨rfl, hbc⟩; replace H := hide (H.out.call hbc); clear hbc)
      | (with_reducible refine at_op (op := ⟨some 22, _, _, _, _, _⟩) ?_; refine wpl_held (op := ⟨some 22, _, _, _, _, _⟩) (.agg (C0).toArray) (held_loadf aggS _ rfl g3 rfl _ (C0) (H.out.get 0 rfl) h0.out) rfl ?_)
      | ((with_reducible refine wpl_alloca (op := ⟨some 8, _, _, _, _, _⟩) rfl _ rfl _ zeroS ?_); intro g8 W1 hB1 hg1 hF1)
      | ((with_reducible refine wpl_storea aggS rfl (.tmp 8) (.tmp 22) rfl g8 (C0) rfl rfl _ _ hB1 h0.out slot0_len (h0o.out) ?_); intro W2 hB2 hF2; replace H := hide (H.out.var hg1 hF1 hF2 hB2); clear hB1 hg1 hF1 hB2 hF2)
      | (with_reducible refine at_op (op := ⟨none, .store _ (.tmp 50) _, _, _, _, _⟩) ?_; (refine wpl_store1 (op := ⟨none, _, _, _, _, _⟩) one8 rfl (.tmp 50) (.tmp 48) rfl g8 (5 + i) (.int .u8 (x.toNat : Int)) (C0) (C1) rfl rfl rfl _ (H.out.get 1 rfl) (by rw [h0.out]; omega) hst.out ?_); intro W1 hB1 hF1; replace H := hide (H.out.store 1 rfl hF1 hB1); clear hB1 hF1)
      | (with_reducible refine at_op (op := ⟨some 72, _, _, _, _, _⟩) ?_; refine wpl_held (op := ⟨some 72, _, _, _, _, _⟩) (.int .u64 (lo : Int)) (held_load1 Try.underlying30 rfl one64 _ rfl g8 37 rfl _ _ (.int .u64 (lo : Int)) (H.out.get 1 rfl) hlo.out) rfl ?_)
      | (with_reducible refine at_op (op := ⟨some 74, _, _, _, _, _⟩) ?_; refine wpl_held (op := ⟨some 74, _, _, _, _, _⟩) (.int .u64 (hi : Int)) (held_load1 Try.underlying30 rfl one64 _ rfl g8 38 rfl _ _ (.int .u64 (hi : Int)) (H.out.get 1 rfl) hhi.out) rfl ?_)
      | (with_reducible refine at_op (op := ⟨some 77, _, _, _, _, _⟩) ?_; refine wpl_held (op := ⟨some 77, _, _, _, _, _⟩) (.bool false) (held_load1 Try.underlying4 rfl oneBool _ rfl g3 0 rfl _ _ (.bool false) (H.out.get 0 rfl) hla.out) rfl ?_)
      | (with_reducible refine at_op (op := ⟨some 88, _, _, _, _, _⟩) ?_; refine wpl_held (op := ⟨some 88, _, _, _, _, _⟩) (.bool false) (held_load1 Try.underlying4 rfl oneBool _ rfl g3 0 rfl _ _ (.bool false) (H.out.get 0 rfl) hla.out) rfl ?_)
      | (with_reducible refine at_op (op := ⟨some 97, _, _, _, _, _⟩) ?_; refine wpl_held (op := ⟨some 97, _, _, _, _, _⟩) (.agg (C1).toArray) (held_loadf aggS _ rfl g8 rfl _ (C1) (H.out.get 1 rfl) h1.out) rfl ?_)
      | (go_at_call 14; with_reducible refine (hri1.out _).mono ?_; rintro e Wc ⟨rfl, hbc⟩; replace H := hide (H.out.call hbc); clear hbc))
    go_ret
    exact ⟨rfl, H.out.bel⟩
  · have hle : lo ≤ hi := by rw [hlo0, hhi0, hTlo, hThi]; exact (kind_last hl hR).2.2.2.2.2
    have hRT : rightB T = false := by rw [rightB_last (hTl.trans hl), show T.nonce = s.nonce.set i x by rw [hT], hnz]; simp
    rw [hl] at hla0
    have hla := hla0
    rw [hRT] at hE1
    clear hTl hTlo hThi kT hs hR hlo0 hhi0 hl hE hRT hT hnz hx0 hi0
    generalize slotC s = C0 at *
    generalize slotC T = C1 at *
    generalize errR T = E1 at *
    clear T s
    have h : E1 = 1 := hE1.out
    subst h
    have hd1 : decide (lo ≤ hi) = true := decide_eq_true hle
    have hd2 : (lo : Int) ≤ (hi : Int) := by omega
    clear hE1
    have H := hide (At.start w)
    go_enter Try.func6, Try.ntmps6
    go_wp2_with (first
      | (with_reducible refine at_op (op := ⟨some 49, _, _, _, _, _⟩) ?_; rw [hx2])
      | (with_reducible refine at_op (op := ⟨some 45, _, _, _, _, _⟩) ?_; rw [hmod])
      | (with_reducible refine at_op (op := ⟨some 3, _, _, _, _, _⟩) ?_; (refine wpl_boxa (op := ⟨some 3, _, _, _, _, _⟩) rfl _ _ rfl (C0) rfl ?_); intro g3 W1 hB1 hg1 hF1; replace H := hide (H.out.box hg1 hF1 hB1); clear hB1 hg1 hF1)
      | (go_at_call 12; with_reducible refine (hsh.out _).mono ?_; rintro e Wc ⟨rfl, hbc⟩; replace H := hide (H.out.call hbc); clear hbc)
      | (with_reducible refine at_op (op := ⟨some 11, _, _, _, _, _⟩) ?_; refine wpl_held (op := ⟨some 11, _, _, _, _, _⟩) (.agg (C0).toArray) (held_loadf aggS _ rfl g3 rfl _ (C0) (H.out.get 0 rfl) h0.out) rfl ?_)
      | (go_at_call 14; with_reducible refine (hri.out _).mono ?_; rintro e Wc ⟨rfl, hbc⟩; replace H := hide (H.out.call hbc); clear hbc)
      | (with_reducible refine at_op (op := ⟨some 22, _, _, _, _, _⟩) ?_; refine wpl_held (op := ⟨some 22, _, _, _, _, _⟩) (.agg (C0).toArray) (held_loadf aggS _ rfl g3 rfl _ (C0) (H.out.get 0 rfl) h0.out) rfl ?_)
      | ((with_reducible refine wpl_alloca (op := ⟨some 8, _, _, _, _, _⟩) rfl _ rfl _ zeroS ?_); intro g8 W1 hB1 hg1 hF1)
      | ((with_reducible refine wpl_storea aggS rfl (.tmp 8) (.tmp 22) rfl g8 (C0) rfl rfl _ _ hB1 h0.out slot0_len (h0o.out) ?_); intro W2 hB2 hF2; replace H := hide (H.out.var hg1 hF1 hF2 hB2); clear hB1 hg1 hF1 hB2 hF2)
      | (with_reducible refine at_op (op := ⟨none, .store _ (.tmp 50) _, _, _, _, _⟩) ?_; (refine wpl_store1 (op := ⟨none, _, _, _, _, _⟩) one8 rfl (.tmp 50) (.tmp 48) rfl g8 (5 + i) (.int .u8 (x.toNat : Int)) (C0) (C1) rfl rfl rfl _ (H.out.get 1 rfl) (by rw [h0.out]; omega) hst.out ?_); intro W1 hB1 hF1; replace H := hide (H.out.store 1 rfl hF1 hB1); clear hB1 hF1)
      | (with_reducible refine at_op (op := ⟨some 72, _, _, _, _, _⟩) ?_; refine wpl_held (op := ⟨some 72, _, _, _, _, _⟩) (.int .u64 (lo : Int)) (held_load1 Try.underlying30 rfl one64 _ rfl g8 37 rfl _ _ (.int .u64 (lo : Int)) (H.out.get 1 rfl) hlo.out) rfl ?_)
      | (with_reducible refine at_op (op := ⟨some 74, _, _, _, _, _⟩) ?_; refine wpl_held (op := ⟨some 74, _, _, _, _, _⟩) (.int .u64 (hi : Int)) (held_load1 Try.underlying30 rfl one64 _ rfl g8 38 rfl _ _ (.int .u64 (hi : Int)) (H.out.get 1 rfl) hhi.out) rfl ?_)
      | (with_reducible refine at_op (op := ⟨some 77, _, _, _, _, _⟩) ?_; refine wpl_held (op := ⟨some 77, _, _, _, _, _⟩) (.bool true) (held_load1 Try.underlying4 rfl oneBool _ rfl g3 0 rfl _ _ (.bool true) (H.out.get 0 rfl) hla.out) rfl ?_)
      | (with_reducible refine at_op (op := ⟨some 88, _, _, _, _, _⟩) ?_; refine wpl_held (op := ⟨some 88, _, _, _, _, _⟩) (.bool true) (held_load1 Try.underlying4 rfl oneBool _ rfl g3 0 rfl _ _ (.bool true) (H.out.get 0 rfl) hla.out) rfl ?_)
      | (with_reducible refine at_op (op := ⟨some 97, _, _, _, _, _⟩) ?_; refine wpl_held (op := ⟨some 97, _, _, _, _, _⟩) (.agg (C1).toArray) (held_loadf aggS _ rfl g8 rfl _ (C1) (H.out.get 1 rfl) h1.out) rfl ?_)
      | (go_at_call 14; with_reducible refine (hri1.out _).mono ?_; rintro e Wc ⟨rfl, hbc⟩; replace H := hide (H.out.call hbc); clear hbc))
    go_ret
    exact ⟨rfl, H.out.bel⟩

set_option maxHeartbeats 16000000 in
set_option maxRecDepth 100000 in
theorem field5_walk (s : Slot) (hs : s.ok) (a : Int) (n : Nat) (hn : n < 65536) (hn0 : n ≠ 0) (hR : rightB s = true) (hf : a % 65536 % 8 = 5) (w : World) : Calls Try.prog 6 #[.agg (slotC s).toArray, .int .i64 a, .int .u16 (n : Int)] w fun e w' => e = .returned (.bool true) ∧ Below w.heap.size w w' := by
  have hsh := hide shown_any
  have hri := hide (right_any s hs)
  have h0 := hide (slotC_length s hs.nonce hs.mac)
  have h0o := hide (slotC_one s)
  have hE : Hid (errR s = if rightB s = true then 0 else 1) := rfl
  have h : errR s = 0 := by rw [hE.out, hR]; rfl
  rw [h] at hri
  clear h
  have hmask := mask16 a
  have hn1 : ((n : Int) == 0) = false := by simp; omega
  have hn2 : ¬ (n : Int) = 0 := by omega
  obtain ⟨x, hx0, hx1, hx2⟩ := byte_up n hn
  obtain ⟨i, hi0⟩ : ∃ i : Nat, i = n % 16 := ⟨_, rfl⟩
  have hi16 : i < 16 := by omega
  have hmod : (n : Int) % 16 = (i : Int) := by omega
  have hnz := set_not_zero s.mac i x hs.mac hi16 hx0
  obtain ⟨T, hT⟩ : ∃ y : Slot, y = { s with mac := s.mac.set i x } := ⟨_, rfl⟩
  have kT : T.ok := by rw [hT]; exact ⟨hs.next, hs.box, hs.who, hs.epoch, hs.lo, hs.hi, hs.delay, hs.nonce, by rw [List.length_set]; exact hs.mac⟩
  have hst : Hid ((slotC s).set (21 + i) (.int .u8 (x.toNat : Int)) = slotC T) := by rw [hT]; exact slotC_mac_set hs.nonce hs.mac i hi16 x
  have hTl : T.last = s.last := by rw [hT]
  have hTlo : T.lo = s.lo := by rw [hT]
  have hThi : T.hi = s.hi := by rw [hT]
  have hri1 := hide (right_any T kT)
  have hE1 : Hid (errR T = if rightB T = true then 0 else 1) := rfl
  have h1 := hide (slotC_length T kT.nonce kT.mac)
  obtain ⟨lo, hlo0⟩ : ∃ x, x = T.lo := ⟨_, rfl⟩
  obtain ⟨hi, hhi0⟩ : ∃ x, x = T.hi := ⟨_, rfl⟩
  have hlo : Hid ((slotC T)[37]? = some (.int .u64 (lo : Int))) := by rw [hlo0]; exact slotC_lo kT.nonce kT.mac
  have hhi : Hid ((slotC T)[38]? = some (.int .u64 (hi : Int))) := by rw [hhi0]; exact slotC_hi kT.nonce kT.mac
  have hla0 : Hid ((slotC s)[0]? = some (.bool s.last)) := rfl
  have wn1 : IntKind.u32.wrap (n : Int) = (n : Int) := by rw [IntKind.wrap_u32]; omega
  have wn2 : IntKind.u64.wrap (n : Int) = (n : Int) := by rw [IntKind.wrap_u64]; omega
  rcases hl : s.last with _ | _
  · have hle : lo ≤ hi := by rw [hlo0, hhi0, hTlo, hThi]; exact (kind_on hl hR).2
    have hRT : rightB T = true := by rw [rightB_on (hTl.trans hl), show T.box = 0 by rw [hT]; exact (kind_on hl hR).1, ← hlo0, ← hhi0, decide_eq_true hle]; rfl
    rw [hl] at hla0
    have hla := hla0
    rw [hRT] at hE1
    clear hTl hTlo hThi kT hs hR hlo0 hhi0 hl hE hRT hT hnz hx0 hi0
    generalize slotC s = C0 at *
    generalize slotC T = C1 at *
    generalize errR T = E1 at *
    clear T s
    have h : E1 = 0 := hE1.out
    subst h
    have hd1 : decide (lo ≤ hi) = true := decide_eq_true hle
    have hd2 : (lo : Int) ≤ (hi : Int) := by omega
    clear hE1
    have H := hide (At.start w)
    go_enter Try.func6, Try.ntmps6
    go_wp2_with (first
      | (with_reducible refine at_op (op := ⟨some 59, _, _, _, _, _⟩) ?_; rw [hx2])
      | (with_reducible refine at_op (op := ⟨some 55, _, _, _, _, _⟩) ?_; rw [hmod])
      | (with_reducible refine at_op (op := ⟨some 3, _, _, _, _, _⟩) ?_; (refine wpl_boxa (op := ⟨some 3, _, _, _, _, _⟩) rfl _ _ rfl (C0) rfl ?_); intro g3 W1 hB1 hg1 hF1; replace H := hide (H.out.box hg1 hF1 hB1); clear hB1 hg1 hF1)
      | (go_at_call 12; with_reducible refine (hsh.out _).mono ?_; rintro e Wc ⟨rfl, hbc⟩; replace H := hide (H.out.call hbc); clear hbc)
      | (with_reducible refine at_op (op := ⟨some 11, _, _, _, _, _⟩) ?_; refine wpl_held (op := ⟨some 11, _, _, _, _, _⟩) (.agg (C0).toArray) (held_loadf aggS _ rfl g3 rfl _ (C0) (H.out.get 0 rfl) h0.out) rfl ?_)
      | (go_at_call 14; with_reducible refine (hri.out _).mono ?_; rintro e Wc ⟨rfl, hbc⟩; replace H := hide (H.out.call hbc); clear hbc)
      | (with_reducible refine at_op (op := ⟨some 22, _, _, _, _, _⟩) ?_; refine wpl_held (op := ⟨some 22, _, _, _, _, _⟩) (.agg (C0).toArray) (held_loadf aggS _ rfl g3 rfl _ (C0) (H.out.get 0 rfl) h0.out) rfl ?_)
      | ((with_reducible refine wpl_alloca (op := ⟨some 8, _, _, _, _, _⟩) rfl _ rfl _ zeroS ?_); intro g8 W1 hB1 hg1 hF1)
      | ((with_reducible refine wpl_storea aggS rfl (.tmp 8) (.tmp 22) rfl g8 (C0) rfl rfl _ _ hB1 h0.out slot0_len (h0o.out) ?_); intro W2 hB2 hF2; replace H := hide (H.out.var hg1 hF1 hF2 hB2); clear hB1 hg1 hF1 hB2 hF2)
      | (with_reducible refine at_op (op := ⟨none, .store _ (.tmp 60) _, _, _, _, _⟩) ?_; (refine wpl_store1 (op := ⟨none, _, _, _, _, _⟩) one8 rfl (.tmp 60) (.tmp 58) rfl g8 (21 + i) (.int .u8 (x.toNat : Int)) (C0) (C1) rfl rfl rfl _ (H.out.get 1 rfl) (by rw [h0.out]; omega) hst.out ?_); intro W1 hB1 hF1; replace H := hide (H.out.store 1 rfl hF1 hB1); clear hB1 hF1)
      | (with_reducible refine at_op (op := ⟨some 72, _, _, _, _, _⟩) ?_; refine wpl_held (op := ⟨some 72, _, _, _, _, _⟩) (.int .u64 (lo : Int)) (held_load1 Try.underlying30 rfl one64 _ rfl g8 37 rfl _ _ (.int .u64 (lo : Int)) (H.out.get 1 rfl) hlo.out) rfl ?_)
      | (with_reducible refine at_op (op := ⟨some 74, _, _, _, _, _⟩) ?_; refine wpl_held (op := ⟨some 74, _, _, _, _, _⟩) (.int .u64 (hi : Int)) (held_load1 Try.underlying30 rfl one64 _ rfl g8 38 rfl _ _ (.int .u64 (hi : Int)) (H.out.get 1 rfl) hhi.out) rfl ?_)
      | (with_reducible refine at_op (op := ⟨some 77, _, _, _, _, _⟩) ?_; refine wpl_held (op := ⟨some 77, _, _, _, _, _⟩) (.bool false) (held_load1 Try.underlying4 rfl oneBool _ rfl g3 0 rfl _ _ (.bool false) (H.out.get 0 rfl) hla.out) rfl ?_)
      | (with_reducible refine at_op (op := ⟨some 88, _, _, _, _, _⟩) ?_; refine wpl_held (op := ⟨some 88, _, _, _, _, _⟩) (.bool false) (held_load1 Try.underlying4 rfl oneBool _ rfl g3 0 rfl _ _ (.bool false) (H.out.get 0 rfl) hla.out) rfl ?_)
      | (with_reducible refine at_op (op := ⟨some 97, _, _, _, _, _⟩) ?_; refine wpl_held (op := ⟨some 97, _, _, _, _, _⟩) (.agg (C1).toArray) (held_loadf aggS _ rfl g8 rfl _ (C1) (H.out.get 1 rfl) h1.out) rfl ?_)
      | (go_at_call 14; with_reducible refine (hri1.out _).mono ?_; rintro e Wc ⟨rfl, hbc⟩; replace H := hide (H.out.call hbc); clear hbc))
    go_ret
    exact ⟨rfl, H.out.bel⟩
  · have hle : lo ≤ hi := by rw [hlo0, hhi0, hTlo, hThi]; exact (kind_last hl hR).2.2.2.2.2
    have hRT : rightB T = false := by rw [rightB_last (hTl.trans hl), show T.mac = s.mac.set i x by rw [hT], hnz]; simp
    rw [hl] at hla0
    have hla := hla0
    rw [hRT] at hE1
    clear hTl hTlo hThi kT hs hR hlo0 hhi0 hl hE hRT hT hnz hx0 hi0
    generalize slotC s = C0 at *
    generalize slotC T = C1 at *
    generalize errR T = E1 at *
    clear T s
    have h : E1 = 1 := hE1.out
    subst h
    have hd1 : decide (lo ≤ hi) = true := decide_eq_true hle
    have hd2 : (lo : Int) ≤ (hi : Int) := by omega
    clear hE1
    have H := hide (At.start w)
    go_enter Try.func6, Try.ntmps6
    go_wp2_with (first
      | (with_reducible refine at_op (op := ⟨some 59, _, _, _, _, _⟩) ?_; rw [hx2])
      | (with_reducible refine at_op (op := ⟨some 55, _, _, _, _, _⟩) ?_; rw [hmod])
      | (with_reducible refine at_op (op := ⟨some 3, _, _, _, _, _⟩) ?_; (refine wpl_boxa (op := ⟨some 3, _, _, _, _, _⟩) rfl _ _ rfl (C0) rfl ?_); intro g3 W1 hB1 hg1 hF1; replace H := hide (H.out.box hg1 hF1 hB1); clear hB1 hg1 hF1)
      | (go_at_call 12; with_reducible refine (hsh.out _).mono ?_; rintro e Wc ⟨rfl, hbc⟩; replace H := hide (H.out.call hbc); clear hbc)
      | (with_reducible refine at_op (op := ⟨some 11, _, _, _, _, _⟩) ?_; refine wpl_held (op := ⟨some 11, _, _, _, _, _⟩) (.agg (C0).toArray) (held_loadf aggS _ rfl g3 rfl _ (C0) (H.out.get 0 rfl) h0.out) rfl ?_)
      | (go_at_call 14; with_reducible refine (hri.out _).mono ?_; rintro e Wc ⟨rfl, hbc⟩; replace H := hide (H.out.call hbc); clear hbc)
      | (with_reducible refine at_op (op := ⟨some 22, _, _, _, _, _⟩) ?_; refine wpl_held (op := ⟨some 22, _, _, _, _, _⟩) (.agg (C0).toArray) (held_loadf aggS _ rfl g3 rfl _ (C0) (H.out.get 0 rfl) h0.out) rfl ?_)
      | ((with_reducible refine wpl_alloca (op := ⟨some 8, _, _, _, _, _⟩) rfl _ rfl _ zeroS ?_); intro g8 W1 hB1 hg1 hF1)
      | ((with_reducible refine wpl_storea aggS rfl (.tmp 8) (.tmp 22) rfl g8 (C0) rfl rfl _ _ hB1 h0.out slot0_len (h0o.out) ?_); intro W2 hB2 hF2; replace H := hide (H.out.var hg1 hF1 hF2 hB2); clear hB1 hg1 hF1 hB2 hF2)
      | (with_reducible refine at_op (op := ⟨none, .store _ (.tmp 60) _, _, _, _, _⟩) ?_; (refine wpl_store1 (op := ⟨none, _, _, _, _, _⟩) one8 rfl (.tmp 60) (.tmp 58) rfl g8 (21 + i) (.int .u8 (x.toNat : Int)) (C0) (C1) rfl rfl rfl _ (H.out.get 1 rfl) (by rw [h0.out]; omega) hst.out ?_); intro W1 hB1 hF1; replace H := hide (H.out.store 1 rfl hF1 hB1); clear hB1 hF1)
      | (with_reducible refine at_op (op := ⟨some 72, _, _, _, _, _⟩) ?_; refine wpl_held (op := ⟨some 72, _, _, _, _, _⟩) (.int .u64 (lo : Int)) (held_load1 Try.underlying30 rfl one64 _ rfl g8 37 rfl _ _ (.int .u64 (lo : Int)) (H.out.get 1 rfl) hlo.out) rfl ?_)
      | (with_reducible refine at_op (op := ⟨some 74, _, _, _, _, _⟩) ?_; refine wpl_held (op := ⟨some 74, _, _, _, _, _⟩) (.int .u64 (hi : Int)) (held_load1 Try.underlying30 rfl one64 _ rfl g8 38 rfl _ _ (.int .u64 (hi : Int)) (H.out.get 1 rfl) hhi.out) rfl ?_)
      | (with_reducible refine at_op (op := ⟨some 77, _, _, _, _, _⟩) ?_; refine wpl_held (op := ⟨some 77, _, _, _, _, _⟩) (.bool true) (held_load1 Try.underlying4 rfl oneBool _ rfl g3 0 rfl _ _ (.bool true) (H.out.get 0 rfl) hla.out) rfl ?_)
      | (with_reducible refine at_op (op := ⟨some 88, _, _, _, _, _⟩) ?_; refine wpl_held (op := ⟨some 88, _, _, _, _, _⟩) (.bool true) (held_load1 Try.underlying4 rfl oneBool _ rfl g3 0 rfl _ _ (.bool true) (H.out.get 0 rfl) hla.out) rfl ?_)
      | (with_reducible refine at_op (op := ⟨some 97, _, _, _, _, _⟩) ?_; refine wpl_held (op := ⟨some 97, _, _, _, _, _⟩) (.agg (C1).toArray) (held_loadf aggS _ rfl g8 rfl _ (C1) (H.out.get 1 rfl) h1.out) rfl ?_)
      | (go_at_call 14; with_reducible refine (hri1.out _).mono ?_; rintro e Wc ⟨rfl, hbc⟩; replace H := hide (H.out.call hbc); clear hbc))
    go_ret
    exact ⟨rfl, H.out.bel⟩

set_option maxHeartbeats 16000000 in
set_option maxRecDepth 100000 in
theorem field6_walk (s : Slot) (hs : s.ok) (a : Int) (n : Nat) (hn : n < 65536) (hn0 : n ≠ 0) (hR : rightB s = true) (hf : a % 65536 % 8 = 6) (w : World) : Calls Try.prog 6 #[.agg (slotC s).toArray, .int .i64 a, .int .u16 (n : Int)] w fun e w' => e = .returned (.bool true) ∧ Below w.heap.size w w' := by
  have hsh := hide shown_any
  have hri := hide (right_any s hs)
  have h0 := hide (slotC_length s hs.nonce hs.mac)
  have h0o := hide (slotC_one s)
  have hE : Hid (errR s = if rightB s = true then 0 else 1) := rfl
  have h : errR s = 0 := by rw [hE.out, hR]; rfl
  rw [h] at hri
  clear h
  have hmask := mask16 a
  have hn1 : ((n : Int) == 0) = false := by simp; omega
  have hn2 : ¬ (n : Int) = 0 := by omega
  obtain ⟨T, hT⟩ : ∃ y : Slot, y = { s with lo := n } := ⟨_, rfl⟩
  have kT : T.ok := by rw [hT]; exact ⟨hs.next, hs.box, hs.who, hs.epoch, (by simp only; omega), hs.hi, hs.delay, hs.nonce, hs.mac⟩
  have hst : Hid ((slotC s).set (37) (.int .u64 (n : Int)) = slotC T) := by rw [hT]; exact slotC_slo hs.nonce hs.mac n
  have hTl : T.last = s.last := by rw [hT]
  have hTlo : T.lo = n := by rw [hT]
  have hThi : T.hi = s.hi := by rw [hT]
  have hri1 := hide (right_any T kT)
  have hE1 : Hid (errR T = if rightB T = true then 0 else 1) := rfl
  have h1 := hide (slotC_length T kT.nonce kT.mac)
  obtain ⟨lo, hlo0⟩ : ∃ x, x = T.lo := ⟨_, rfl⟩
  obtain ⟨hi, hhi0⟩ : ∃ x, x = T.hi := ⟨_, rfl⟩
  have hlo : Hid ((slotC T)[37]? = some (.int .u64 (lo : Int))) := by rw [hlo0]; exact slotC_lo kT.nonce kT.mac
  have hhi : Hid ((slotC T)[38]? = some (.int .u64 (hi : Int))) := by rw [hhi0]; exact slotC_hi kT.nonce kT.mac
  have hla0 : Hid ((slotC s)[0]? = some (.bool s.last)) := rfl
  have wn1 : IntKind.u32.wrap (n : Int) = (n : Int) := by rw [IntKind.wrap_u32]; omega
  have wn2 : IntKind.u64.wrap (n : Int) = (n : Int) := by rw [IntKind.wrap_u64]; omega
  rcases hl : s.last with _ | _
  · have hRT : rightB T = decide (lo ≤ hi) := by rw [hlo0, hhi0, rightB_on (hTl.trans hl), show T.box = 0 by rw [hT]; exact (kind_on hl hR).1]; simp [nateq]
    rw [hl] at hla0
    have hla := hla0
    rw [hRT] at hE1
    clear hTl hTlo hThi kT hs hR hlo0 hhi0 hl hE hRT hT
    generalize slotC s = C0 at *
    generalize slotC T = C1 at *
    generalize errR T = E1 at *
    clear T s
    by_cases hle : lo ≤ hi
    · have h : E1 = 0 := by rw [hE1.out, decide_eq_true hle]; rfl
      subst h
      have hd1 : decide (lo ≤ hi) = true := decide_eq_true hle
      have hd2 : (lo : Int) ≤ (hi : Int) := by omega
      clear hE1
      have H := hide (At.start w)
      go_enter Try.func6, Try.ntmps6
      go_wp2_with (first
        | (with_reducible refine at_op (op := ⟨some 3, _, _, _, _, _⟩) ?_; (refine wpl_boxa (op := ⟨some 3, _, _, _, _, _⟩) rfl _ _ rfl (C0) rfl ?_); intro g3 W1 hB1 hg1 hF1; replace H := hide (H.out.box hg1 hF1 hB1); clear hB1 hg1 hF1)
        | (go_at_call 12; with_reducible refine (hsh.out _).mono ?_; rintro e Wc ⟨rfl, hbc⟩; replace H := hide (H.out.call hbc); clear hbc)
        | (with_reducible refine at_op (op := ⟨some 11, _, _, _, _, _⟩) ?_; refine wpl_held (op := ⟨some 11, _, _, _, _, _⟩) (.agg (C0).toArray) (held_loadf aggS _ rfl g3 rfl _ (C0) (H.out.get 0 rfl) h0.out) rfl ?_)
        | (go_at_call 14; with_reducible refine (hri.out _).mono ?_; rintro e Wc ⟨rfl, hbc⟩; replace H := hide (H.out.call hbc); clear hbc)
        | (with_reducible refine at_op (op := ⟨some 22, _, _, _, _, _⟩) ?_; refine wpl_held (op := ⟨some 22, _, _, _, _, _⟩) (.agg (C0).toArray) (held_loadf aggS _ rfl g3 rfl _ (C0) (H.out.get 0 rfl) h0.out) rfl ?_)
        | ((with_reducible refine wpl_alloca (op := ⟨some 8, _, _, _, _, _⟩) rfl _ rfl _ zeroS ?_); intro g8 W1 hB1 hg1 hF1)
        | ((with_reducible refine wpl_storea aggS rfl (.tmp 8) (.tmp 22) rfl g8 (C0) rfl rfl _ _ hB1 h0.out slot0_len (h0o.out) ?_); intro W2 hB2 hF2; replace H := hide (H.out.var hg1 hF1 hF2 hB2); clear hB1 hg1 hF1 hB2 hF2)
        | (with_reducible refine at_op (op := ⟨none, .store _ (.tmp 65) _, _, _, _, _⟩) ?_; (refine wpl_store1 (op := ⟨none, _, _, _, _, _⟩) one64 rfl (.tmp 65) (.tmp 64) rfl g8 37 (.int .u64 (n : Int)) (C0) (C1) rfl rfl rfl _ (H.out.get 1 rfl) (by rw [h0.out]; decide) hst.out ?_); intro W1 hB1 hF1; replace H := hide (H.out.store 1 rfl hF1 hB1); clear hB1 hF1)
        | (with_reducible refine at_op (op := ⟨some 72, _, _, _, _, _⟩) ?_; refine wpl_held (op := ⟨some 72, _, _, _, _, _⟩) (.int .u64 (lo : Int)) (held_load1 Try.underlying30 rfl one64 _ rfl g8 37 rfl _ _ (.int .u64 (lo : Int)) (H.out.get 1 rfl) hlo.out) rfl ?_)
        | (with_reducible refine at_op (op := ⟨some 74, _, _, _, _, _⟩) ?_; refine wpl_held (op := ⟨some 74, _, _, _, _, _⟩) (.int .u64 (hi : Int)) (held_load1 Try.underlying30 rfl one64 _ rfl g8 38 rfl _ _ (.int .u64 (hi : Int)) (H.out.get 1 rfl) hhi.out) rfl ?_)
        | (with_reducible refine at_op (op := ⟨some 77, _, _, _, _, _⟩) ?_; refine wpl_held (op := ⟨some 77, _, _, _, _, _⟩) (.bool false) (held_load1 Try.underlying4 rfl oneBool _ rfl g3 0 rfl _ _ (.bool false) (H.out.get 0 rfl) hla.out) rfl ?_)
        | (with_reducible refine at_op (op := ⟨some 88, _, _, _, _, _⟩) ?_; refine wpl_held (op := ⟨some 88, _, _, _, _, _⟩) (.bool false) (held_load1 Try.underlying4 rfl oneBool _ rfl g3 0 rfl _ _ (.bool false) (H.out.get 0 rfl) hla.out) rfl ?_)
        | (with_reducible refine at_op (op := ⟨some 97, _, _, _, _, _⟩) ?_; refine wpl_held (op := ⟨some 97, _, _, _, _, _⟩) (.agg (C1).toArray) (held_loadf aggS _ rfl g8 rfl _ (C1) (H.out.get 1 rfl) h1.out) rfl ?_)
        | (go_at_call 14; with_reducible refine (hri1.out _).mono ?_; rintro e Wc ⟨rfl, hbc⟩; replace H := hide (H.out.call hbc); clear hbc))
      go_ret
      exact ⟨rfl, H.out.bel⟩
    · have h : E1 = 1 := by rw [hE1.out, decide_eq_false hle]; rfl
      subst h
      have hd1 : decide (lo ≤ hi) = false := decide_eq_false hle
      have hd2 : ¬ (lo : Int) ≤ (hi : Int) := by omega
      clear hE1
      have H := hide (At.start w)
      go_enter Try.func6, Try.ntmps6
      go_wp2_with (first
        | (with_reducible refine at_op (op := ⟨some 3, _, _, _, _, _⟩) ?_; (refine wpl_boxa (op := ⟨some 3, _, _, _, _, _⟩) rfl _ _ rfl (C0) rfl ?_); intro g3 W1 hB1 hg1 hF1; replace H := hide (H.out.box hg1 hF1 hB1); clear hB1 hg1 hF1)
        | (go_at_call 12; with_reducible refine (hsh.out _).mono ?_; rintro e Wc ⟨rfl, hbc⟩; replace H := hide (H.out.call hbc); clear hbc)
        | (with_reducible refine at_op (op := ⟨some 11, _, _, _, _, _⟩) ?_; refine wpl_held (op := ⟨some 11, _, _, _, _, _⟩) (.agg (C0).toArray) (held_loadf aggS _ rfl g3 rfl _ (C0) (H.out.get 0 rfl) h0.out) rfl ?_)
        | (go_at_call 14; with_reducible refine (hri.out _).mono ?_; rintro e Wc ⟨rfl, hbc⟩; replace H := hide (H.out.call hbc); clear hbc)
        | (with_reducible refine at_op (op := ⟨some 22, _, _, _, _, _⟩) ?_; refine wpl_held (op := ⟨some 22, _, _, _, _, _⟩) (.agg (C0).toArray) (held_loadf aggS _ rfl g3 rfl _ (C0) (H.out.get 0 rfl) h0.out) rfl ?_)
        | ((with_reducible refine wpl_alloca (op := ⟨some 8, _, _, _, _, _⟩) rfl _ rfl _ zeroS ?_); intro g8 W1 hB1 hg1 hF1)
        | ((with_reducible refine wpl_storea aggS rfl (.tmp 8) (.tmp 22) rfl g8 (C0) rfl rfl _ _ hB1 h0.out slot0_len (h0o.out) ?_); intro W2 hB2 hF2; replace H := hide (H.out.var hg1 hF1 hF2 hB2); clear hB1 hg1 hF1 hB2 hF2)
        | (with_reducible refine at_op (op := ⟨none, .store _ (.tmp 65) _, _, _, _, _⟩) ?_; (refine wpl_store1 (op := ⟨none, _, _, _, _, _⟩) one64 rfl (.tmp 65) (.tmp 64) rfl g8 37 (.int .u64 (n : Int)) (C0) (C1) rfl rfl rfl _ (H.out.get 1 rfl) (by rw [h0.out]; decide) hst.out ?_); intro W1 hB1 hF1; replace H := hide (H.out.store 1 rfl hF1 hB1); clear hB1 hF1)
        | (with_reducible refine at_op (op := ⟨some 72, _, _, _, _, _⟩) ?_; refine wpl_held (op := ⟨some 72, _, _, _, _, _⟩) (.int .u64 (lo : Int)) (held_load1 Try.underlying30 rfl one64 _ rfl g8 37 rfl _ _ (.int .u64 (lo : Int)) (H.out.get 1 rfl) hlo.out) rfl ?_)
        | (with_reducible refine at_op (op := ⟨some 74, _, _, _, _, _⟩) ?_; refine wpl_held (op := ⟨some 74, _, _, _, _, _⟩) (.int .u64 (hi : Int)) (held_load1 Try.underlying30 rfl one64 _ rfl g8 38 rfl _ _ (.int .u64 (hi : Int)) (H.out.get 1 rfl) hhi.out) rfl ?_)
        | (with_reducible refine at_op (op := ⟨some 77, _, _, _, _, _⟩) ?_; refine wpl_held (op := ⟨some 77, _, _, _, _, _⟩) (.bool false) (held_load1 Try.underlying4 rfl oneBool _ rfl g3 0 rfl _ _ (.bool false) (H.out.get 0 rfl) hla.out) rfl ?_)
        | (with_reducible refine at_op (op := ⟨some 88, _, _, _, _, _⟩) ?_; refine wpl_held (op := ⟨some 88, _, _, _, _, _⟩) (.bool false) (held_load1 Try.underlying4 rfl oneBool _ rfl g3 0 rfl _ _ (.bool false) (H.out.get 0 rfl) hla.out) rfl ?_)
        | (with_reducible refine at_op (op := ⟨some 97, _, _, _, _, _⟩) ?_; refine wpl_held (op := ⟨some 97, _, _, _, _, _⟩) (.agg (C1).toArray) (held_loadf aggS _ rfl g8 rfl _ (C1) (H.out.get 1 rfl) h1.out) rfl ?_)
        | (go_at_call 14; with_reducible refine (hri1.out _).mono ?_; rintro e Wc ⟨rfl, hbc⟩; replace H := hide (H.out.call hbc); clear hbc))
      go_ret
      exact ⟨rfl, H.out.bel⟩
  · have hRT : rightB T = decide (lo ≤ hi) := by rw [hlo0, hhi0, rightB_last (hTl.trans hl), show T.next = 0 by rw [hT]; exact (kind_last hl hR).1, show T.who = 0 by rw [hT]; exact (kind_last hl hR).2.1, show T.epoch = 0 by rw [hT]; exact (kind_last hl hR).2.2.1, show T.nonce = Z16 by rw [hT]; exact (kind_last hl hR).2.2.2.1, show T.mac = Z16 by rw [hT]; exact (kind_last hl hR).2.2.2.2.1]; simp [nateq]
    rw [hl] at hla0
    have hla := hla0
    rw [hRT] at hE1
    clear hTl hTlo hThi kT hs hR hlo0 hhi0 hl hE hRT hT
    generalize slotC s = C0 at *
    generalize slotC T = C1 at *
    generalize errR T = E1 at *
    clear T s
    by_cases hle : lo ≤ hi
    · have h : E1 = 0 := by rw [hE1.out, decide_eq_true hle]; rfl
      subst h
      have hd1 : decide (lo ≤ hi) = true := decide_eq_true hle
      have hd2 : (lo : Int) ≤ (hi : Int) := by omega
      clear hE1
      have H := hide (At.start w)
      go_enter Try.func6, Try.ntmps6
      go_wp2_with (first
        | (with_reducible refine at_op (op := ⟨some 3, _, _, _, _, _⟩) ?_; (refine wpl_boxa (op := ⟨some 3, _, _, _, _, _⟩) rfl _ _ rfl (C0) rfl ?_); intro g3 W1 hB1 hg1 hF1; replace H := hide (H.out.box hg1 hF1 hB1); clear hB1 hg1 hF1)
        | (go_at_call 12; with_reducible refine (hsh.out _).mono ?_; rintro e Wc ⟨rfl, hbc⟩; replace H := hide (H.out.call hbc); clear hbc)
        | (with_reducible refine at_op (op := ⟨some 11, _, _, _, _, _⟩) ?_; refine wpl_held (op := ⟨some 11, _, _, _, _, _⟩) (.agg (C0).toArray) (held_loadf aggS _ rfl g3 rfl _ (C0) (H.out.get 0 rfl) h0.out) rfl ?_)
        | (go_at_call 14; with_reducible refine (hri.out _).mono ?_; rintro e Wc ⟨rfl, hbc⟩; replace H := hide (H.out.call hbc); clear hbc)
        | (with_reducible refine at_op (op := ⟨some 22, _, _, _, _, _⟩) ?_; refine wpl_held (op := ⟨some 22, _, _, _, _, _⟩) (.agg (C0).toArray) (held_loadf aggS _ rfl g3 rfl _ (C0) (H.out.get 0 rfl) h0.out) rfl ?_)
        | ((with_reducible refine wpl_alloca (op := ⟨some 8, _, _, _, _, _⟩) rfl _ rfl _ zeroS ?_); intro g8 W1 hB1 hg1 hF1)
        | ((with_reducible refine wpl_storea aggS rfl (.tmp 8) (.tmp 22) rfl g8 (C0) rfl rfl _ _ hB1 h0.out slot0_len (h0o.out) ?_); intro W2 hB2 hF2; replace H := hide (H.out.var hg1 hF1 hF2 hB2); clear hB1 hg1 hF1 hB2 hF2)
        | (with_reducible refine at_op (op := ⟨none, .store _ (.tmp 65) _, _, _, _, _⟩) ?_; (refine wpl_store1 (op := ⟨none, _, _, _, _, _⟩) one64 rfl (.tmp 65) (.tmp 64) rfl g8 37 (.int .u64 (n : Int)) (C0) (C1) rfl rfl rfl _ (H.out.get 1 rfl) (by rw [h0.out]; decide) hst.out ?_); intro W1 hB1 hF1; replace H := hide (H.out.store 1 rfl hF1 hB1); clear hB1 hF1)
        | (with_reducible refine at_op (op := ⟨some 72, _, _, _, _, _⟩) ?_; refine wpl_held (op := ⟨some 72, _, _, _, _, _⟩) (.int .u64 (lo : Int)) (held_load1 Try.underlying30 rfl one64 _ rfl g8 37 rfl _ _ (.int .u64 (lo : Int)) (H.out.get 1 rfl) hlo.out) rfl ?_)
        | (with_reducible refine at_op (op := ⟨some 74, _, _, _, _, _⟩) ?_; refine wpl_held (op := ⟨some 74, _, _, _, _, _⟩) (.int .u64 (hi : Int)) (held_load1 Try.underlying30 rfl one64 _ rfl g8 38 rfl _ _ (.int .u64 (hi : Int)) (H.out.get 1 rfl) hhi.out) rfl ?_)
        | (with_reducible refine at_op (op := ⟨some 77, _, _, _, _, _⟩) ?_; refine wpl_held (op := ⟨some 77, _, _, _, _, _⟩) (.bool true) (held_load1 Try.underlying4 rfl oneBool _ rfl g3 0 rfl _ _ (.bool true) (H.out.get 0 rfl) hla.out) rfl ?_)
        | (with_reducible refine at_op (op := ⟨some 88, _, _, _, _, _⟩) ?_; refine wpl_held (op := ⟨some 88, _, _, _, _, _⟩) (.bool true) (held_load1 Try.underlying4 rfl oneBool _ rfl g3 0 rfl _ _ (.bool true) (H.out.get 0 rfl) hla.out) rfl ?_)
        | (with_reducible refine at_op (op := ⟨some 97, _, _, _, _, _⟩) ?_; refine wpl_held (op := ⟨some 97, _, _, _, _, _⟩) (.agg (C1).toArray) (held_loadf aggS _ rfl g8 rfl _ (C1) (H.out.get 1 rfl) h1.out) rfl ?_)
        | (go_at_call 14; with_reducible refine (hri1.out _).mono ?_; rintro e Wc ⟨rfl, hbc⟩; replace H := hide (H.out.call hbc); clear hbc))
      go_ret
      exact ⟨rfl, H.out.bel⟩
    · have h : E1 = 1 := by rw [hE1.out, decide_eq_false hle]; rfl
      subst h
      have hd1 : decide (lo ≤ hi) = false := decide_eq_false hle
      have hd2 : ¬ (lo : Int) ≤ (hi : Int) := by omega
      clear hE1
      have H := hide (At.start w)
      go_enter Try.func6, Try.ntmps6
      go_wp2_with (first
        | (with_reducible refine at_op (op := ⟨some 3, _, _, _, _, _⟩) ?_; (refine wpl_boxa (op := ⟨some 3, _, _, _, _, _⟩) rfl _ _ rfl (C0) rfl ?_); intro g3 W1 hB1 hg1 hF1; replace H := hide (H.out.box hg1 hF1 hB1); clear hB1 hg1 hF1)
        | (go_at_call 12; with_reducible refine (hsh.out _).mono ?_; rintro e Wc ⟨rfl, hbc⟩; replace H := hide (H.out.call hbc); clear hbc)
        | (with_reducible refine at_op (op := ⟨some 11, _, _, _, _, _⟩) ?_; refine wpl_held (op := ⟨some 11, _, _, _, _, _⟩) (.agg (C0).toArray) (held_loadf aggS _ rfl g3 rfl _ (C0) (H.out.get 0 rfl) h0.out) rfl ?_)
        | (go_at_call 14; with_reducible refine (hri.out _).mono ?_; rintro e Wc ⟨rfl, hbc⟩; replace H := hide (H.out.call hbc); clear hbc)
        | (with_reducible refine at_op (op := ⟨some 22, _, _, _, _, _⟩) ?_; refine wpl_held (op := ⟨some 22, _, _, _, _, _⟩) (.agg (C0).toArray) (held_loadf aggS _ rfl g3 rfl _ (C0) (H.out.get 0 rfl) h0.out) rfl ?_)
        | ((with_reducible refine wpl_alloca (op := ⟨some 8, _, _, _, _, _⟩) rfl _ rfl _ zeroS ?_); intro g8 W1 hB1 hg1 hF1)
        | ((with_reducible refine wpl_storea aggS rfl (.tmp 8) (.tmp 22) rfl g8 (C0) rfl rfl _ _ hB1 h0.out slot0_len (h0o.out) ?_); intro W2 hB2 hF2; replace H := hide (H.out.var hg1 hF1 hF2 hB2); clear hB1 hg1 hF1 hB2 hF2)
        | (with_reducible refine at_op (op := ⟨none, .store _ (.tmp 65) _, _, _, _, _⟩) ?_; (refine wpl_store1 (op := ⟨none, _, _, _, _, _⟩) one64 rfl (.tmp 65) (.tmp 64) rfl g8 37 (.int .u64 (n : Int)) (C0) (C1) rfl rfl rfl _ (H.out.get 1 rfl) (by rw [h0.out]; decide) hst.out ?_); intro W1 hB1 hF1; replace H := hide (H.out.store 1 rfl hF1 hB1); clear hB1 hF1)
        | (with_reducible refine at_op (op := ⟨some 72, _, _, _, _, _⟩) ?_; refine wpl_held (op := ⟨some 72, _, _, _, _, _⟩) (.int .u64 (lo : Int)) (held_load1 Try.underlying30 rfl one64 _ rfl g8 37 rfl _ _ (.int .u64 (lo : Int)) (H.out.get 1 rfl) hlo.out) rfl ?_)
        | (with_reducible refine at_op (op := ⟨some 74, _, _, _, _, _⟩) ?_; refine wpl_held (op := ⟨some 74, _, _, _, _, _⟩) (.int .u64 (hi : Int)) (held_load1 Try.underlying30 rfl one64 _ rfl g8 38 rfl _ _ (.int .u64 (hi : Int)) (H.out.get 1 rfl) hhi.out) rfl ?_)
        | (with_reducible refine at_op (op := ⟨some 77, _, _, _, _, _⟩) ?_; refine wpl_held (op := ⟨some 77, _, _, _, _, _⟩) (.bool true) (held_load1 Try.underlying4 rfl oneBool _ rfl g3 0 rfl _ _ (.bool true) (H.out.get 0 rfl) hla.out) rfl ?_)
        | (with_reducible refine at_op (op := ⟨some 88, _, _, _, _, _⟩) ?_; refine wpl_held (op := ⟨some 88, _, _, _, _, _⟩) (.bool true) (held_load1 Try.underlying4 rfl oneBool _ rfl g3 0 rfl _ _ (.bool true) (H.out.get 0 rfl) hla.out) rfl ?_)
        | (with_reducible refine at_op (op := ⟨some 97, _, _, _, _, _⟩) ?_; refine wpl_held (op := ⟨some 97, _, _, _, _, _⟩) (.agg (C1).toArray) (held_loadf aggS _ rfl g8 rfl _ (C1) (H.out.get 1 rfl) h1.out) rfl ?_)
        | (go_at_call 14; with_reducible refine (hri1.out _).mono ?_; rintro e Wc ⟨rfl, hbc⟩; replace H := hide (H.out.call hbc); clear hbc))
      go_ret
      exact ⟨rfl, H.out.bel⟩

set_option maxHeartbeats 16000000 in
set_option maxRecDepth 100000 in
theorem field7_walk (s : Slot) (hs : s.ok) (a : Int) (n : Nat) (hn : n < 65536) (hn0 : n ≠ 0) (hR : rightB s = true) (hf : a % 65536 % 8 = 7) (w : World) : Calls Try.prog 6 #[.agg (slotC s).toArray, .int .i64 a, .int .u16 (n : Int)] w fun e w' => e = .returned (.bool true) ∧ Below w.heap.size w w' := by
  have hsh := hide shown_any
  have hri := hide (right_any s hs)
  have h0 := hide (slotC_length s hs.nonce hs.mac)
  have h0o := hide (slotC_one s)
  have hE : Hid (errR s = if rightB s = true then 0 else 1) := rfl
  have h : errR s = 0 := by rw [hE.out, hR]; rfl
  rw [h] at hri
  clear h
  have hmask := mask16 a
  have hn1 : ((n : Int) == 0) = false := by simp; omega
  have hn2 : ¬ (n : Int) = 0 := by omega
  obtain ⟨T, hT⟩ : ∃ y : Slot, y = { s with delay := n } := ⟨_, rfl⟩
  have kT : T.ok := by rw [hT]; exact ⟨hs.next, hs.box, hs.who, hs.epoch, hs.lo, hs.hi, (by simp only; omega), hs.nonce, hs.mac⟩
  have hst : Hid ((slotC s).set (39) (.int .u32 (n : Int)) = slotC T) := by rw [hT]; exact slotC_sdelay hs.nonce hs.mac n
  have hTl : T.last = s.last := by rw [hT]
  have hTlo : T.lo = s.lo := by rw [hT]
  have hThi : T.hi = s.hi := by rw [hT]
  have hri1 := hide (right_any T kT)
  have hE1 : Hid (errR T = if rightB T = true then 0 else 1) := rfl
  have h1 := hide (slotC_length T kT.nonce kT.mac)
  obtain ⟨lo, hlo0⟩ : ∃ x, x = T.lo := ⟨_, rfl⟩
  obtain ⟨hi, hhi0⟩ : ∃ x, x = T.hi := ⟨_, rfl⟩
  have hlo : Hid ((slotC T)[37]? = some (.int .u64 (lo : Int))) := by rw [hlo0]; exact slotC_lo kT.nonce kT.mac
  have hhi : Hid ((slotC T)[38]? = some (.int .u64 (hi : Int))) := by rw [hhi0]; exact slotC_hi kT.nonce kT.mac
  have hla0 : Hid ((slotC s)[0]? = some (.bool s.last)) := rfl
  have wn1 : IntKind.u32.wrap (n : Int) = (n : Int) := by rw [IntKind.wrap_u32]; omega
  have wn2 : IntKind.u64.wrap (n : Int) = (n : Int) := by rw [IntKind.wrap_u64]; omega
  rcases hl : s.last with _ | _
  · have hle : lo ≤ hi := by rw [hlo0, hhi0, hTlo, hThi]; exact (kind_on hl hR).2
    have hRT : rightB T = true := by rw [rightB_on (hTl.trans hl), show T.box = 0 by rw [hT]; exact (kind_on hl hR).1, ← hlo0, ← hhi0, decide_eq_true hle]; rfl
    rw [hl] at hla0
    have hla := hla0
    rw [hRT] at hE1
    clear hTl hTlo hThi kT hs hR hlo0 hhi0 hl hE hRT hT
    generalize slotC s = C0 at *
    generalize slotC T = C1 at *
    generalize errR T = E1 at *
    clear T s
    have h : E1 = 0 := hE1.out
    subst h
    have hd1 : decide (lo ≤ hi) = true := decide_eq_true hle
    have hd2 : (lo : Int) ≤ (hi : Int) := by omega
    clear hE1
    have H := hide (At.start w)
    go_enter Try.func6, Try.ntmps6
    go_wp2_with (first
      | (with_reducible refine at_op (op := ⟨some 3, _, _, _, _, _⟩) ?_; (refine wpl_boxa (op := ⟨some 3, _, _, _, _, _⟩) rfl _ _ rfl (C0) rfl ?_); intro g3 W1 hB1 hg1 hF1; replace H := hide (H.out.box hg1 hF1 hB1); clear hB1 hg1 hF1)
      | (go_at_call 12; with_reducible refine (hsh.out _).mono ?_; rintro e Wc ⟨rfl, hbc⟩; replace H := hide (H.out.call hbc); clear hbc)
      | (with_reducible refine at_op (op := ⟨some 11, _, _, _, _, _⟩) ?_; refine wpl_held (op := ⟨some 11, _, _, _, _, _⟩) (.agg (C0).toArray) (held_loadf aggS _ rfl g3 rfl _ (C0) (H.out.get 0 rfl) h0.out) rfl ?_)
      | (go_at_call 14; with_reducible refine (hri.out _).mono ?_; rintro e Wc ⟨rfl, hbc⟩; replace H := hide (H.out.call hbc); clear hbc)
      | (with_reducible refine at_op (op := ⟨some 22, _, _, _, _, _⟩) ?_; refine wpl_held (op := ⟨some 22, _, _, _, _, _⟩) (.agg (C0).toArray) (held_loadf aggS _ rfl g3 rfl _ (C0) (H.out.get 0 rfl) h0.out) rfl ?_)
      | ((with_reducible refine wpl_alloca (op := ⟨some 8, _, _, _, _, _⟩) rfl _ rfl _ zeroS ?_); intro g8 W1 hB1 hg1 hF1)
      | ((with_reducible refine wpl_storea aggS rfl (.tmp 8) (.tmp 22) rfl g8 (C0) rfl rfl _ _ hB1 h0.out slot0_len (h0o.out) ?_); intro W2 hB2 hF2; replace H := hide (H.out.var hg1 hF1 hF2 hB2); clear hB1 hg1 hF1 hB2 hF2)
      | (with_reducible refine at_op (op := ⟨none, .store _ (.tmp 70) _, _, _, _, _⟩) ?_; (refine wpl_store1 (op := ⟨none, _, _, _, _, _⟩) one32 rfl (.tmp 70) (.tmp 69) rfl g8 39 (.int .u32 (n : Int)) (C0) (C1) rfl rfl rfl _ (H.out.get 1 rfl) (by rw [h0.out]; decide) hst.out ?_); intro W1 hB1 hF1; replace H := hide (H.out.store 1 rfl hF1 hB1); clear hB1 hF1)
      | (with_reducible refine at_op (op := ⟨some 72, _, _, _, _, _⟩) ?_; refine wpl_held (op := ⟨some 72, _, _, _, _, _⟩) (.int .u64 (lo : Int)) (held_load1 Try.underlying30 rfl one64 _ rfl g8 37 rfl _ _ (.int .u64 (lo : Int)) (H.out.get 1 rfl) hlo.out) rfl ?_)
      | (with_reducible refine at_op (op := ⟨some 74, _, _, _, _, _⟩) ?_; refine wpl_held (op := ⟨some 74, _, _, _, _, _⟩) (.int .u64 (hi : Int)) (held_load1 Try.underlying30 rfl one64 _ rfl g8 38 rfl _ _ (.int .u64 (hi : Int)) (H.out.get 1 rfl) hhi.out) rfl ?_)
      | (with_reducible refine at_op (op := ⟨some 77, _, _, _, _, _⟩) ?_; refine wpl_held (op := ⟨some 77, _, _, _, _, _⟩) (.bool false) (held_load1 Try.underlying4 rfl oneBool _ rfl g3 0 rfl _ _ (.bool false) (H.out.get 0 rfl) hla.out) rfl ?_)
      | (with_reducible refine at_op (op := ⟨some 88, _, _, _, _, _⟩) ?_; refine wpl_held (op := ⟨some 88, _, _, _, _, _⟩) (.bool false) (held_load1 Try.underlying4 rfl oneBool _ rfl g3 0 rfl _ _ (.bool false) (H.out.get 0 rfl) hla.out) rfl ?_)
      | (with_reducible refine at_op (op := ⟨some 97, _, _, _, _, _⟩) ?_; refine wpl_held (op := ⟨some 97, _, _, _, _, _⟩) (.agg (C1).toArray) (held_loadf aggS _ rfl g8 rfl _ (C1) (H.out.get 1 rfl) h1.out) rfl ?_)
      | (go_at_call 14; with_reducible refine (hri1.out _).mono ?_; rintro e Wc ⟨rfl, hbc⟩; replace H := hide (H.out.call hbc); clear hbc))
    go_ret
    exact ⟨rfl, H.out.bel⟩
  · have hle : lo ≤ hi := by rw [hlo0, hhi0, hTlo, hThi]; exact (kind_last hl hR).2.2.2.2.2
    have hRT : rightB T = true := by rw [rightB_last (hTl.trans hl), show T.next = 0 by rw [hT]; exact (kind_last hl hR).1, show T.who = 0 by rw [hT]; exact (kind_last hl hR).2.1, show T.epoch = 0 by rw [hT]; exact (kind_last hl hR).2.2.1, show T.nonce = Z16 by rw [hT]; exact (kind_last hl hR).2.2.2.1, show T.mac = Z16 by rw [hT]; exact (kind_last hl hR).2.2.2.2.1, ← hlo0, ← hhi0, decide_eq_true hle]; rfl
    rw [hl] at hla0
    have hla := hla0
    rw [hRT] at hE1
    clear hTl hTlo hThi kT hs hR hlo0 hhi0 hl hE hRT hT
    generalize slotC s = C0 at *
    generalize slotC T = C1 at *
    generalize errR T = E1 at *
    clear T s
    have h : E1 = 0 := hE1.out
    subst h
    have hd1 : decide (lo ≤ hi) = true := decide_eq_true hle
    have hd2 : (lo : Int) ≤ (hi : Int) := by omega
    clear hE1
    have H := hide (At.start w)
    go_enter Try.func6, Try.ntmps6
    go_wp2_with (first
      | (with_reducible refine at_op (op := ⟨some 3, _, _, _, _, _⟩) ?_; (refine wpl_boxa (op := ⟨some 3, _, _, _, _, _⟩) rfl _ _ rfl (C0) rfl ?_); intro g3 W1 hB1 hg1 hF1; replace H := hide (H.out.box hg1 hF1 hB1); clear hB1 hg1 hF1)
      | (go_at_call 12; with_reducible refine (hsh.out _).mono ?_; rintro e Wc ⟨rfl, hbc⟩; replace H := hide (H.out.call hbc); clear hbc)
      | (with_reducible refine at_op (op := ⟨some 11, _, _, _, _, _⟩) ?_; refine wpl_held (op := ⟨some 11, _, _, _, _, _⟩) (.agg (C0).toArray) (held_loadf aggS _ rfl g3 rfl _ (C0) (H.out.get 0 rfl) h0.out) rfl ?_)
      | (go_at_call 14; with_reducible refine (hri.out _).mono ?_; rintro e Wc ⟨rfl, hbc⟩; replace H := hide (H.out.call hbc); clear hbc)
      | (with_reducible refine at_op (op := ⟨some 22, _, _, _, _, _⟩) ?_; refine wpl_held (op := ⟨some 22, _, _, _, _, _⟩) (.agg (C0).toArray) (held_loadf aggS _ rfl g3 rfl _ (C0) (H.out.get 0 rfl) h0.out) rfl ?_)
      | ((with_reducible refine wpl_alloca (op := ⟨some 8, _, _, _, _, _⟩) rfl _ rfl _ zeroS ?_); intro g8 W1 hB1 hg1 hF1)
      | ((with_reducible refine wpl_storea aggS rfl (.tmp 8) (.tmp 22) rfl g8 (C0) rfl rfl _ _ hB1 h0.out slot0_len (h0o.out) ?_); intro W2 hB2 hF2; replace H := hide (H.out.var hg1 hF1 hF2 hB2); clear hB1 hg1 hF1 hB2 hF2)
      | (with_reducible refine at_op (op := ⟨none, .store _ (.tmp 70) _, _, _, _, _⟩) ?_; (refine wpl_store1 (op := ⟨none, _, _, _, _, _⟩) one32 rfl (.tmp 70) (.tmp 69) rfl g8 39 (.int .u32 (n : Int)) (C0) (C1) rfl rfl rfl _ (H.out.get 1 rfl) (by rw [h0.out]; decide) hst.out ?_); intro W1 hB1 hF1; replace H := hide (H.out.store 1 rfl hF1 hB1); clear hB1 hF1)
      | (with_reducible refine at_op (op := ⟨some 72, _, _, _, _, _⟩) ?_; refine wpl_held (op := ⟨some 72, _, _, _, _, _⟩) (.int .u64 (lo : Int)) (held_load1 Try.underlying30 rfl one64 _ rfl g8 37 rfl _ _ (.int .u64 (lo : Int)) (H.out.get 1 rfl) hlo.out) rfl ?_)
      | (with_reducible refine at_op (op := ⟨some 74, _, _, _, _, _⟩) ?_; refine wpl_held (op := ⟨some 74, _, _, _, _, _⟩) (.int .u64 (hi : Int)) (held_load1 Try.underlying30 rfl one64 _ rfl g8 38 rfl _ _ (.int .u64 (hi : Int)) (H.out.get 1 rfl) hhi.out) rfl ?_)
      | (with_reducible refine at_op (op := ⟨some 77, _, _, _, _, _⟩) ?_; refine wpl_held (op := ⟨some 77, _, _, _, _, _⟩) (.bool true) (held_load1 Try.underlying4 rfl oneBool _ rfl g3 0 rfl _ _ (.bool true) (H.out.get 0 rfl) hla.out) rfl ?_)
      | (with_reducible refine at_op (op := ⟨some 88, _, _, _, _, _⟩) ?_; refine wpl_held (op := ⟨some 88, _, _, _, _, _⟩) (.bool true) (held_load1 Try.underlying4 rfl oneBool _ rfl g3 0 rfl _ _ (.bool true) (H.out.get 0 rfl) hla.out) rfl ?_)
      | (with_reducible refine at_op (op := ⟨some 97, _, _, _, _, _⟩) ?_; refine wpl_held (op := ⟨some 97, _, _, _, _, _⟩) (.agg (C1).toArray) (held_loadf aggS _ rfl g8 rfl _ (C1) (H.out.get 1 rfl) h1.out) rfl ?_)
      | (go_at_call 14; with_reducible refine (hri1.out _).mono ?_; rintro e Wc ⟨rfl, hbc⟩; replace H := hide (H.out.call hbc); clear hbc))
    go_ret
    exact ⟨rfl, H.out.bel⟩

set_option maxHeartbeats 16000000 in
set_option maxRecDepth 100000 in
theorem fields_walk (s : Slot) (hs : s.ok) (a : Int) (hab : -9223372036854775808 ≤ a ∧ a ≤ 9223372036854775807) (n : Nat) (hn : n < 65536) (w : World) : Calls Try.prog 6 #[.agg (slotC s).toArray, .int .i64 a, .int .u16 (n : Int)] w fun e w' => e = .returned (.bool true) ∧ Below w.heap.size w w' := by
  have hsh := hide shown_any
  by_cases hok : rightB s = true ∧ n ≠ 0
  · have h8 : a % 65536 % 8 = 0 ∨ a % 65536 % 8 = 1 ∨ a % 65536 % 8 = 2 ∨ a % 65536 % 8 = 3 ∨ a % 65536 % 8 = 4 ∨ a % 65536 % 8 = 5 ∨ a % 65536 % 8 = 6 ∨ a % 65536 % 8 = 7 := by omega
    rcases h8 with h | h | h | h | h | h | h | h
    · exact field0_walk s hs a n hn hok.2 hok.1 h w
    · exact field1_walk s hs a n hn hok.2 hok.1 h w
    · exact field2_walk s hs a n hn hok.2 hok.1 h w
    · exact field3_walk s hs a n hn hok.2 hok.1 h w
    · exact field4_walk s hs a n hn hok.2 hok.1 h w
    · exact field5_walk s hs a n hn hok.2 hok.1 h w
    · exact field6_walk s hs a n hn hok.2 hok.1 h w
    · exact field7_walk s hs a n hn hok.2 hok.1 h w
  · have hri := hide (right_any s hs)
    have h0 := hide (slotC_length s hs.nonce hs.mac)
    have hE : Hid (errR s = if rightB s = true then 0 else 1) := rfl
    cases hR : rightB s
    · have h : errR s = 1 := by rw [hE.out, hR]; rfl
      rw [h] at hri
      clear hE hR hs h hok hab
      generalize slotC s = C0 at *
      have H := hide (At.start w)
      go_enter Try.func6, Try.ntmps6
      go_wp2_with (first
        | (with_reducible refine at_op (op := ⟨some 3, _, _, _, _, _⟩) ?_; (refine wpl_boxa (op := ⟨some 3, _, _, _, _, _⟩) rfl _ _ rfl (C0) rfl ?_); intro g3 W1 hB1 hg1 hF1; replace H := hide (H.out.box hg1 hF1 hB1); clear hB1 hg1 hF1)
        | (go_at_call 12; with_reducible refine (hsh.out _).mono ?_; rintro e Wc ⟨rfl, hbc⟩; replace H := hide (H.out.call hbc); clear hbc)
        | (with_reducible refine at_op (op := ⟨some 11, _, _, _, _, _⟩) ?_; refine wpl_held (op := ⟨some 11, _, _, _, _, _⟩) (.agg (C0).toArray) (held_loadf aggS _ rfl g3 rfl _ (C0) (H.out.get 0 rfl) h0.out) rfl ?_)
        | (go_at_call 14; with_reducible refine (hri.out _).mono ?_; rintro e Wc ⟨rfl, hbc⟩; replace H := hide (H.out.call hbc); clear hbc))
      go_ret
      exact ⟨rfl, H.out.bel⟩
    · have h : errR s = 0 := by rw [hE.out, hR]; rfl
      rw [h] at hri
      have hz : n = 0 := by
        rcases Nat.eq_zero_or_pos n with h0 | h0
        · exact h0
        · exact absurd ⟨hR, by omega⟩ hok
      subst hz
      clear hE hR hs h hok hab hn
      generalize slotC s = C0 at *
      have H := hide (At.start w)
      go_enter Try.func6, Try.ntmps6
      go_wp2_with (first
        | (with_reducible refine at_op (op := ⟨some 3, _, _, _, _, _⟩) ?_; (refine wpl_boxa (op := ⟨some 3, _, _, _, _, _⟩) rfl _ _ rfl (C0) rfl ?_); intro g3 W1 hB1 hg1 hF1; replace H := hide (H.out.box hg1 hF1 hB1); clear hB1 hg1 hF1)
        | (go_at_call 12; with_reducible refine (hsh.out _).mono ?_; rintro e Wc ⟨rfl, hbc⟩; replace H := hide (H.out.call hbc); clear hbc)
        | (with_reducible refine at_op (op := ⟨some 11, _, _, _, _, _⟩) ?_; refine wpl_held (op := ⟨some 11, _, _, _, _, _⟩) (.agg (C0).toArray) (held_loadf aggS _ rfl g3 rfl _ (C0) (H.out.get 0 rfl) h0.out) rfl ?_)
        | (go_at_call 14; with_reducible refine (hri.out _).mono ?_; rintro e Wc ⟨rfl, hbc⟩; replace H := hide (H.out.call hbc); clear hbc))
      go_ret
      exact ⟨rfl, H.out.bel⟩
end Go.Proofs.Ytedodbejbkdplaa
