/-
  Rows of hops turned in place; what a built packet's slots say.
-/
import Derived.Test.YtoiiiflnnhkjbaaDoorOnAgainW
namespace Go.Proofs.YtoiiiflnnhkjbaaDoor
set_option linter.unusedVariables false
set_option linter.unusedSimpArgs false
open Go.RowKit

theorem hopC_slo {h : HopL} (k : h.ok) (n : Nat) : (hopC h).set 51 (.int .u64 (n : Int)) = hopC { h with lo := n } := by
  have := set_mid ([.int .u16 (h.addr : Int), .int .u16 (h.who : Int)] ++ (cellsB h.key ++ (.int .u32 (h.epoch : Int) :: cellsB h.nonce))) [] [.int .u64 (h.hi : Int), .int .u32 (h.delay : Int)] (.int .u64 (h.lo : Int)) (.int .u64 (n : Int)) 51 (by simp [cellsB_length, k.key, k.nonce])
  simpa [hopC, List.append_assoc] using this
theorem hopC_shi {h : HopL} (k : h.ok) (n : Nat) : (hopC h).set 52 (.int .u64 (n : Int)) = hopC { h with hi := n } := by
  have := set_mid ([.int .u16 (h.addr : Int), .int .u16 (h.who : Int)] ++ (cellsB h.key ++ (.int .u32 (h.epoch : Int) :: (cellsB h.nonce ++ [.int .u64 (h.lo : Int)])))) [] [.int .u32 (h.delay : Int)] (.int .u64 (h.hi : Int)) (.int .u64 (n : Int)) 52 (by simp [cellsB_length, k.key, k.nonce])
  simpa [hopC, List.append_assoc] using this
theorem hopsC_set : ∀ (L : List HopL) (k q : Nat) (v : Value) (h' : HopL), (∀ h ∈ L, h.ok) → k < L.length → q < 54 → (hopC (L.getD k hop0)).set q v = hopC h' → (hopsC L).set (k * 54 + q) v = hopsC (L.set k h')
  | [], k, q, v, h', _, h, _, _ => by simp at h
  | s :: l, 0, q, v, h', ho, h, hq, e => by
    have e' : (hopC s).set q v = hopC h' := e
    rw [hopsC, Nat.zero_mul, Nat.zero_add, List.set_append_left _ _ (by rw [hopC_length (ho s (by simp))]; exact hq), e']
    rfl
  | s :: l, k + 1, q, v, h', ho, h, hq, e => by
    have e' : (hopC (l.getD k hop0)).set q v = hopC h' := e
    have := hopsC_set l k q v h' (fun x hx => ho x (by simp [hx])) (by simpa using h) hq e'
    have h1 := hopC_length (ho s (by simp))
    rw [hopsC, List.set_append_right _ _ (by rw [h1]; omega), h1, show (k + 1) * 54 + q - 54 = k * 54 + q by omega, this]
    rfl
section
variable {L : List HopL} {m k : Nat} {ra : List Value} (ho : ∀ h ∈ L, h.ok) (hl : L.length = m) (hk : k < m)
include ho hl hk
theorem row_get {q : Nat} (hq : q < 54) : (hopsC L ++ ra)[k * 54 + q]? = (hopC (L.getD k hop0))[q]? := by
  rw [List.getElem?_append_left (by rw [hopsC_length ho]; omega), hopsC_at L k q ho (by omega) hq]
theorem row_fits {q : Nat} (hq : q < 54) : k * 54 + q < (hopsC L ++ ra).length := by
  rw [List.length_append, hopsC_length ho]; omega
theorem row_set {q : Nat} (hq : q < 54) {v : Value} {h' : HopL} (e : (hopC (L.getD k hop0)).set q v = hopC h') : (hopsC L ++ ra).set (k * 54 + q) v = hopsC (L.set k h') ++ ra := by
  rw [List.set_append_left _ _ (by rw [hopsC_length ho]; omega), hopsC_set L k q v h' ho (by omega) hq e]
end
theorem ok_set {L : List HopL} (ho : ∀ h ∈ L, h.ok) {k : Nat} {h : HopL} (hh : h.ok) : ∀ x ∈ L.set k h, x.ok := by
  intro x hx
  rcases List.mem_or_eq_of_mem_set hx with h1 | h1
  · exact ho x h1
  · rw [h1]; exact hh
theorem getD_set_same {L : List HopL} {k : Nat} (hk : k < L.length) (h : HopL) : (L.set k h).getD k hop0 = h := by
  simp [List.getD_eq_getElem?_getD, hk]
theorem getD_set_other {L : List HopL} {k j : Nat} (h : HopL) (hne : j ≠ k) : (L.set k h).getD j hop0 = L.getD j hop0 := by
  simp [List.getD_eq_getElem?_getD, List.getElem?_set, Ne.symm hne]
theorem rightH_of {L : List HopL} (h1 : 1 ≤ L.length) (h5 : L.length ≤ 5) (hw : ∀ j, j < L.length → (L.getD j hop0).lo ≤ (L.getD j hop0).hi) : rightH L = true := by
  unfold rightH
  rw [Bool.and_eq_true, decide_eq_true_eq, List.all_eq_true]
  refine ⟨⟨h1, h5⟩, fun x hx => ?_⟩
  obtain ⟨j, hj, rfl⟩ := List.mem_iff_getElem.1 hx
  have := hw j hj
  rw [List.getD_eq_getElem?_getD, List.getElem?_eq_getElem hj] at this
  simpa using this
theorem rightH_none {L : List HopL} (h : L.length = 0) : rightH L = false := by
  unfold rightH
  rw [h]
  rfl
theorem inSlot_says (h : HopL) (s : Slot) : (inSlot h s).lo = h.lo ∧ (inSlot h s).hi = h.hi ∧ (inSlot h s).delay = h.delay ∧ (inSlot h s).last = s.last ∧ (inSlot h s).next = s.next ∧ (inSlot h s).box = s.box ∧ (inSlot h s).mac = s.mac := ⟨rfl, rfl, rfl, rfl, rfl, rfl, rfl⟩
theorem initB_waits (hd body : List UInt8) (box : Nat) : (initB hd body box).2.who = (initB hd body box).1.who ∧ (initB hd body box).2.epoch = (initB hd body box).1.epoch ∧ (initB hd body box).2.nonce = (initB hd body box).1.nonce ∧ (initB hd body box).2.mac = (initB hd body box).1.mac := ⟨rfl, rfl, rfl, rfl⟩
theorem initB_box (hd body : List UInt8) (box : Nat) : (initB hd body box).2.box = box := rfl
theorem ofHop_next (h : HopL) (m : List UInt8) : (ofHop h m).next = h.addr := rfl
section
variable (hs : List HopL) (box : Nat) (body : List UInt8) (i : Nat)
theorem slotAt_says : (slotAt hs box body i).lo = (hs.getD i hop0).lo ∧ (slotAt hs box body i).hi = (hs.getD i hop0).hi ∧ (slotAt hs box body i).delay = (hs.getD i hop0).delay := by
  unfold slotAt
  obtain ⟨a, b, c, _⟩ := inSlot_says (hs.getD i hop0) (bldR (initB (leftH hs hs.length) body box) (hs.drop (i + 1))).2
  exact ⟨a, b, c⟩
theorem slotAt_mac : (slotAt hs box body i).mac = (pktAt hs box body (i + 1)).mac := by
  unfold slotAt pktAt
  rw [(inSlot_says _ _).2.2.2.2.2.2]
  exact (bld_waits _ (initB_waits _ _ _) _).2.2.2
theorem slotAt_last (hi : i + 1 = hs.length) : (slotAt hs box body i).last = true ∧ (slotAt hs box body i).box = box := by
  have hk := bld_kind (leftH hs hs.length) body box (hs.drop (i + 1))
  have e : hs.drop (i + 1) = [] := by rw [hi]; exact List.drop_length
  unfold slotAt
  rw [(inSlot_says _ _).2.2.2.1, (inSlot_says _ _).2.2.2.2.2.1]
  refine ⟨by rw [hk.2, e]; rfl, ?_⟩
  rw [e, bldR_nil2, initB_box]
theorem slotAt_inner (hi : i + 1 < hs.length) : (slotAt hs box body i).last = false ∧ (slotAt hs box body i).next = (hs.getD (i + 1) hop0).addr := by
  have hk := bld_kind (leftH hs hs.length) body box (hs.drop (i + 1))
  have e := getD_drop hi
  unfold slotAt
  rw [(inSlot_says _ _).2.2.2.1, (inSlot_says _ _).2.2.2.2.1]
  refine ⟨by rw [hk.2, e]; rfl, ?_⟩
  rw [e]
  obtain ⟨m, hm⟩ := bldR_ofHop (initB (leftH hs hs.length) body box) (hs.getD (i + 1) hop0) (hs.drop (i + 1 + 1))
  rw [hm, ofHop_next]
end
end Go.Proofs.YtoiiiflnnhkjbaaDoor
