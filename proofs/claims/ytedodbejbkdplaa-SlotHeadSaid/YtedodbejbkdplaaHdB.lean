/-
  SlotHead over lists: what a packet's head holds when k slots are written into it.
-/
import Derived.Test.YtedodbejbkdplaaHdA
namespace Go.Proofs.Ytedodbejbkdplaa
set_option linter.unusedVariables false
set_option linter.unusedSimpArgs false
open Go.RowKit

def encs : List Slot → List UInt8
  | [] => []
  | s :: l => outM s ++ encs l
theorem encs_append : ∀ l m, encs (l ++ m) = encs l ++ encs m
  | [], m => rfl
  | s :: l, m => by simp [encs, encs_append l m]
theorem encs_length : ∀ {l : List Slot}, OkL l → (encs l).length = 64 * l.length
  | [], _ => rfl
  | s :: l, h => by
    have h1 := outM_length (h s (by simp))
    have h2 := encs_length (l := l) (fun x hx => h x (by simp [hx]))
    simp only [encs, List.length_append, List.length_cons, h1, h2]
    omega
/-- The packet whose head holds O, then zeros. -/
def hdP (p : Pkt) (O : List Slot) : Pkt := { p with head := encs O ++ zeros (320 - 64 * O.length) }
theorem hdP_ok {p : Pkt} (hp : p.ok) {O : List Slot} (hO : OkL O) (h5 : O.length ≤ 5) : (hdP p O).ok := by
  refine ⟨hp.who, hp.epoch, hp.nonce, hp.mac, ?_, hp.body⟩
  show (encs O ++ zeros (320 - 64 * O.length)).length = 320
  rw [List.length_append, encs_length hO, zeros_length]
  omega
theorem encs_at : ∀ (O : List Slot) (r : List UInt8) (j : Nat), OkL O → j < O.length → ((encs O ++ r).drop (64 * j)).take 64 = outM (O.getD j slot0)
  | [], r, j, _, h => by simp at h
  | s :: l, r, 0, ho, h => by
    have h1 := outM_length (ho s (by simp))
    show ((outM s ++ encs l) ++ r).take 64 = outM s
    rw [List.append_assoc, ← h1, List.take_left]
  | s :: l, r, j + 1, ho, h => by
    have h1 := outM_length (ho s (by simp))
    have := encs_at l r j (fun x hx => ho x (by simp [hx])) (by simpa using h)
    show (((outM s ++ encs l) ++ r).drop (64 * (j + 1))).take 64 = _
    rw [List.append_assoc, show 64 * (j + 1) = (outM s).length + 64 * j by rw [h1]; omega, List.drop_length_add_append, this]
    rfl
theorem slot0_out : outM slot0 = zeros 64 := by decide +kernel
theorem slot0_right : rightB slot0 = true := by decide +kernel
/-- Chunk j of the head. -/
theorem hdP_chunk {p : Pkt} {O : List Slot} (hO : OkL O) (h5 : O.length ≤ 5) (j : Nat) (hj : j < 5) : ((hdP p O).head.drop (64 * j)).take 64 = outM (O.getD j slot0) := by
  show ((encs O ++ zeros (320 - 64 * O.length)).drop (64 * j)).take 64 = _
  by_cases h : j < O.length
  · exact encs_at O _ j hO h
  · have e : O.getD j slot0 = slot0 := by
      rw [List.getD_eq_getElem?_getD, List.getElem?_eq_none (by omega)]
      rfl
    have h1 := encs_length hO
    rw [e, slot0_out, List.drop_append, List.drop_eq_nil_of_le (by rw [h1]; omega), List.nil_append, h1]
    unfold zeros
    rw [List.drop_replicate, List.take_replicate]
    congr 1
    omega
theorem splice_within {α : Type} (a b c x : List α) (o : Nat) (h : o + x.length ≤ b.length) : splice (a ++ (b ++ c)) (a.length + o) x = a ++ (splice b o x ++ c) := by
  unfold splice
  rw [List.take_length_add_append, Nat.add_assoc, List.drop_length_add_append, List.take_append_of_le_length (by omega), List.drop_append_of_le_length h]
  simp [List.append_assoc]
theorem pktC_mid (p : Pkt) (x : List UInt8) : pktC { p with head := x } = ([.int .u16 (p.who : Int), .int .u32 (p.epoch : Int)] ++ (cellsB p.nonce ++ cellsB p.mac)) ++ (cellsB x ++ cellsB p.body) := by
  simp [pktC, List.append_assoc]
theorem splice_cellsB (b x : List UInt8) (o : Nat) : splice (cellsB b) o (cellsB x) = cellsB (splice b o x) := by
  simp [splice, cellsB, List.map_take, List.map_drop]
/-- Bytes written into the head. -/
theorem pktC_put {p : Pkt} (hp : p.ok) (h x : List UInt8) (o : Nat) (hh : h.length = 320) (hx : o + x.length ≤ 320) : splice (pktC { p with head := h }) (34 + o) (cellsB x) = pktC { p with head := splice h o x } := by
  rw [pktC_mid, pktC_mid]
  have hl : (([.int .u16 (p.who : Int), .int .u32 (p.epoch : Int)] : List Value) ++ (cellsB p.nonce ++ cellsB p.mac)).length = 34 := by simp [cellsB_length, hp.nonce, hp.mac]
  rw [← hl, splice_within _ _ _ _ _ (by rw [cellsB_length, cellsB_length, hh]; exact hx), splice_cellsB]
theorem hdP_zero {p : Pkt} (hp : p.ok) : splice (pktC p) 34 (cellsB (zeros 320)) = pktC (hdP p []) := by
  have h := pktC_put hp p.head (zeros 320) 0 hp.head (by rw [zeros_length]; decide)
  refine h.trans ?_
  have e : splice p.head 0 (zeros 320) = encs [] ++ zeros (320 - 64 * ([] : List Slot).length) := by
    unfold splice
    rw [zeros_length, List.drop_eq_nil_of_le (by rw [hp.head]; decide), List.take_zero, List.nil_append, List.append_nil]
    rfl
  rw [e]
  rfl
/-- One slot more. -/
theorem hdP_put {p : Pkt} (hp : p.ok) {O : List Slot} (hO : OkL O) (h5 : O.length < 5) {s : Slot} (hs : s.ok) : splice (pktC (hdP p O)) (34 + 64 * O.length) (cellsB (outM s)) = pktC (hdP p (O ++ [s])) := by
  have h1 := encs_length hO
  have h2 := outM_length hs
  have h := pktC_put hp (encs O ++ zeros (320 - 64 * O.length)) (outM s) (64 * O.length) (by rw [List.length_append, h1, zeros_length]; omega) (by rw [h2]; omega)
  refine h.trans ?_
  have e : splice (encs O ++ zeros (320 - 64 * O.length)) (64 * O.length) (outM s) = encs (O ++ [s]) ++ zeros (320 - 64 * (O ++ [s]).length) := by
   unfold splice
   rw [encs_append, List.length_append, List.take_append_of_le_length (by rw [h1]; exact Nat.le_refl _), List.take_of_length_le (by rw [h1]; exact Nat.le_refl _), h2, ← h1, List.drop_length_add_append, h1]
   unfold zeros
   rw [List.drop_replicate]
   simp only [encs, List.append_nil, List.append_assoc, List.length_cons, List.length_nil]
   congr 3
  rw [e]
  rfl
theorem hdP_back {O : List Slot} (hO : OkL O) (hR : ∀ s ∈ O, rightB s = true) (j : Nat) : (O.getD j slot0).ok ∧ rightB (O.getD j slot0) = true := by
  rw [List.getD_eq_getElem?_getD]
  cases h : O[j]? with
  | none => exact ⟨slot0_ok, slot0_right⟩
  | some s => exact ⟨hO s (List.mem_of_getElem? h), hR s (List.mem_of_getElem? h)⟩
end Go.Proofs.Ytedodbejbkdplaa
