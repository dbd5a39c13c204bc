/-
  The document's way to build an onion, over lists: what stands at the end of a Head is what the hops ahead make of noughts.
-/
import Derived.Test.YtoiiiflnnhkjbaaGreatDoorOnM
namespace Go.Proofs.YtoiiiflnnhkjbaaGreatDoor
set_option linter.unusedVariables false
set_option linter.unusedSimpArgs false
open Go.RowKit

/-- What those ahead of hop i make of bytes of 0, as the document counts it. -/
def behindL (hs : List HopL) : Nat → List UInt8
  | 0 => []
  | k + 1 => xorB (behindL hs k ++ zeros 64) ((hopS (hs.getD k hop0)).drop (384 - (behindL hs k).length - 64))
theorem behindL_eq (hs : List HopL) : ∀ i, i ≤ 5 → behindL hs i = (leftH hs i).drop (320 - 64 * i)
  | 0, _ => by
    show [] = (zeros 320).drop (320 - 64 * 0)
    rw [List.drop_eq_nil_of_le (by rw [zeros_length]; omega)]
  | i + 1, h => by
    have ih := behindL_eq hs i (by omega)
    have hl : (behindL hs i).length = 64 * i := by rw [ih, List.length_drop, leftH_length]; omega
    show xorB (behindL hs i ++ zeros 64) ((hopS (hs.getD i hop0)).drop (384 - (behindL hs i).length - 64)) = _
    rw [hl, ih, show 384 - 64 * i - 64 = 320 - 64 * i by omega, show 320 - 64 * (i + 1) = 256 - 64 * i by omega, left_drop hs i (by omega)]
theorem behindL_length (hs : List HopL) (i : Nat) (h : i ≤ 5) : (behindL hs i).length = 64 * i := by
  rw [behindL_eq hs i h, List.length_drop, leftH_length]; omega
theorem zeros_take (n k : Nat) (h : k ≤ n) : (zeros n).take k = zeros k := by
  simp [zeros, List.take_replicate, Nat.min_eq_left h]
theorem zeros_drop (n k : Nat) : (zeros n).drop k = zeros (n - k) := by
  simp [zeros]
/-- Ahead of it stand noughts. -/
theorem left_zeros (hs : List HopL) : ∀ i, i ≤ 5 → (leftH hs i).take (320 - 64 * i) = zeros (320 - 64 * i)
  | 0, _ => zeros_take 320 _ (by omega)
  | i + 1, h => by
    have ih := left_zeros hs i (by omega)
    have hl := leftH_length hs i
    show (stepLeft i _ (leftH hs i)).take (320 - 64 * (i + 1)) = _
    unfold stepLeft
    have hA : (leftH hs i ++ zeros 64).take (384 - 64 * (i + 1)) = zeros (320 - 64 * i) := by
      rw [show 384 - 64 * (i + 1) = 320 - 64 * i by omega, List.take_append_of_le_length (by rw [hl]; omega), ih]
    rw [hA, List.drop_append_of_le_length (by rw [zeros_length]; omega), zeros_drop, show 320 - 64 * (i + 1) = 320 - 64 * i - 64 by omega]
    exact List.take_left' (zeros_length _)
/-- The last hop's Head: the document's is the program's. -/
theorem top_last (hs : List HopL) (i : Nat) (hi : i ≤ 4) {enc : List UInt8} (he : enc.length = 64) :
    (xorB (enc ++ leftH hs (i + 1)) (hopS (hs.getD i hop0))).take 320 = (xorB (enc ++ zeros 256) ((hopS (hs.getD i hop0)).take 320)).take (320 - (behindL hs i).length) ++ behindL hs i := by
  have hl := leftH_length hs (i + 1)
  have hS := hopS_length (hs.getD i hop0)
  have hb := (hidden_end hs i hi he hl (show TailOk hs (i + 1) (leftH hs (i + 1)) from rfl)).2
  unfold TailOk at hb
  rw [behindL_length hs i (by omega), ← List.take_append_drop (320 - 64 * i) ((xorB (enc ++ leftH hs (i + 1)) (hopS (hs.getD i hop0))).take 320), hb, behindL_eq hs i (by omega)]
  refine congrArg (· ++ (leftH hs i).drop (320 - 64 * i)) ?_
  have hz : (enc ++ leftH hs (i + 1)).take (320 - 64 * i) = (enc ++ zeros 256).take (320 - 64 * i) := by
    have h1 := left_zeros hs (i + 1) (by omega)
    rw [List.take_append, List.take_append, he, show 320 - 64 * i - 64 = 320 - 64 * (i + 1) by omega, h1, zeros_take 256 _ (by omega)]
  rw [List.take_take, Nat.min_eq_left (by omega), xorB_take, xorB_take, hz, List.take_take, Nat.min_eq_left (by omega)]
/-- An inner hop's Head: the document's is the program's. -/
theorem top_inner {enc hd S : List UInt8} (he : enc.length = 64) (hh : hd.length = 320) (hS : S.length = 384) :
    (xorB (enc ++ hd) S).take 320 = xorB (enc ++ hd.take 256) (S.take 320) := by
  rw [xorB_take, List.take_append, he, List.take_of_length_le (by omega)]
/-- A built packet is its hop's layer about the next one. -/
theorem pktAt_step (hs : List HopL) (box : Nat) (body : List UInt8) {i : Nat} (hi : i < hs.length) : pktAt hs box body i = wrapL (hs.getD i hop0) (slotAt hs box body i) (pktAt hs box body (i + 1)) := by
  unfold pktAt slotAt
  rw [getD_drop hi]
  rfl
theorem initB_head (hd body : List UInt8) (box : Nat) : (initB hd body box).1.head = hd := rfl
theorem bldR_nil1 (x : Pkt × Slot) : (bldR x []).1 = x.1 := rfl
theorem pktAt_end (hs : List HopL) (box : Nat) (body : List UInt8) : (pktAt hs box body hs.length).head = leftH hs hs.length := by
  unfold pktAt
  rw [List.drop_length, bldR_nil1, initB_head]
end Go.Proofs.YtoiiiflnnhkjbaaGreatDoor
