/-
  chacha: rows xored.
-/
import Derived.Test.YtjdffceeinflcaaDoorCh5
namespace Go.Proofs.YtjdffceeinflcaaDoor
set_option linter.unusedVariables false
open Go.RowKit

def xorB (a b : List UInt8) : List UInt8 := List.zipWith (· ^^^ ·) a b
theorem xorB_length (a b : List UInt8) : (xorB a b).length = min a.length b.length := by simp [xorB]
theorem xorB_at (a b : List UInt8) (k : Nat) (ha : k < a.length) (hb : k < b.length) : (xorB a b)[k]? = some (a.getD k 0 ^^^ b.getD k 0) := by
  simp [xorB, List.getElem?_zipWith, List.getD_eq_getElem?_getD, List.getElem?_eq_getElem ha, List.getElem?_eq_getElem hb]

/-- A row of bytes that a call made: a block of its own. -/
def Made (w : World) (l : List UInt8) (e : Ending) (w' : World) : Prop :=
  ∃ g, e = .returned (.slice (some ⟨g, 0, none⟩) l.length l.length) ∧ Blk w' g 5 (cellsB l).toArray ∧ w.heap.size ≤ g ∧ Below w.heap.size w w'

set_option maxHeartbeats 2000000 in
theorem xor_any (A B : Option Addr) (n m c d : Nat) (a b : List UInt8) (w : World) (hA : Rds w A n (cellsB a)) (hB : Rds w B m (cellsB b)) (hn : n ≤ 1000000) (hm : m ≤ 1000000) :
    Calls Tryd.prog 15 #[.slice A n c, .slice B m d] w (Made w (xorB a b)) := by
  have hal : a.length = n := by have := hA.1; rwa [cellsB_length] at this
  have hbl : b.length = m := by have := hB.1; rwa [cellsB_length] at this
  obtain ⟨k0, HM, kl, kr, ke⟩ := nat_min n m
  have HXL : Hid ((xorB a b).length = k0) := by show _ = _; rw [xorB_length, hal, hbl, ke]
  have HXA : Hid (∀ k, k < k0 → (xorB a b)[k]? = some (a.getD k 0 ^^^ b.getD k 0)) := fun k hk => xorB_at a b k (by omega) (by omega)
  have Hal := hide hal
  have Hbl := hide hbl
  have HA := hide hA
  have HB := hide hB
  unfold Made
  have HE : Hid (k0 = (xorB a b).length) := HXL.out.symm
  rw [HXL.out]
  obtain ⟨T, hT⟩ : ∃ T, T = xorB a b := ⟨_, rfl⟩
  rw [← hT] at HXL HXA HE ⊢
  clear hT hA hB hal hbl ke
  go_enter Tryd.func15, Tryd.ntmps15
  go_wp2_with (first
    | (with_reducible refine wpl_min (op := ⟨some 11, _, _, _, _, _⟩) rfl _ _ _ _ rfl _ _ _ (k0 : Int) rfl rfl HM.out ?_)
    | ((with_reducible refine wpl_make8 (op := ⟨some 12, _, _, _, _, _⟩) rfl _ rfl .i64 (k0 : Int) k0 rfl rfl (by omega) ?_); intro g w1 hB1 hs1 hF1))
  have HZ : Hid ((List.replicate k0 (0 : UInt8)).length = k0) := List.length_replicate
  have HST : Hid (Blk w1 g 5 (cellsB (mix T (List.replicate k0 0) 0)).toArray ∧ Below w.heap.size w w1) := ⟨by rw [mix_zero]; exact hB1, hF1.below (Nat.le_refl _) (fun _ h => h.elim)⟩
  clear hB1 hF1 HM
  go_loopw [15] (fun i wr => ∃ k : Nat, k ≤ k0 ∧ i = .int .i64 k ∧ Blk wr g 5 (cellsB (mix T (List.replicate k0 0) k)).toArray ∧ Below w.heap.size w wr) (fun i _ => k0 - (intOf i).toNat)
  case atStart => exact ⟨0, by omega, rfl, HST.out⟩
  case round =>
    clear HST
    obtain ⟨k, hk, rfl, hi, hbel⟩ := hrel
    by_cases hlt : k < k0
    · obtain ⟨pa, rfl, hca⟩ := HA.out.2 (by omega)
      obtain ⟨pb, rfl, hcb⟩ := HB.out.2 (by omega)
      have ca0 := hca k _ (getD_byte a k (by rw [Hal.out]; omega))
      have cb0 := hcb k _ (getD_byte b k (by rw [Hbl.out]; omega))
      have ca : wr.cell? (pa.add k) = some (.int .u8 ((a.getD k 0).toNat : Int)) := by rw [hbel.cell (World.block_lt_of_cell? w _ ca0)]; exact ca0
      have cb : wr.cell? (pb.add k) = some (.int .u8 ((b.getD k 0).toNat : Int)) := by rw [hbel.cell (World.block_lt_of_cell? w _ cb0)]; exact cb0
      have hx := byte_xor (a.getD k 0) (b.getD k 0)
      have hset := mix_set T (List.replicate k0 0) k (a.getD k 0 ^^^ b.getD k 0) (by rw [HXL.out, HZ.out]) (by rw [HZ.out]; exact hlt) (HXA.out k hlt)
      have hf1 := hi.frozen k
      have i1 : (k : Int) < (n : Int) := by omega
      have i2 : (k : Int) < (m : Int) := by omega
      have i3 : (k : Int) < (k0 : Int) := by omega
      have hl0 : (cellsB (mix T (List.replicate k0 0) k)).length = k0 := by rw [cellsB_length, mix_length _ _ _ (by rw [HXL.out, HZ.out]), HZ.out]
      obtain ⟨vo, hvo⟩ : ∃ v, wr.cell? ⟨g, k, none⟩ = some v := ⟨(cellsB (mix T (List.replicate k0 0) k))[k]'(by omega), by rw [hi.cell, List.getElem?_toArray, List.getElem?_eq_getElem (by omega)]⟩
      have fin : Blk (wr.drew.setCell ⟨g, k, none⟩ (.int .u8 ((a.getD k 0 ^^^ b.getD k 0).toNat : Int))) g 5 (cellsB (mix T (List.replicate k0 0) (k + 1))).toArray ∧ Below w.heap.size w (wr.drew.setCell ⟨g, k, none⟩ (.int .u8 ((a.getD k 0 ^^^ b.getD k 0).toNat : Int))) := by
        have hb := hi.set k (.int .u8 ((a.getD k 0 ^^^ b.getD k 0).toNat : Int))
        rw [List.setIfInBounds_toArray, cellsB_set, hset] at hb
        have f : Frm (fun i => i = g) wr (wr.drew.setCell ⟨g, k, none⟩ (.int .u8 ((a.getD k 0 ^^^ b.getD k 0).toNat : Int))) := ((Frm.refl _ _).drew).trans (Frm.setCell _ _ _ (fun i => i = g) rfl) (fun _ _ h => h)
        exact ⟨hb, below_frm hbel f hbel.size (fun i hi => by omega)⟩
      have FIN := hide fin
      clear fin hset hi hbel hca hcb ca0 cb0 hl0 HA HB
      generalize (a.getD k 0 ^^^ b.getD k 0).toNat = z at *
      generalize (a.getD k 0).toNat = x at *
      generalize (b.getD k 0).toNat = y at *
      go_wp2_with fail
      go_still_tail 12, (by kernel_rfl)
      have hf1' : wr.drew.frozen? ⟨g, k, none⟩ = false := hf1
      have hvo' : wr.drew.cell? ⟨g, k, none⟩ = some vo := hvo
      change wpList _ _ _ _ _ wr.drew
      go_wp2
      go_roundw
      case rel => first | exact ⟨k + 1, by omega, by go_num, FIN.out⟩ | ((repeat apply Exists.intro); exact ⟨⟨k + 1, by omega, by go_num, FIN.out⟩, rfl⟩)
      case measure => simp [intOf]; omega
    · obtain rfl : k = k0 := by omega
      rw [mix_all _ _ _ (by rw [HXL.out, HZ.out]) (by rw [HZ.out]; exact Nat.le_refl _)] at hi
      go_wp2_with fail
      go_ret
      exact ⟨g, rfl, hi, hs1, hbel⟩
end Go.Proofs.YtjdffceeinflcaaDoor
