/-
  Bytes that load are those that are written again; bytes of a text.
-/
import Derived.Test.YtjicnfkodieaaaaDoorDsT
import Derived.Test.YtjicnfkodieaaaaDoorDRSum
import Derived.Lib.ConvBytes
namespace Go.Proofs.YtjicnfkodieaaaaDoor
set_option linter.unusedVariables false
set_option linter.unusedSimpArgs false
open Go.RowKit

theorem num_fold (l : List UInt8) : ∀ a : Nat, l.foldl (fun n b => n * 256 + b.toNat) a = a * 256 ^ l.length + num l := by
  unfold num
  induction l with
  | nil => intro a; simp
  | cons b l ih =>
    intro a
    rw [List.foldl_cons, List.foldl_cons, ih, ih (0 * 256 + b.toNat), List.length_cons, Nat.pow_succ]
    have : (a * 256 + b.toNat) * 256 ^ l.length = a * (256 ^ l.length * 256) + (0 * 256 + b.toNat) * 256 ^ l.length := by
      rw [Nat.add_mul, Nat.zero_mul, Nat.zero_add, Nat.mul_assoc, Nat.mul_comm 256 (256 ^ l.length)]
    omega
theorem num_cons (b : UInt8) (l : List UInt8) : num (b :: l) = b.toNat * 256 ^ l.length + num l := by
  show (b :: l).foldl _ 0 = _
  rw [List.foldl_cons, num_fold]
  simp
theorem be_add (w c n : Nat) : be w (c * 256 ^ w + n) = be w n := by
  unfold be
  apply List.map_congr_left
  intro j hj
  have hjw : j < w := List.mem_range.1 hj
  obtain ⟨k, hk⟩ : ∃ k, k = w - 1 - j := ⟨_, rfl⟩
  rw [← hk]
  have e : 256 ^ w = 256 ^ k * (256 ^ (w - 1 - k) * 256) := by
    rw [← Nat.pow_succ, ← Nat.pow_add]
    congr 1
    omega
  have e2 : (c * 256 ^ w + n) / 256 ^ k = n / 256 ^ k + c * 256 ^ (w - 1 - k) * 256 := by
    rw [e, Nat.add_comm, show c * (256 ^ k * (256 ^ (w - 1 - k) * 256)) = 256 ^ k * (c * 256 ^ (w - 1 - k) * 256) by
      rw [Nat.mul_left_comm, Nat.mul_assoc]]
    exact Nat.add_mul_div_left _ _ (Nat.pow_pos (by omega))
  rw [e2]
  apply UInt8.toNat_inj.1
  rw [UInt8.toNat_ofNat', UInt8.toNat_ofNat']
  omega
theorem be_num : ∀ l : List UInt8, be l.length (num l) = l
  | [] => rfl
  | b :: l => by
    have h := num_lt l
    rw [List.length_cons, be_succ, num_cons, be_add, be_num l]
    have e : (b.toNat * 256 ^ l.length + num l) / 256 ^ l.length = b.toNat := by
      rw [Nat.mul_comm, Nat.mul_add_div (Nat.pow_pos (by omega)), Nat.div_eq_of_lt h, Nat.add_zero]
    rw [e]
    simp
theorem be_numN (l : List UInt8) (n : Nat) (h : l.length = n) : be n (num l) = l := by
  subst h
  exact be_num l
theorem enc_dec (l : List UInt8) (h : 14 ≤ l.length) : encR (decR l) = l.take 14 := by
  unfold encR decR
  simp only
  rw [be_numN (l.take 2) 2 (by rw [List.length_take]; omega), be_numN ((l.drop 2).take 4) 4 (by rw [List.length_take, List.length_drop]; omega), be_numN ((l.drop 6).take 4) 4 (by rw [List.length_take, List.length_drop]; omega), be_numN ((l.drop 10).take 4) 4 (by rw [List.length_take, List.length_drop]; omega)]
  have t1 : l.take 14 = l.take 2 ++ (l.drop 2).take 12 := List.take_add (i := 2) (j := 12)
  have t2 : (l.drop 2).take 12 = (l.drop 2).take 4 ++ ((l.drop 2).drop 4).take 8 := List.take_add (i := 4) (j := 8)
  have t3 : (l.drop 6).take 8 = (l.drop 6).take 4 ++ ((l.drop 6).drop 4).take 4 := List.take_add (i := 4) (j := 4)
  rw [List.drop_drop] at t2 t3
  rw [t1, t2, t3]
theorem enc_recs : ∀ (k : Nat) (l : List UInt8), 14 * k ≤ l.length → encL (recsL l k) = l.take (14 * k)
  | 0, l, _ => by simp [recsL, encL]
  | k + 1, l, h => by
    have h1 := enc_recs k (l.drop 14) (by rw [List.length_drop]; omega)
    have h2 : l.take (14 * (k + 1)) = l.take 14 ++ (l.drop 14).take (14 * k) := by
      rw [show 14 * (k + 1) = 14 + 14 * k by omega]
      exact List.take_add
    rw [h2, ← h1, ← enc_dec l (by omega)]
    rfl
theorem bytes_of_ok {b : List UInt8} (h : errB b = 0) : bytesL (recsB b) = b := by
  unfold errB at h
  split at h
  · cases h
  · split at h
    · cases h
    · split at h
      · rename_i h1 h2 h3
        have h2 : shaL (ownB b) = b.drop (b.length - 32) := Classical.not_not.1 h2
        have hl : (ownB b).length = b.length - 32 := by unfold ownB; rw [List.length_take]; omega
        have he : encL (recsB b) = ownB b := by
          unfold recsB
          rw [enc_recs _ _ (by rw [hl]; omega)]
          refine List.take_of_length_le ?_
          have := h3.1
          rw [hl] at this ⊢
          omega
        unfold bytesL
        rw [he, h2]
        unfold ownB
        exact List.take_append_drop _ _
      · cases h

theorem getD_byte (l : List UInt8) (k : Nat) (h : k < l.length) : (cellsB l)[k]? = some (.int .u8 ((l.getD k 0).toNat : Int)) := by
  simp [cellsB, List.getD_eq_getElem?_getD, List.getElem?_eq_getElem h]
theorem bytes_frm (w : World) (e : TypeId) (s : ByteArray) : Frm (fun _ => False) w (Lib.bytesWorld w e s) :=
  ⟨by simp [Lib.bytesWorld, World.freeze, World.alloc, World.drew, -World.alloc_eq, -World.drew_eq], by simp [Lib.bytesWorld, World.freeze, World.alloc, World.drew, -World.alloc_eq, -World.drew_eq], by simp [Lib.bytesWorld, World.freeze, World.alloc, World.drew, -World.alloc_eq, -World.drew_eq], by rw [Lib.bytesWorld_size]; omega, fun k hk _ => Lib.bytesWorld_at_old w e s k hk⟩
theorem bytes_rds (w : World) (l : List UInt8) (n : Nat) (hn : l.length = n) : Rds (Lib.bytesWorld w 5 ⟨l.toArray⟩) (some ⟨w.heap.size, 0, none⟩) n (cellsB l) := by
  refine ⟨by rw [cellsB_length]; exact hn, fun _ => ⟨_, rfl, fun j u hu => ?_⟩⟩
  have hj : j < l.length := by have := (List.getElem?_eq_some_iff.1 hu).1; rwa [cellsB_length] at this
  rw [addr_add, Nat.zero_add, Lib.bytesWorld_cell w _ _ j (by rw [size_mk]; exact hj)]
  rw [getD_byte l j hj] at hu
  rw [← hu]
theorem conv_bytes (l : List UInt8) (n : Nat) (hn : l.length = n) (w : World) : Sem.run Tryd.prog (convert 9 50 (.string ⟨l.toArray⟩)) w = .ok (.slice (some ⟨w.heap.size, 0, none⟩) n (grownCap w n 0 5)) (Lib.bytesWorld w 5 ⟨l.toArray⟩) := by
  have := Lib.run_convert_string_bytes (P := Tryd.prog) w 9 50 5 ⟨l.toArray⟩ under9 Tryd.underlying50 Tryd.underlying5
  rw [size_mk, hn] at this
  exact this
end Go.Proofs.YtjicnfkodieaaaaDoor
