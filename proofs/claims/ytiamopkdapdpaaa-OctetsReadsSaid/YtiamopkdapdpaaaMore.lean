/-
  Read once more, with where its blocks lie.
-/
import Derived.Test.YtiamopkdapdpaaaZerosWalk
namespace Go.Proofs.Ytiamopkdapdpaaa
set_option linter.unusedVariables false
open Go.RowKit

def ReadPost2 (l : List UInt8) (w : World) (e : Ending) (w' : World) : Prop :=
  ∃ g d, e = .returned (.pointer (some ⟨g, 0, none⟩)) ∧ Rd w' g d l ∧ Below w.heap.size w w' ∧ w.heap.size ≤ g ∧ ∀ k, d = some k → w.heap.size ≤ k ∧ k < g

set_option maxHeartbeats 400000 in
theorem read_any2 (A : Option Addr) (n c : Nat) (l : List UInt8) (w : World) (hr : Rds w A n (cellsB l)) (hn : n ≤ 100000) :
    Calls Try.prog 11 #[.slice A n c] w (ReadPost2 l w) := by
  go_enter Try.func11, Try.ntmps11
  go_wp2_with (go_at_call 30; refine (clone_any A n c l w hr hn).mono ?_; rintro e w1 ⟨A1, c1, rfl, hown, hb⟩)
  go_ret
  exact ⟨w1.heap.size, _, rfl, ⟨_, Blk.new _ _ _, (Seg.of_own hown).frm (S := fun _ => False) (Frm.alloc _ _ _) (fun _ _ h => h)⟩, hb.alloc hb.size _, hb.size, fun k hk => hown.lt k hk⟩

theorem txt_append (a b : List UInt8) : ((⟨a.toArray⟩ : ByteArray) ++ ⟨b.toArray⟩) = ⟨(a ++ b).toArray⟩ := by
  apply ByteArray.ext
  simp
theorem nil100 : ([] : List UInt8).length ≤ 100000 := by decide

theorem num_be (w n : Nat) (h : n < 256 ^ w) : num (be w n) = n := by
  suffices hh : ∀ k, k ≤ w → num ((be w n).take k) = n / 256 ^ (w - k) by
    have := hh w (Nat.le_refl _)
    rw [List.take_of_length_le (by rw [be_length]; exact Nat.le_refl _), Nat.sub_self, Nat.pow_zero, Nat.div_one] at this
    exact this
  intro k
  induction k with
  | zero => intro _; rw [List.take_zero, Nat.sub_zero, Nat.div_eq_of_lt h]; rfl
  | succ k ih =>
    intro hk
    have h1 := ih (by omega)
    rw [be_take_succ w n k (by omega), num_snoc, h1, UInt8.toNat_ofNat']
    have e : w - k = (w - (k + 1)) + 1 := by omega
    have e2 : w - 1 - k = w - (k + 1) := by omega
    rw [e, e2, Nat.pow_succ, ← Nat.div_div_eq_div_mul]
    generalize n / 256 ^ (w - (k + 1)) = y
    omega
theorem num_append (a b : List UInt8) : num (a ++ b) = num a * 256 ^ b.length + num b := by
  suffices h : ∀ (b : List UInt8) (x : Nat), b.foldl (fun n b => n * 256 + b.toNat) x = x * 256 ^ b.length + b.foldl (fun n b => n * 256 + b.toNat) 0 by
    have := h b (num a)
    unfold num at this ⊢
    rw [List.foldl_append]
    exact this
  intro b
  induction b with
  | nil => intro x; simp
  | cons y b ih =>
    intro x
    rw [List.foldl_cons, List.foldl_cons, ih (x * 256 + y.toNat), ih (0 * 256 + y.toNat), List.length_cons, Nat.pow_succ, Nat.zero_mul, Nat.zero_add]
    have : (x * 256 + y.toNat) * 256 ^ b.length = x * (256 ^ b.length * 256) + y.toNat * 256 ^ b.length := by
      rw [Nat.add_mul, Nat.mul_assoc, Nat.mul_comm 256]
    omega
theorem be_num (w : Nat) (l : List UInt8) (h : l.length = w) : be w (num l) = l := by
  subst h
  suffices hh : ∀ k, k ≤ l.length → (be l.length (num l)).take k = l.take k by
    have := hh l.length (Nat.le_refl _)
    rwa [List.take_of_length_le (by rw [be_length]; exact Nat.le_refl _), List.take_of_length_le (Nat.le_refl _)] at this
  intro k
  induction k with
  | zero => intro _; simp
  | succ k ih =>
    intro hk
    rw [be_take_succ _ _ k (by omega), ih (by omega), List.take_succ_eq_append_getElem (by omega)]
    congr 2
    have e : num l = num (l.take (k + 1)) * 256 ^ (l.length - 1 - k) + num (l.drop (k + 1)) := by
      conv => lhs; rw [← List.take_append_drop (k + 1) l]
      rw [num_append, List.length_drop]
      congr 3
      omega
    have hlt : num (l.drop (k + 1)) < 256 ^ (l.length - 1 - k) := by
      have := num_lt (l.drop (k + 1))
      rwa [List.length_drop, show l.length - (k + 1) = l.length - 1 - k by omega] at this
    rw [e, Nat.mul_comm, Nat.mul_add_div (by exact Nat.pow_pos (by omega)), Nat.div_eq_of_lt hlt, Nat.add_zero, num_take_succ l k (by omega), List.getElem?_eq_getElem (by omega)]
    apply UInt8.toNat_inj.1
    rw [UInt8.toNat_ofNat']
    have := (l[k]'(by omega)).toNat_lt
    simp only [Option.getD_some]
    omega
end Go.Proofs.Ytiamopkdapdpaaa
