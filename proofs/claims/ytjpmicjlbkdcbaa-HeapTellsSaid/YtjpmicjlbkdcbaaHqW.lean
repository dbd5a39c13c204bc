/-
  What the laws' walks share: queues at a push and a pop; masks; rows read at a place.
-/
import Derived.Test.YtjpmicjlbkdcbaaHqA
namespace Go.Proofs.Ytjpmicjlbkdcbaa
set_option linter.unusedVariables false
set_option linter.unusedSimpArgs false
open Go.RowKit

theorem Qu.due_not {q : Qu} {now : Nat} (h : ∀ s ∈ q.S.head?, now < s.t) : q.due now = none := by
  unfold Qu.due
  cases hS : q.S with
  | nil => rfl
  | cons s S =>
    rw [hS] at h
    simp [h s rfl]
theorem Qu.pop_some {q : Qu} {s : Th} {S : List Th} {now : Nat} (h : q.S = s :: S) (ht : s.t ≤ now) : q.pop now = ⟨q.most, q.num, S⟩ := by
  have hd : q.due now = some s := by unfold Qu.due; rw [h]; simp [Nat.not_lt.2 ht]
  rw [(Qu.due_cons hd).2.2, h]
  rfl
theorem Qu.pop_none {q : Qu} {now : Nat} (h : ∀ s ∈ q.S.head?, now < s.t) : q.pop now = q := Qu.due_none (Qu.due_not h)
theorem Qu.push_ok {q : Qu} (t : Nat) (x : Int) (h : (q.S.length : Int) < q.most) : q.push t x = ⟨q.most, q.num + 1, insT ⟨t, q.num, x⟩ q.S⟩ := if_neg (by unfold Qu.full; omega)
theorem Qu.push_full {q : Qu} (t : Nat) (x : Int) (h : q.most ≤ (q.S.length : Int)) : q.push t x = q := if_pos h

theorem mask16 (n : Int) : bits .and .i64 n 65535 = n % 65536 := by
  have h1 : (BitVec.ofInt 64 65535).toNat = 2 ^ 16 - 1 := by decide
  have key : (BitVec.ofInt 64 n &&& BitVec.ofInt 64 65535).toNat = (n % ((2 ^ 64 : Nat) : Int)).toNat % 2 ^ 16 := by
    rw [BitVec.toNat_and, BitVec.toNat_ofInt, h1, Nat.and_two_pow_sub_one_eq_mod]
  show IntKind.i64.wrap ((BitVec.ofInt 64 n &&& BitVec.ofInt 64 65535).toNat : Nat) = n % 65536
  rw [key, IntKind.wrap_i64]
  omega
theorem mask_nat (n : Int) : ∃ x : Nat, bits .and .i64 n 65535 = (x : Int) ∧ x ≤ 65535 := ⟨(n % 65536).toNat, by rw [mask16]; omega, by omega⟩
theorem mask_u64 (n : Nat) (h : n < 18446744073709551616) : bits .and .u64 (n : Int) 65535 = ((n % 65536 : Nat) : Int) := by
  have := u64_and_nat n 65535 h (by decide)
  rw [show ((65535 : Nat) : Int) = 65535 from rfl] at this
  rw [this]
  congr 1
  exact Nat.and_two_pow_sub_one_eq_mod n 16
/-- The number at a place of a row. -/
theorem Rds.num {w : World} {A : Option Addr} {n : Nat} {k : IntKind} {l : List Nat} (h : Rds w A n (cellsI k l)) {j : Nat} (hj : j < n) : ∃ a, A = some a ∧ j < l.length ∧ w.cell? (a.add j) = some (.int k ((l.getD j 0 : Nat) : Int)) := by
  obtain ⟨a, e, hc⟩ := h.2 (by omega)
  have hl : j < l.length := by have := h.1; rw [cellsI_length] at this; omega
  exact ⟨a, e, hl, hc j _ (cellsI_at l j hl)⟩
theorem cell_below {w w' : World} (h : Below w.heap.size w w') {a : Addr} {v : Value} (hc : w.cell? a = some v) : w'.cell? a = some v := by
  rw [h.cell (World.block_lt_of_cell? w _ hc)]
  exact hc
theorem getD_mem {l : List Nat} {k : Nat} (h : k < l.length) : l.getD k 0 ∈ l := by
  rw [List.getD_eq_getElem?_getD, List.getElem?_eq_getElem h]
  exact List.getElem_mem h
theorem Rds.first {w : World} {A : Option Addr} {n m : Nat} {k : IntKind} {l : List Nat} (h : Rds w A n (cellsI k l)) (hm : m ≤ n) : Rds w A m (cellsI k (l.take m)) := by
  rw [← cellsI_take]
  exact h.take m hm
end Go.Proofs.Ytjpmicjlbkdcbaa
