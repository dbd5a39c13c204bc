/-
  Numbers and their bytes, the highest first.
-/
import Derived.Test.YtdilfiojfjgejaaRows
import Derived.WalkKit
namespace Go.Proofs.Ytdilfiojfjgejaa
set_option linter.unusedVariables false
open Go.RowKit

/-- The number of bytes, the highest first. -/
def num : List UInt8 → Nat := fun l => l.foldl (fun n b => n * 256 + b.toNat) 0
theorem num_snoc (l : List UInt8) (b : UInt8) : num (l ++ [b]) = num l * 256 + b.toNat := by simp [num]
theorem num_lt (l : List UInt8) : num l < 256 ^ l.length := by
  suffices h : ∀ (l : List UInt8) (a k : Nat), a < 256 ^ k → l.foldl (fun n b => n * 256 + b.toNat) a < 256 ^ (k + l.length) by
    have := h l 0 0 (by simp)
    rw [Nat.zero_add] at this
    exact this
  intro l
  induction l with
  | nil => intro a k h; simpa using h
  | cons b l ih =>
    intro a k h
    have h1 := b.toNat_lt
    have := ih (a * 256 + b.toNat) (k + 1) (by rw [Nat.pow_succ]; omega)
    simpa [Nat.add_assoc, Nat.add_comm 1] using this
theorem num_take_succ (l : List UInt8) (k : Nat) (h : k < l.length) : num (l.take (k + 1)) = num (l.take k) * 256 + (l[k]?.getD 0).toNat := by
  rw [List.take_succ_eq_append_getElem h, num_snoc, List.getElem?_eq_getElem h]
  rfl
theorem num_take_lt (l : List UInt8) (k m : Nat) (h : k ≤ m) : num (l.take k) < 256 ^ m :=
  Nat.lt_of_lt_of_le (num_lt _) (Nat.pow_le_pow_right (by omega) (by rw [List.length_take]; omega))

theorem or_step (a b : Nat) (hb : b < 256) (ha : a < 72057594037927936) : bits .or .u64 (IntKind.u64.wrap ((a : Int) * 256)) (IntKind.u64.wrap (b : Int)) = ((a * 256 + b : Nat) : Int) := by
  have h1 : IntKind.u64.wrap ((a : Int) * 256) = ((a * 256 : Nat) : Int) := by rw [IntKind.wrap_u64]; omega
  have h2 : IntKind.u64.wrap (b : Int) = ((b : Nat) : Int) := by rw [IntKind.wrap_u64]; omega
  rw [h1, h2, u64_or_nat _ _ (by omega) (by omega), Nat.or_comm, nat_join8' _ _ (by omega) hb]

/-- The bytes of a number, the highest first. -/
def be (w : Nat) (n : Nat) : List UInt8 := (List.range w).map fun j => UInt8.ofNat (n / 256 ^ (w - 1 - j))
theorem be_length (w n : Nat) : (be w n).length = w := by simp [be]
theorem be_take_succ (w n k : Nat) (h : k < w) : (be w n).take (k + 1) = (be w n).take k ++ [UInt8.ofNat (n / 256 ^ (w - 1 - k))] := by
  rw [List.take_succ_eq_append_getElem (by rw [be_length]; exact h)]
  simp [be]

theorem be_byte (n : Int) (w k : Nat) (h0 : 0 ≤ n) : IntKind.u8.wrap (n / 256 ^ (w - 1 - k)) = ((UInt8.ofNat (n.toNat / 256 ^ (w - 1 - k))).toNat : Int) := by
  obtain ⟨m, rfl⟩ := Int.eq_ofNat_of_zero_le h0
  rw [IntKind.wrap_u8, Int.toNat_natCast, UInt8.toNat_ofNat']
  have : (256 : Int) ^ (w - 1 - k) = ((256 ^ (w - 1 - k) : Nat) : Int) := by simp
  rw [this, ← Int.natCast_ediv]
  rfl

/-- The shift that brings a byte to the lowest place. -/
theorem shift_byte {P : Program} (n : Int) (s : Int) (j : Nat) (hs : s = 8 * j) (hj : j ≤ 7) (h0 : 0 ≤ n) (w : World) : Sem.run P (Op.shift .shr .u64 n .i64 (IntKind.i64.wrap s)) w = .ok (.int .u64 (n / 256 ^ j)) w := by
  have h1 : IntKind.i64.wrap s = s := IntWalk.i64_in _ (by omega)
  rw [h1, shift_shr_any _ _ _ _ (by omega), hs]
  have h2 : min (8 * (j : Int)).toNat IntKind.u64.bits = 8 * j := by
    have : IntKind.u64.bits = 64 := rfl
    rw [this]
    omega
  have h3 : (2 : Int) ^ (8 * j) = 256 ^ j := by rw [Int.pow_mul]; rfl
  rw [h2, h3]
  rfl
end Go.Proofs.Ytdilfiojfjgejaa
