/-
  Logarithms, the table and what is drawn, over numbers (laid ahead of stage 6).
-/
import Derived.Test.YtgaocmpcjnjmdaaRows
import Derived.WalkKit
namespace Go.Proofs.Ytgaocmpcjnjmdaa
set_option linter.unusedVariables false
open Go.RowKit

/-- One bit: x, and the bits so far. -/
def bitN (p : Nat × Nat) : Nat × Nat := if 4294967296 ≤ p.1 * p.1 / 2147483648 then (p.1 * p.1 / 2147483648 / 2, 2 * p.2 + 1) else (p.1 * p.1 / 2147483648, 2 * p.2)
def bitsN : Nat → Nat × Nat → Nat × Nat
  | 0, p => p
  | k + 1, p => bitN (bitsN k p)
def normN (n : Nat) : Nat := n * 2 ^ (31 - Nat.log2 n)
def logN (n : Nat) : Nat := if n = 0 then 0 else Nat.log2 n * 65536 + (bitsN 16 (normN n, 0)).2
def tabN (i : Nat) : Nat := (524288 - logN (256 - i)) * 45426 / 65536
def drawN (word mean most : Nat) : Nat := min (tabN (word / 72057594037927936) * mean / 65536) most

/-- What x and the bits are, behind k bits. -/
structure BitOk (k : Nat) (p : Nat × Nat) : Prop where
  lo : 2147483648 ≤ p.1
  hi : p.1 < 4294967296
  bits : p.2 < 2 ^ k
theorem sq_hi (x : Nat) (h : x < 4294967296) : x * x / 2147483648 < 8589934592 := by
  rw [Nat.div_lt_iff_lt_mul (by omega)]
  calc x * x ≤ 4294967295 * 4294967295 := Nat.mul_le_mul (by omega) (by omega)
    _ < 8589934592 * 2147483648 := by omega
theorem sq_lo (x : Nat) (h : 2147483648 ≤ x) : 2147483648 ≤ x * x / 2147483648 := by
  rw [Nat.le_div_iff_mul_le (by omega)]
  exact Nat.mul_le_mul h h
theorem BitOk.next {k : Nat} {p : Nat × Nat} (h : BitOk k p) : BitOk (k + 1) (bitN p) := by
  have h1 := sq_hi p.1 h.hi
  have h2 := sq_lo p.1 h.lo
  have h3 := h.bits
  unfold bitN
  split
  · refine ⟨?_, ?_, ?_⟩
    · show 2147483648 ≤ p.1 * p.1 / 2147483648 / 2
      omega
    · show p.1 * p.1 / 2147483648 / 2 < 4294967296
      omega
    · show 2 * p.2 + 1 < 2 ^ (k + 1)
      rw [Nat.pow_succ]
      omega
  · refine ⟨h2, ?_, ?_⟩
    · show p.1 * p.1 / 2147483648 < 4294967296
      omega
    · show 2 * p.2 < 2 ^ (k + 1)
      rw [Nat.pow_succ]
      omega
theorem bitsN_ok (k : Nat) {p : Nat × Nat} (h : BitOk 0 p) : BitOk k (bitsN k p) := by
  induction k with
  | zero => exact h
  | succ k ih => exact ih.next
theorem log2_le31 {n : Nat} (h0 : n ≠ 0) (h : n < 4294967296) : Nat.log2 n ≤ 31 := by
  have := (Nat.log2_lt h0).2 (show n < 2 ^ 32 by omega)
  omega
theorem normN_ok {n : Nat} (h0 : n ≠ 0) (h : n < 4294967296) : BitOk 0 (normN n, 0) := by
  have h1 := Nat.log2_self_le h0
  have h2 : n < 2 ^ (Nat.log2 n + 1) := Nat.lt_log2_self
  have h3 := log2_le31 h0 h
  have e1 : (2147483648 : Nat) = 2 ^ Nat.log2 n * 2 ^ (31 - Nat.log2 n) := by rw [← Nat.pow_add, show Nat.log2 n + (31 - Nat.log2 n) = 31 by omega]
  have e2 : (4294967296 : Nat) = 2 ^ (Nat.log2 n + 1) * 2 ^ (31 - Nat.log2 n) := by rw [← Nat.pow_add, show Nat.log2 n + 1 + (31 - Nat.log2 n) = 32 by omega]
  refine ⟨?_, ?_, by simp⟩
  · show 2147483648 ≤ n * 2 ^ (31 - Nat.log2 n)
    rw [e1]
    exact Nat.mul_le_mul_right _ h1
  · show n * 2 ^ (31 - Nat.log2 n) < 4294967296
    rw [e2]
    exact Nat.mul_lt_mul_of_pos_right h2 (Nat.two_pow_pos _)
theorem logN_lt {n : Nat} (h : n < 4294967296) : logN n < 2097152 := by
  unfold logN
  split
  · omega
  · rename_i h0
    have h1 := (bitsN_ok 16 (normN_ok h0 h)).bits
    have h2 := log2_le31 h0 h
    omega
/-- The whole part is the place of the highest bit. -/
theorem logN_whole {n : Nat} (h0 : n ≠ 0) (h : n < 4294967296) : logN n / 65536 = Nat.log2 n := by
  unfold logN
  rw [if_neg h0]
  have h1 := (bitsN_ok 16 (normN_ok h0 h)).bits
  omega
/-- Of twice a number it is one more. -/
theorem logN_double {n : Nat} (h0 : n ≠ 0) (h : n < 2147483648) : logN (2 * n) = logN n + 65536 := by
  have e1 : Nat.log2 (2 * n) = Nat.log2 n + 1 := Nat.log2_two_mul h0
  have h3 : Nat.log2 n ≤ 30 := by
    have := (Nat.log2_lt h0).2 (show n < 2 ^ 31 by omega)
    omega
  have e2 : normN (2 * n) = normN n := by
    unfold normN
    rw [e1, Nat.mul_comm 2 n, Nat.mul_assoc, show 31 - Nat.log2 n = (31 - (Nat.log2 n + 1)) + 1 by omega, Nat.pow_succ]
    congr 1
    omega
  unfold logN
  rw [if_neg (by omega), if_neg h0, e1, e2]
  omega

theorem logN_vals : logN 1 = 0 ∧ logN 2 = 65536 ∧ logN 256 = 524288 := by refine ⟨?_, ?_, ?_⟩ <;> kernel_rfl
theorem tabN_vals : tabN 0 = 0 ∧ tabN 128 = 45426 ∧ tabN 255 = 363408 := by refine ⟨?_, ?_, ?_⟩ <;> kernel_rfl
def risesB : Bool := (List.range 255).all fun i => decide (tabN i < tabN (i + 1))
theorem rises_all : risesB = true := by kernel_rfl
/-- The table rises. -/
theorem tabN_rises (i : Nat) (h : i < 255) : tabN i < tabN (i + 1) := by
  have := List.all_eq_true.1 rises_all i (List.mem_range.2 h)
  simpa using this
theorem tabN_mono {i j : Nat} (h : i ≤ j) (hj : j ≤ 255) : tabN i ≤ tabN j := by
  induction j with
  | zero =>
    obtain rfl : i = 0 := by omega
    exact Nat.le_refl _
  | succ j ih =>
    by_cases he : i = j + 1
    · subst he
      exact Nat.le_refl _
    · exact Nat.le_trans (ih (by omega) (by omega)) (Nat.le_of_lt (tabN_rises j (by omega)))
theorem tabN_le (i : Nat) (h : i ≤ 255) : tabN i ≤ 363408 := by
  have := tabN_mono h (Nat.le_refl _)
  rw [tabN_vals.2.2] at this
  exact this
/-- What is drawn does not fall as the word, the mean or the most rise. -/
theorem drawN_mono {a b m n p q : Nat} (h1 : a ≤ b) (hb : b < 18446744073709551616) (h2 : m ≤ n) (h3 : p ≤ q) : drawN a m p ≤ drawN b n q := by
  unfold drawN
  have e1 : a / 72057594037927936 ≤ b / 72057594037927936 := Nat.div_le_div_right h1
  have e2 := tabN_mono e1 (by omega)
  have e3 : tabN (a / 72057594037927936) * m / 65536 ≤ tabN (b / 72057594037927936) * n / 65536 := Nat.div_le_div_right (Nat.mul_le_mul e2 h2)
  omega
/-- Twice the mean is twice the delay, or one more; of two means together it is what each makes, or one more. -/
theorem twice_div (t a : Nat) : t * (2 * a) / 65536 = 2 * (t * a / 65536) ∨ t * (2 * a) / 65536 = 2 * (t * a / 65536) + 1 := by
  have : t * (2 * a) = 2 * (t * a) := by rw [← Nat.mul_assoc, Nat.mul_comm t 2, Nat.mul_assoc]
  omega
theorem both_div (t a b : Nat) : t * (a + b) / 65536 = t * a / 65536 + t * b / 65536 ∨ t * (a + b) / 65536 = t * a / 65536 + t * b / 65536 + 1 := by
  have : t * (a + b) = t * a + t * b := Nat.mul_add _ _ _
  omega
end Go.Proofs.Ytgaocmpcjnjmdaa
