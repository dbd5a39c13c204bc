/-
  window over numbers without an end: the earliest time of a hop, its Hi, all windows.
-/
import Derived.Test.YtcnnekdeakfjeaaRows
namespace Go.Proofs.Ytcnnekdeakfjeaa
set_option linter.unusedVariables false

/-- The earliest time at hop i. -/
def earl (s : Nat) (d : List Nat) (i : Nat) : Nat := s + (d.take i).sum
/-- The Hi of hop i. -/
def hiN (s : Nat) (d : List Nat) (L K i : Nat) : Nat := earl s d i + (i + 1) * L + K
def winAt (s : Nat) (d : List Nat) (L K i : Nat) : Nat × Nat := (earl s d i - K, hiN s d L K i)
/-- The windows of the first k hops. -/
def winTo (s : Nat) (d : List Nat) (L K : Nat) : Nat → List (Nat × Nat)
  | 0 => []
  | k + 1 => winTo s d L K k ++ [winAt s d L K k]
/-- No time of the first k hops is above 2^64 - 1. -/
def FitTo (s : Nat) (d : List Nat) (L K k : Nat) : Prop := ∀ i, i < k → hiN s d L K i < 18446744073709551616

theorem winTo_length (s : Nat) (d : List Nat) (L K : Nat) : ∀ k, (winTo s d L K k).length = k
  | 0 => rfl
  | k + 1 => by simp [winTo, winTo_length s d L K k]
theorem winTo_at (s : Nat) (d : List Nat) (L K : Nat) : ∀ k j, j < k → (winTo s d L K k).getD j (0, 0) = winAt s d L K j
  | 0, j, h => by omega
  | k + 1, j, h => by
    by_cases hj : j < k
    · have := winTo_at s d L K k j hj
      rw [List.getD_eq_getElem?_getD] at this ⊢
      rw [winTo, List.getElem?_append_left (by rw [winTo_length]; exact hj)]
      exact this
    · obtain rfl : j = k := by omega
      rw [List.getD_eq_getElem?_getD, winTo, List.getElem?_append_right (by rw [winTo_length]; omega), winTo_length]
      simp
theorem earl_zero (s : Nat) (d : List Nat) : earl s d 0 = s := by simp [earl]
theorem earl_succ (s : Nat) (d : List Nat) (i : Nat) (h : i < d.length) : earl s d (i + 1) = earl s d i + d.getD i 0 := by
  unfold earl
  rw [List.take_succ_eq_append_getElem h, List.sum_append, List.getD_eq_getElem?_getD, List.getElem?_eq_getElem h]
  simp
  omega
theorem earl_le (s : Nat) (d : List Nat) (L K i : Nat) : earl s d i ≤ hiN s d L K i := by unfold hiN; omega
theorem earl_mono (s : Nat) (d : List Nat) : ∀ i j, i ≤ j → earl s d i ≤ earl s d j := by
  intro i j h
  unfold earl
  obtain ⟨k, rfl⟩ : ∃ k, j = i + k := ⟨j - i, by omega⟩
  rw [List.take_add, List.sum_append]
  omega
theorem hiN_mono (s : Nat) (d : List Nat) (L K i j : Nat) (h : i ≤ j) : hiN s d L K i ≤ hiN s d L K j := by
  have h1 := earl_mono s d i j h
  have h2 : (i + 1) * L ≤ (j + 1) * L := Nat.mul_le_mul_right _ (by omega)
  unfold hiN
  omega
theorem FitTo.succ {s : Nat} {d : List Nat} {L K k : Nat} (h : FitTo s d L K k) (hk : hiN s d L K k < 18446744073709551616) : FitTo s d L K (k + 1) := by
  intro i hi
  by_cases h1 : i < k
  · exact h i h1
  · obtain rfl : i = k := by omega
    exact hk
theorem not_fit {s : Nat} {d : List Nat} {L K k n : Nat} (hk : 18446744073709551616 ≤ hiN s d L K k) (h : k < n) : ¬ FitTo s d L K n := fun hf => by have := hf k h; omega
theorem fit_last {s : Nat} {d : List Nat} {L K k : Nat} (h : hiN s d L K k < 18446744073709551616) : FitTo s d L K (k + 1) := fun i hi => Nat.lt_of_le_of_lt (hiN_mono s d L K i k (by omega)) h
end Go.Proofs.Ytcnnekdeakfjeaa
