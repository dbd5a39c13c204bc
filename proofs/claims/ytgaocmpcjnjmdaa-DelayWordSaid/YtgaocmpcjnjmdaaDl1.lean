/-
  delay: the place of the highest bit (math/bits.Len32, LeadingZeros32), by contracts. No condition but the numbers' own bounds.
-/
import Derived.Test.YtgaocmpcjnjmdaaDlM
import Derived.ProofKit
namespace Go.Proofs.Ytgaocmpcjnjmdaa
set_option linter.unusedVariables false
open Go.RowKit

/-- How many bits a number has. -/
def lenN (n : Nat) : Nat := if n = 0 then 0 else Nat.log2 n + 1
theorem lenN_pos {n : Nat} (h : n ≠ 0) : lenN n = Nat.log2 n + 1 := if_neg h
theorem lenN_shift (n k : Nat) (h : 2 ^ k ≤ n) : lenN n = k + lenN (n / 2 ^ k) := by
  have hp := Nat.two_pow_pos k
  have h0 : n ≠ 0 := by omega
  have h1 : n / 2 ^ k ≠ 0 := by
    have := Nat.div_pos h hp
    omega
  rw [lenN_pos h0, lenN_pos h1]
  have e : Nat.log2 n = k + Nat.log2 (n / 2 ^ k) := by
    have a1 := Nat.log2_self_le h1
    have a2 : n / 2 ^ k < 2 ^ (Nat.log2 (n / 2 ^ k) + 1) := Nat.lt_log2_self
    apply Nat.le_antisymm
    · have : n < 2 ^ (k + Nat.log2 (n / 2 ^ k) + 1) := by
        have := (Nat.div_lt_iff_lt_mul hp).1 a2
        rw [show k + Nat.log2 (n / 2 ^ k) + 1 = (Nat.log2 (n / 2 ^ k) + 1) + k by omega, Nat.pow_add]
        exact this
      have := (Nat.log2_lt h0).2 this
      omega
    · have : 2 ^ (k + Nat.log2 (n / 2 ^ k)) ≤ n := by
        have := (Nat.le_div_iff_mul_le hp).1 a1
        rw [Nat.add_comm, Nat.pow_add]
        exact this
      exact (Nat.le_log2 h0).2 this
  omega

def lensB (S : ByteArray) : Bool := (List.range 256).all fun k => S.data.toList.getD k 0 == UInt8.ofNat (lenN k)
theorem lens_at (S : ByteArray) (hS : lensB S = true) (k : Nat) (hk : k < S.size) (h : k < 256) : (S[k]'hk).toNat = lenN k := by
  have h1 := List.all_eq_true.1 hS k (List.mem_range.2 h)
  have h2 : S.data.toList.getD k 0 = UInt8.ofNat (lenN k) := by simpa using h1
  have h3 : S[k]'hk = S.data.toList.getD k 0 := by
    have h' : k < S.data.toList.length := by simpa using hk
    rw [List.getD, List.getElem?_eq_getElem h']
    simp
    rfl
  rw [h3, h2]
  have h4 : lenN k ≤ 8 := by
    unfold lenN
    split
    · omega
    · rename_i h0
      have := (Nat.log2_lt h0).2 (show k < 2 ^ 8 by omega)
      omega
  simp
  omega
theorem len_out (S : ByteArray) (k : Nat) (n : Nat) (c : Int) (hk : k < S.size) (hS : lensB S = true) (h : k < 256) (hc : 0 ≤ c) (hc1 : c ≤ 24) (hl : (lenN n : Int) = c + lenN k) : wrap64 (c + wrap64 ((S[k]'hk).toNat : Int)) = (lenN n : Int) := by
  rw [lens_at S hS k hk h]
  have h4 : lenN k ≤ 8 := by
    unfold lenN
    split
    · omega
    · rename_i h0
      have := (Nat.log2_lt h0).2 (show k < 2 ^ 8 by omega)
      omega
  have e : ∀ x : Int, 0 ≤ x → x ≤ 32 → wrap64 x = x := by
    intro x h1 h2
    unfold wrap64
    omega
  rw [e (lenN k : Int) (by omega) (by omega), e _ (by omega) (by omega)]
  omega

theorem len_out0 (S : ByteArray) (k : Nat) (hk : k < S.size) (hS : lensB S = true) (h : k < 256) : wrap64 (wrap64 ((S[k]'hk).toNat : Int)) = (lenN k : Int) := by
  have := len_out S k k 0 hk hS h (by omega) (by omega) (by omega)
  rwa [Int.zero_add] at this

set_option maxRecDepth 100000 in
set_option maxHeartbeats 4000000 in
theorem len32_int (x : Int) (w : World) (h0 : 0 ≤ x) (h : x < 4294967296) :
    Calls Try.prog 17 #[.int .u32 x] w fun e w' => e = .returned (.int .i64 (lenN x.toNat : Int)) ∧ w = w' := by
  go_enter Try.func17, Try.ntmps17
  by_cases h1 : 65536 ≤ x
  · have e1 : lenN x.toNat = 16 + lenN (x.toNat / 65536) := lenN_shift x.toNat 16 (by omega)
    by_cases h2 : 256 ≤ x / 65536
    · have e2 : lenN (x.toNat / 65536) = 8 + lenN (x.toNat / 65536 / 256) := lenN_shift (x.toNat / 65536) 8 (by omega)
      have e3 : x.toNat / 65536 / 256 = (x / 65536 / 256).toNat := by omega
      rw [e3] at e2
      go_wp2
      go_ret
      exact ⟨congrArg (fun z => Ending.returned (.int .i64 z)) (len_out _ (x / 65536 / 256).toNat x.toNat 24 _ (by kernel_rfl) (by omega) (by omega) (by omega) (by omega)), rfl⟩
    · have h2' : x / 65536 < 256 := by omega
      have e3 : x.toNat / 65536 = (x / 65536).toNat := by omega
      rw [e3] at e1
      go_wp2
      go_ret
      exact ⟨congrArg (fun z => Ending.returned (.int .i64 z)) (len_out _ (x / 65536).toNat x.toNat 16 _ (by kernel_rfl) (by omega) (by omega) (by omega) (by omega)), rfl⟩
  · have h1' : x < 65536 := by omega
    by_cases h2 : 256 ≤ x
    · have e2 : lenN x.toNat = 8 + lenN (x.toNat / 256) := lenN_shift x.toNat 8 (by omega)
      have e3 : x.toNat / 256 = (x / 256).toNat := by omega
      rw [e3] at e2
      go_wp2
      go_ret
      exact ⟨congrArg (fun z => Ending.returned (.int .i64 z)) (len_out _ (x / 256).toNat x.toNat 8 _ (by kernel_rfl) (by omega) (by omega) (by omega) (by omega)), rfl⟩
    · have h2' : x < 256 := by omega
      go_wp2
      go_ret
      exact ⟨congrArg (fun z => Ending.returned (.int .i64 z)) (len_out0 _ x.toNat _ (by kernel_rfl) (by omega)), rfl⟩

/-- The place of a number's highest bit, from 1 on; 0 of 0. -/
def lenV (x : Int) : Int := lenN x.toNat
theorem lenV_bounds (x : Int) (h : x < 4294967296) : 0 ≤ lenV x ∧ lenV x ≤ 32 := by
  unfold lenV lenN
  split
  · omega
  · rename_i h0
    have := (Nat.log2_lt h0).2 (show x.toNat < 2 ^ 32 by omega)
    omega
theorem len32_any (x : Int) (w : World) (h0 : 0 ≤ x) (h : x < 4294967296) :
    Calls Try.prog 17 #[.int .u32 x] w fun e w' => e = .returned (.int .i64 (lenV x)) ∧ w = w' := len32_int x w h0 h

set_option maxHeartbeats 400000 in
theorem zeros32_any (x : Int) (w : World) (h0 : 0 ≤ x) (h : x < 4294967296) :
    Calls Try.prog 19 #[.int .u32 x] w fun e w' => e = .returned (.int .i64 (32 - lenV x)) ∧ w = w' := by
  have hb := lenV_bounds x h
  obtain ⟨hb0, hb1⟩ := hb
  go_enter Try.func19, Try.ntmps19
  go_wp2_with (go_at_call 17; refine (len32_any _ _ h0 h).mono ?_; rintro e w' ⟨rfl, rfl⟩)
  go_ret
  exact ⟨rfl, rfl⟩
end Go.Proofs.Ytgaocmpcjnjmdaa
