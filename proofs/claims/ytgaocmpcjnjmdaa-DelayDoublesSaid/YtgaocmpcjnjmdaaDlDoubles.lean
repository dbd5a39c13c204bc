/-
  DelayDoubles: the walk. For every input the law returns true; what lay when the call began lies as it lay. No condition.
-/
import Derived.Test.YtgaocmpcjnjmdaaDl7
import Derived.Test.YtgaocmpcjnjmdaaNFrame
namespace Go.Proofs.Ytgaocmpcjnjmdaa
set_option linter.unusedVariables false
open Go.RowKit

theorem mask31 (t : Int) (h : 0 ≤ t) (h1 : t < 4294967296) : ∃ T, bits BinOp.and IntKind.u32 t 2147483647 = T ∧ 0 ≤ T ∧ T < 2147483648 := by
  refine ⟨_, u32_and t 2147483647 h h1 (by decide) (by decide), by omega, ?_⟩
  have := Nat.and_le_right (n := t.toNat) (m := (2147483647 : Int).toNat)
  have e : (2147483647 : Int).toNat = 2147483647 := rfl
  omega
theorem mask5 (t : Int) (h : 0 ≤ t) (h1 : t ≤ 255) : ∃ T : Nat, bits BinOp.and IntKind.u8 t 31 = (T : Int) ∧ T < 32 := by
  refine ⟨_, u8_and t 31 h (by omega) (by decide) (by decide), ?_⟩
  have := Nat.and_le_right (n := t.toNat) (m := (31 : Int).toNat)
  have e : (31 : Int).toNat = 31 := rfl
  omega

theorem logV_double {x : Int} (h : 1 ≤ x) (h1 : x < 2147483648) : logV (2 * x) = logV x + 65536 := by
  have := logN_double (n := x.toNat) (by omega) (by omega)
  unfold logV
  rw [show (2 * x).toNat = 2 * x.toNat by omega]
  omega
def powsB : Bool := (List.range 32).all fun k => logN (2 ^ k) == k * 65536
theorem pows_all : powsB = true := by kernel_rfl
theorem logV_pow (k : Nat) (h : k < 32) : logV (2 ^ k) = (k : Int) * 65536 := by
  have := List.all_eq_true.1 pows_all k (List.mem_range.2 h)
  have e : logN (2 ^ k) = k * 65536 := by simpa using this
  have e2 : ((2 : Int) ^ k).toNat = 2 ^ k := by
    have : (2 : Int) ^ k = ((2 ^ k : Nat) : Int) := by simp
    rw [this]
    exact Int.toNat_natCast _
  unfold logV
  rw [e2, e]
  omega
theorem pow_32 (k : Nat) (h : k < 32) : (0 : Int) ≤ 2 ^ k ∧ (2 : Int) ^ k < 4294967296 := by
  have h1 : (2 : Int) ^ k = ((2 ^ k : Nat) : Int) := by simp
  have h2 : 2 ^ k ≤ 2 ^ 31 := Nat.pow_le_pow_right (by omega) (by omega)
  rw [h1]
  generalize 2 ^ k = P at *
  omega
theorem whole_one {x : Int} (h : 1 ≤ x) (h1 : x < 4294967296) : x / 2 ^ (logV x / 65536).toNat = 1 := by
  have e := logN_whole (n := x.toNat) (by omega) (by omega)
  have e2 : (logV x / 65536).toNat = Nat.log2 x.toNat := by
    unfold logV
    omega
  rw [e2]
  have a1 := Nat.log2_self_le (n := x.toNat) (by omega)
  have a2 : x.toNat < 2 ^ (Nat.log2 x.toNat + 1) := Nat.lt_log2_self
  have e3 : (2 : Int) ^ Nat.log2 x.toNat = ((2 ^ Nat.log2 x.toNat : Nat) : Int) := by simp
  rw [e3]
  rw [Nat.pow_succ] at a2
  generalize 2 ^ Nat.log2 x.toNat = P at *
  have hx : x = ((x.toNat : Nat) : Int) := by omega
  rw [hx]
  have : x.toNat / P = 1 := by
    rw [Nat.div_eq_iff (by omega)]
    omega
  rw [← Int.natCast_ediv, this]
  rfl

set_option maxHeartbeats 4000000 in
set_option maxRecDepth 100000 in
theorem doubles_walk (n k : Int) (w : World) (hn0 : 0 ≤ n) (hn1 : n < 4294967296) (hk0 : 0 ≤ k) (hk1 : k ≤ 255) :
    Calls Try.prog 4 #[.int .u32 n, .int .u8 k] w fun e w' => e = .returned (.bool true) ∧ Below w.heap.size w w' := by
  obtain ⟨T, hT, hT0, hT1⟩ := mask31 n hn0 hn1
  obtain ⟨K, hK, hK1⟩ := mask5 k hk0 hk1
  have hp := pow_32 K hK1
  have dk := fun w => log2_any (2 ^ K) w hp.1 hp.2
  rw [logV_pow K hK1] at dk
  have hp2 : (2 : Int) ^ K % 4294967296 = 2 ^ K := Int.emod_eq_of_lt hp.1 hp.2
  have hK2 : (K : Int) < 32 := by omega
  clear hp
  by_cases h2 : 2 ≤ T
  · have dn := fun w => log2_any T w (by omega) (by omega)
    have dd := fun w => log2_any (2 * T) w (by omega) (by omega)
    rw [logV_double (by omega) hT1] at dd
    have hw := whole_one (x := T) (by omega) (by omega)
    obtain ⟨l0, l1⟩ := logV_bounds T (by omega) (by omega)
    generalize logV T = V at *
    go_enter Try.func4, Try.ntmps4
    go_wp2_with fail
    refine (shown_any _).mono ?_
    rintro e w1 ⟨rfl, hb1⟩
    go_wp2_with fail
    refine (dn _).mono ?_
    rintro e w2 ⟨rfl, hb2⟩
    replace hb2 := below_then hb1 hb2 hb1.size
    clear hb1
    go_wp2_with fail
    refine (dd _).mono ?_
    rintro e w3 ⟨rfl, hb3⟩
    replace hb3 := below_then hb2 hb3 hb2.size
    clear hb2
    go_wp2_with fail
    refine (dn _).mono ?_
    rintro e w4 ⟨rfl, hb4⟩
    replace hb4 := below_then hb3 hb4 hb3.size
    clear hb3
    go_wp2_with fail
    refine (dk _).mono ?_
    rintro e w5 ⟨rfl, hb5⟩
    replace hb5 := below_then hb4 hb5 hb4.size
    clear hb4
    go_wp2_with fail
    go_ret
    exact ⟨rfl, hb5⟩
  · by_cases h3 : T = 0
    · subst h3
      go_enter Try.func4, Try.ntmps4
      go_wp2_with fail
      refine (shown_any _).mono ?_
      rintro e w1 ⟨rfl, hb1⟩
      go_wp2_with fail
      refine (log_1 _).mono ?_
      rintro e w2 ⟨rfl, hb2⟩
      replace hb2 := below_then hb1 hb2 hb1.size
      clear hb1
      go_wp2_with fail
      refine (log_2 _).mono ?_
      rintro e w3 ⟨rfl, hb3⟩
      replace hb3 := below_then hb2 hb3 hb2.size
      clear hb2
      go_wp2_with fail
      refine (log_1 _).mono ?_
      rintro e w4 ⟨rfl, hb4⟩
      replace hb4 := below_then hb3 hb4 hb3.size
      clear hb3
      go_wp2_with fail
      refine (dk _).mono ?_
      rintro e w5 ⟨rfl, hb5⟩
      replace hb5 := below_then hb4 hb5 hb4.size
      clear hb4
      go_wp2_with fail
      go_ret
      exact ⟨rfl, hb5⟩
    · obtain rfl : T = 1 := by omega
      go_enter Try.func4, Try.ntmps4
      go_wp2_with fail
      refine (shown_any _).mono ?_
      rintro e w1 ⟨rfl, hb1⟩
      go_wp2_with fail
      refine (log_1 _).mono ?_
      rintro e w2 ⟨rfl, hb2⟩
      replace hb2 := below_then hb1 hb2 hb1.size
      clear hb1
      go_wp2_with fail
      refine (log_2 _).mono ?_
      rintro e w3 ⟨rfl, hb3⟩
      replace hb3 := below_then hb2 hb3 hb2.size
      clear hb2
      go_wp2_with fail
      refine (log_1 _).mono ?_
      rintro e w4 ⟨rfl, hb4⟩
      replace hb4 := below_then hb3 hb4 hb3.size
      clear hb3
      go_wp2_with fail
      refine (dk _).mono ?_
      rintro e w5 ⟨rfl, hb5⟩
      replace hb5 := below_then hb4 hb5 hb4.size
      clear hb4
      go_wp2_with fail
      go_ret
      exact ⟨rfl, hb5⟩
end Go.Proofs.Ytgaocmpcjnjmdaa
