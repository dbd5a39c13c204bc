/-
  Numbers of 32 bits: turns and shifts, as the program makes them.
-/
import Derived.Test.YtjicnfkodieaaaaDoorMem
import Derived.Test.YtjicnfkodieaaaaDoorNum
import Derived.Deep.QuietTactic
import Derived.BigQuiet
import Derived.Laws.BitsAllLaws
import Derived.IntWalk
namespace Go.Proofs.YtjicnfkodieaaaaDoor
set_option linter.unusedVariables false
open Go.RowKit

/-- x turned right by k. -/
def rotN (x k : Nat) : Nat := (x * 2 ^ (32 - k) % 4294967296) ||| (x / 2 ^ k)
def turnN (x a b c : Nat) : Nat := rotN x a ^^^ rotN x b ^^^ rotN x c
def tasN (x a b c : Nat) : Nat := rotN x a ^^^ rotN x b ^^^ (x / 2 ^ c)
theorem or_lt32 {a b : Nat} (ha : a < 4294967296) (hb : b < 4294967296) : a ||| b < 4294967296 := Nat.or_lt_two_pow (n := 32) ha hb
theorem xor_lt32 {a b : Nat} (ha : a < 4294967296) (hb : b < 4294967296) : a ^^^ b < 4294967296 := Nat.xor_lt_two_pow (n := 32) ha hb
theorem and_lt32 {a b : Nat} (ha : a < 4294967296) : a &&& b < 4294967296 := Nat.lt_of_le_of_lt Nat.and_le_left ha
theorem div_lt32 {a : Nat} (k : Nat) (ha : a < 4294967296) : a / 2 ^ k < 4294967296 := Nat.lt_of_le_of_lt (Nat.div_le_self _ _) ha
theorem rotN_lt {x k : Nat} (hx : x < 4294967296) : rotN x k < 4294967296 := or_lt32 (Nat.mod_lt _ (by decide)) (div_lt32 k hx)
theorem turnN_lt {x a b c : Nat} (hx : x < 4294967296) : turnN x a b c < 4294967296 := xor_lt32 (xor_lt32 (rotN_lt hx) (rotN_lt hx)) (rotN_lt hx)
theorem tasN_lt {x a b c : Nat} (hx : x < 4294967296) : tasN x a b c < 4294967296 := xor_lt32 (xor_lt32 (rotN_lt hx) (rotN_lt hx)) (div_lt32 c hx)

theorem quiet_same {P : Program} {f : FuncId} {args : Array Value} {w : World} {n : Nat} {v : Value}
    (h : Calls P f args (w.drewN n) fun e w' => e = .returned v ∧ w.drewN n = w') : Calls P f args (w.drewN n) fun e w'' => e = .returned v ∧ ∃ m, w'' = w.drewN m :=
  h.mono fun _ _ ⟨he, hm⟩ => ⟨he, n, hm.symm⟩

theorem and31 (k : Int) (h1 : 1 ≤ k) (h2 : k ≤ 31) : bits .and .u64 (IntKind.u64.wrap (-k)) 31 = 32 - k := by
  obtain ⟨n, rfl⟩ := Int.eq_ofNat_of_zero_le (show 0 ≤ k by omega)
  have all : ∀ j : Fin 32, 1 ≤ j.val → bits .and .u64 (IntKind.u64.wrap (-(j.val : Int))) 31 = 32 - (j.val : Int) := by decide +kernel
  exact all ⟨n, by omega⟩ (by show 1 ≤ n; omega)

theorem pow_cast (k : Nat) : ((2 ^ k : Nat) : Int) = 2 ^ k := by simp
theorem rot_eq (x k : Nat) (hx : x < 4294967296) : bits .or .u32 ((x : Int) * 2 ^ (32 - k) % 4294967296) ((x : Int) / 2 ^ k) = (rotN x k : Nat) := by
  have := u32_or_nat (x * 2 ^ (32 - k) % 4294967296) (x / 2 ^ k) (Nat.mod_lt _ (by decide)) (div_lt32 k hx)
  rw [Int.natCast_emod, Int.natCast_mul, pow_cast, Int.natCast_ediv, pow_cast] at this
  exact this

theorem rot_any (x k : Nat) (w : World) (hx : x < 4294967296) (h1 : 1 ≤ k) (h2 : k ≤ 31) :
    Calls Tryd.prog 96 #[.int .u32 x, .int .i64 (-(k : Int))] w fun e w' => e = .returned (.int .u32 (rotN x k : Nat)) ∧ w = w' := by
  have h3 := and31 k (by omega) (by omega)
  have e0 : ((32 : Int) - (k : Int)).toNat = 32 - k := by omega
  have h4 : min ((32 : Int) - (k : Int)).toNat IntKind.u32.bits = 32 - k := by have : IntKind.u32.bits = 32 := rfl; omega
  have h5 : IntKind.u64.wrap (32 - (32 - (k : Int))) = k := by rw [IntKind.wrap_u64]; omega
  have h6 : min (k : Int).toNat IntKind.u32.bits = k := by have : IntKind.u32.bits = 32 := rfl; omega
  have h9 : bits .or .u32 ((x : Int) * 2 ^ (32 - k) % 4294967296) ((x : Int) / 2 ^ k) = (rotN x k : Nat) := rot_eq x k hx
  have h7 : ∀ w, Sem.run Tryd.prog (Op.shift .shl .u32 x .u64 (32 - (k : Int))) w = .ok (.int .u32 ((x : Int) * 2 ^ (32 - k) % 4294967296)) w := by
    intro w; rw [shift_shl_any _ _ _ _ (by omega), h4, IntKind.wrap_u32']; rfl
  have h8 : ∀ w, Sem.run Tryd.prog (Op.shift .shr .u32 x .u64 k) w = .ok (.int .u32 ((x : Int) / 2 ^ k)) w := by
    intro w; rw [shift_shr_any _ _ _ _ (by omega), h6]; rfl
  clear h4 h6 e0 hx
  go_enter Tryd.func96, Tryd.ntmps96
  go_wp2_with fail
  go_ret
  exact ⟨rfl, rfl⟩

theorem turn_any (x a b c : Nat) (w : World) (hx : x < 4294967296) (a1 : 1 ≤ a) (a2 : a ≤ 31) (b1 : 1 ≤ b) (b2 : b ≤ 31) (c1 : 1 ≤ c) (c2 : c ≤ 31) :
    Calls Tryd.prog 86 #[.int .u32 x, .int .i64 a, .int .i64 b, .int .i64 c] w fun e w' => e = .returned (.int .u32 (turnN x a b c : Nat)) ∧ w = w' := by
  have e1 : bits .xor .u32 (rotN x a : Nat) (rotN x b : Nat) = ((rotN x a ^^^ rotN x b : Nat) : Int) := u32_xor_nat _ _ (rotN_lt hx) (rotN_lt hx)
  have e2 : bits .xor .u32 ((rotN x a ^^^ rotN x b : Nat) : Int) (rotN x c : Nat) = ((turnN x a b c : Nat) : Int) := u32_xor_nat _ _ (xor_lt32 (rotN_lt hx) (rotN_lt hx)) (rotN_lt hx)
  go_enter Tryd.func86, Tryd.ntmps86
  go_wp2_with (go_at_call 96; refine (rot_any _ _ _ hx (by omega) (by omega)).mono ?_; rintro e w' ⟨rfl, rfl⟩)
  go_ret
  exact ⟨rfl, rfl⟩

theorem tas_any (x a b c : Nat) (w : World) (hx : x < 4294967296) (a1 : 1 ≤ a) (a2 : a ≤ 31) (b1 : 1 ≤ b) (b2 : b ≤ 31) (c1 : 1 ≤ c) (c2 : c ≤ 31) :
    Calls Tryd.prog 95 #[.int .u32 x, .int .i64 a, .int .i64 b, .int .i64 c] w fun e w' => e = .returned (.int .u32 (tasN x a b c : Nat)) ∧ ∃ n, w' = w.drewN n := by
  have h6 : min (c : Int).toNat IntKind.u32.bits = c := by have : IntKind.u32.bits = 32 := rfl; omega
  have h8 : ∀ w, Sem.run Tryd.prog (Op.shift .shr .u32 x .i64 c) w = .ok (.int .u32 ((x : Int) / 2 ^ c)) w := by
    intro w; rw [shift_shr_any _ _ _ _ (by omega), h6]; rfl
  have e1 : bits .xor .u32 (rotN x a : Nat) (rotN x b : Nat) = ((rotN x a ^^^ rotN x b : Nat) : Int) := u32_xor_nat _ _ (rotN_lt hx) (rotN_lt hx)
  have e2 : bits .xor .u32 ((rotN x a ^^^ rotN x b : Nat) : Int) ((x : Int) / 2 ^ c) = ((tasN x a b c : Nat) : Int) := by
    have := u32_xor_nat (rotN x a ^^^ rotN x b) (x / 2 ^ c) (xor_lt32 (rotN_lt hx) (rotN_lt hx)) (div_lt32 c hx)
    rw [Int.natCast_ediv, pow_cast] at this
    exact this
  clear h6
  have e3 : IntKind.i64.wrap (-(a : Int)) = -(a : Int) := IntWalk.i64_in _ (by omega)
  have e4 : IntKind.i64.wrap (-(b : Int)) = -(b : Int) := IntWalk.i64_in _ (by omega)
  go_enter Tryd.func95, Tryd.ntmps95
  go_wp2_with fail
  go_quiet ((go_at_call 96; first | (with_reducible exact quiet_same (rot_any x a _ hx a1 a2)) | (with_reducible exact quiet_same (rot_any x b _ hx b1 b2))))
  go_wp2
  go_ret
  exact ⟨rfl, _, rfl⟩
end Go.Proofs.YtjicnfkodieaaaaDoor
