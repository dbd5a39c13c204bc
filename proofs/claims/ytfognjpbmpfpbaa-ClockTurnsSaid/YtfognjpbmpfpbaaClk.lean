/-
  The clock's functions, and those of the document's answer: what each tells, for every input. No condition.
-/
import Derived.Test.YtfognjpbmpfpbaaRows
import Derived.WalkKit
namespace Go.Proofs.Ytfognjpbmpfpbaa
set_option linter.unusedVariables false
open Go.RowKit

def addV (a b : Int) : Int := if a + b < 18446744073709551616 then a + b else 0
def addB (a b : Int) : Bool := decide (a + b < 18446744073709551616)
def subV (a b : Int) : Int := if b ≤ a then a - b else 0
def subB (a b : Int) : Bool := decide (b ≤ a)
def moreV (a b : Int) : Int := if a + b < 18446744073709551616 then a + b else 18446744073709551615
def shV (t b : Int) : Int := if 0 ≤ t + b ∧ t + b < 18446744073709551616 then t + b else 0
def shB (t b : Int) : Bool := decide (0 ≤ t + b ∧ t + b < 18446744073709551616)
def epV (t : Int) : Int := if t / 1000 < 4294967296 then t / 1000 else 0
def epB (t : Int) : Bool := decide (t / 1000 < 4294967296)
def c32V (n : Int) : Int := if n < 4294967296 then n else 0
def c32B (n : Int) : Bool := decide (n < 4294967296)
def c63V (n : Int) : Int := if n < 9223372036854775808 then n else 0
def c63B (n : Int) : Bool := decide (n < 9223372036854775808)
def cupV (n : Int) : Int := if 0 ≤ n then n else 0
def cupB (n : Int) : Bool := decide (0 ≤ n)

theorem tup {k : IntKind} {a b : Int} {c d : Bool} (h : a = b) (g : c = d) : Ending.returned (.tuple #[.int k a, .bool c]) = .returned (.tuple #[.int k b, .bool d]) := by rw [h, g]
theorem one {k : IntKind} {a b : Int} (h : a = b) : Ending.returned (.int k a) = .returned (.int k b) := by rw [h]

set_option maxHeartbeats 400000 in
theorem add_any (a b : Int) (w : World) (ha : 0 ≤ a) (ha1 : a < 18446744073709551616) (hb : 0 ≤ b) (hb1 : b < 18446744073709551616) :
    Calls Try.prog 13 #[.int .u64 a, .int .u64 b] w fun e w' => e = .returned (.tuple #[.int .u64 (addV a b), .bool (addB a b)]) ∧ w = w' := by
  go_enter Try.func13, Try.ntmps13
  go_wp2
  all_goals go_ret2
  · exact ⟨tup (by unfold addV; rw [if_neg (by omega)]) (by unfold addB; rw [decide_eq_false (by omega)]), rfl⟩
  · exact ⟨tup (by unfold addV; rw [if_pos (by omega)]) (by unfold addB; rw [decide_eq_true (by omega)]), rfl⟩

set_option maxHeartbeats 400000 in
theorem radd_any (a b : Int) (w : World) (ha : 0 ≤ a) (ha1 : a < 18446744073709551616) (hb : 0 ≤ b) (hb1 : b < 18446744073709551616) :
    Calls Try.prog 14 #[.int .u64 a, .int .u64 b] w fun e w' => e = .returned (.tuple #[.int .u64 (addV a b), .bool (addB a b)]) ∧ w = w' := by
  go_enter Try.func14, Try.ntmps14
  go_wp2
  all_goals go_ret2
  · exact ⟨tup (by unfold addV; rw [if_neg (by omega)]) (by unfold addB; rw [decide_eq_false (by omega)]), rfl⟩
  · exact ⟨tup (by unfold addV; rw [if_pos (by omega)]) (by unfold addB; rw [decide_eq_true (by omega)]), rfl⟩

set_option maxHeartbeats 400000 in
theorem sub_any (a b : Int) (w : World) (ha : 0 ≤ a) (ha1 : a < 18446744073709551616) (hb : 0 ≤ b) (hb1 : b < 18446744073709551616) :
    Calls Try.prog 15 #[.int .u64 a, .int .u64 b] w fun e w' => e = .returned (.tuple #[.int .u64 (subV a b), .bool (subB a b)]) ∧ w = w' := by
  by_cases h : b ≤ a
  all_goals
    go_enter Try.func15, Try.ntmps15
    go_wp2
    go_ret2
  · exact ⟨tup (by unfold subV; rw [if_pos (by omega)]) (by unfold subB; rw [decide_eq_true (by omega)]), rfl⟩
  · exact ⟨tup (by unfold subV; rw [if_neg (by omega)]) (by unfold subB; rw [decide_eq_false (by omega)]), rfl⟩

set_option maxHeartbeats 400000 in
theorem rsub_any (a b : Int) (w : World) (ha : 0 ≤ a) (ha1 : a < 18446744073709551616) (hb : 0 ≤ b) (hb1 : b < 18446744073709551616) :
    Calls Try.prog 16 #[.int .u64 a, .int .u64 b] w fun e w' => e = .returned (.tuple #[.int .u64 (subV a b), .bool (subB a b)]) ∧ w = w' := by
  by_cases h : b ≤ a
  all_goals
    go_enter Try.func16, Try.ntmps16
    go_wp2
    go_ret2
  · exact ⟨tup (by unfold subV; rw [if_pos (by omega)]) (by unfold subB; rw [decide_eq_true (by omega)]), rfl⟩
  · exact ⟨tup (by unfold subV; rw [if_neg (by omega)]) (by unfold subB; rw [decide_eq_false (by omega)]), rfl⟩

theorem addB_cases (a b : Int) : (addB a b = true ∧ a + b < 18446744073709551616) ∨ (addB a b = false ∧ 18446744073709551616 ≤ a + b) := by
  by_cases h : a + b < 18446744073709551616
  · exact .inl ⟨decide_eq_true h, h⟩
  · exact .inr ⟨decide_eq_false h, by omega⟩

set_option maxHeartbeats 400000 in
theorem more_any (a b : Int) (w : World) (ha : 0 ≤ a) (ha1 : a < 18446744073709551616) (hb : 0 ≤ b) (hb1 : b < 18446744073709551616) :
    Calls Try.prog 17 #[.int .u64 a, .int .u64 b] w fun e w' => e = .returned (.int .u64 (moreV a b)) ∧ w = w' := by
  rcases addB_cases a b with ⟨h, h1⟩ | ⟨h, h1⟩
  all_goals
    go_enter Try.func17, Try.ntmps17
    go_wp2_with fail
    refine (add_any a b _ ha ha1 hb hb1).mono ?_
    rintro e w' ⟨rfl, rfl⟩
    go_wp2_with fail
    go_ret
  · exact ⟨one (by unfold moreV addV; rw [if_pos h1, if_pos h1]), rfl⟩
  · exact ⟨one (by unfold moreV; rw [if_neg (by omega)]), rfl⟩

set_option maxHeartbeats 400000 in
theorem less_any (a b : Int) (w : World) (ha : 0 ≤ a) (ha1 : a < 18446744073709551616) (hb : 0 ≤ b) (hb1 : b < 18446744073709551616) :
    Calls Try.prog 18 #[.int .u64 a, .int .u64 b] w fun e w' => e = .returned (.int .u64 (subV a b)) ∧ w = w' := by
  go_enter Try.func18, Try.ntmps18
  go_wp2_with fail
  refine (sub_any a b _ ha ha1 hb hb1).mono ?_
  rintro e w' ⟨rfl, rfl⟩
  go_wp2_with fail
  go_ret
  exact ⟨rfl, rfl⟩

set_option maxHeartbeats 400000 in
theorem fit32 (n : Int) (w : World) (ha : 0 ≤ n) (ha1 : n < 18446744073709551616) :
    Calls Try.prog 28 #[.int .u64 n] w fun e w' => e = .returned (.tuple #[.int .u32 (c32V n), .bool (c32B n)]) ∧ w = w' := by
  go_enter Try.func28, Try.ntmps28
  go_wp2
  all_goals go_ret2
  · exact ⟨tup (by unfold c32V; rw [if_pos (by omega)]) (by unfold c32B; rw [decide_eq_true (by omega)]), rfl⟩
  · exact ⟨tup (by unfold c32V; rw [if_neg (by omega)]) (by unfold c32B; rw [decide_eq_false (by omega)]), rfl⟩

theorem u64wrap (n : Int) : IntKind.u64.wrap n = n % 18446744073709551616 := by simp [IntKind.wrap, IntKind.bits, IntKind.signed]
theorem there63 (n : Int) (h : 9223372036854775808 ≤ n) (h1 : n < 18446744073709551616) : IntKind.u64.wrap (wrap64 n) = n := by rw [u64wrap]; unfold wrap64; omega
theorem low63 (n : Int) (h : 9223372036854775808 ≤ n) (h1 : n < 18446744073709551616) : decide (wrap64 n < 0) = true := by apply decide_eq_true; unfold wrap64; omega
theorem thereup (n : Int) (h : -9223372036854775808 ≤ n) (h1 : n < 0) : wrap64 (IntKind.u64.wrap n) = n := by rw [u64wrap]; unfold wrap64; omega
theorem lowup (n : Int) : decide (IntKind.u64.wrap n < 0) = false := by apply decide_eq_false; rw [u64wrap]; omega

set_option maxHeartbeats 400000 in
theorem fit63 (n : Int) (w : World) (ha : 0 ≤ n) (ha1 : n < 18446744073709551616) :
    Calls Try.prog 29 #[.int .u64 n] w fun e w' => e = .returned (.tuple #[.int .i64 (c63V n), .bool (c63B n)]) ∧ w = w' := by
  by_cases h : n < 9223372036854775808
  · go_enter Try.func29, Try.ntmps29
    go_wp2
    go_ret2
    exact ⟨tup (by unfold c63V; rw [if_pos (by omega)]) (by unfold c63B; rw [decide_eq_true (by omega)]), rfl⟩
  · have h1 := there63 n (by omega) ha1
    have h2 := low63 n (by omega) ha1
    have h3 : decide (n < 0) = false := decide_eq_false (by omega)
    go_enter Try.func29, Try.ntmps29
    go_wp2
    go_ret2
    exact ⟨tup (by unfold c63V; rw [if_neg (by omega)]) (by unfold c63B; rw [decide_eq_false (by omega)]), rfl⟩

set_option maxHeartbeats 400000 in
theorem fitup (n : Int) (w : World) (ha : -9223372036854775808 ≤ n) (ha1 : n ≤ 9223372036854775807) :
    Calls Try.prog 27 #[.int .i64 n] w fun e w' => e = .returned (.tuple #[.int .u64 (cupV n), .bool (cupB n)]) ∧ w = w' := by
  by_cases h : 0 ≤ n
  · go_enter Try.func27, Try.ntmps27
    go_wp2
    go_ret2
    exact ⟨tup (by unfold cupV; rw [if_pos (by omega)]) (by unfold cupB; rw [decide_eq_true (by omega)]), rfl⟩
  · have h1 := thereup n ha (by omega)
    have h2 := lowup n
    have h3 : decide (n < 0) = true := decide_eq_true (by omega)
    go_enter Try.func27, Try.ntmps27
    go_wp2
    go_ret2
    exact ⟨tup (by unfold cupV; rw [if_neg (by omega)]) (by unfold cupB; rw [decide_eq_false (by omega)]), rfl⟩

set_option maxHeartbeats 400000 in
theorem to32_any (n : Int) (w : World) (ha : 0 ≤ n) (ha1 : n < 18446744073709551616) :
    Calls Try.prog 24 #[.int .u64 n] w fun e w' => e = .returned (.tuple #[.int .u32 (c32V n), .bool (c32B n)]) ∧ w = w' := by
  go_enter Try.func24, Try.ntmps24
  go_wp2_with fail
  refine (fit32 n _ ha ha1).mono ?_
  rintro e w' ⟨rfl, rfl⟩
  go_wp2_with fail
  go_ret2
  exact ⟨rfl, rfl⟩

set_option maxHeartbeats 400000 in
theorem toi64_any (n : Int) (w : World) (ha : 0 ≤ n) (ha1 : n < 18446744073709551616) :
    Calls Try.prog 25 #[.int .u64 n] w fun e w' => e = .returned (.tuple #[.int .i64 (c63V n), .bool (c63B n)]) ∧ w = w' := by
  go_enter Try.func25, Try.ntmps25
  go_wp2_with fail
  refine (fit63 n _ ha ha1).mono ?_
  rintro e w' ⟨rfl, rfl⟩
  go_wp2_with fail
  go_ret2
  exact ⟨rfl, rfl⟩

set_option maxHeartbeats 400000 in
theorem fromi64_any (n : Int) (w : World) (ha : -9223372036854775808 ≤ n) (ha1 : n ≤ 9223372036854775807) :
    Calls Try.prog 26 #[.int .i64 n] w fun e w' => e = .returned (.tuple #[.int .u64 (cupV n), .bool (cupB n)]) ∧ w = w' := by
  go_enter Try.func26, Try.ntmps26
  go_wp2_with fail
  refine (fitup n _ ha ha1).mono ?_
  rintro e w' ⟨rfl, rfl⟩
  go_wp2_with fail
  go_ret2
  exact ⟨rfl, rfl⟩

theorem ep_of (t : Int) : c32V (t / 1000) = epV t := rfl
theorem ep_ofB (t : Int) : c32B (t / 1000) = epB t := rfl

set_option maxHeartbeats 400000 in
theorem epoch_any (n : Int) (w : World) (ha : 0 ≤ n) (ha1 : n < 18446744073709551616) :
    Calls Try.prog 21 #[.int .u64 n] w fun e w' => e = .returned (.tuple #[.int .u32 (epV n), .bool (epB n)]) ∧ w = w' := by
  go_enter Try.func21, Try.ntmps21
  go_wp2_with fail
  refine (fit32 (n / 1000) _ (by omega) (by omega)).mono ?_
  rintro e w' ⟨rfl, rfl⟩
  go_wp2_with fail
  go_ret2
  exact ⟨rfl, rfl⟩

set_option maxHeartbeats 400000 in
theorem repoch_any (n : Int) (w : World) (ha : 0 ≤ n) (ha1 : n < 18446744073709551616) :
    Calls Try.prog 22 #[.int .u64 n] w fun e w' => e = .returned (.tuple #[.int .u32 (epV n), .bool (epB n)]) ∧ w = w' := by
  go_enter Try.func22, Try.ntmps22
  go_wp2
  all_goals go_ret2
  · exact ⟨tup (by unfold epV; rw [if_neg (by omega)]) (by unfold epB; rw [decide_eq_false (by omega)]), rfl⟩
  · exact ⟨tup (by unfold epV; rw [if_pos (by omega)]) (by unfold epB; rw [decide_eq_true (by omega)]), rfl⟩

set_option maxHeartbeats 400000 in
theorem start_any (n : Int) (w : World) (ha : 0 ≤ n) (ha1 : n < 4294967296) :
    Calls Try.prog 23 #[.int .u32 n] w fun e w' => e = .returned (.int .u64 (n * 1000)) ∧ w = w' := by
  go_enter Try.func23, Try.ntmps23
  go_wp2
  go_ret
  exact ⟨rfl, rfl⟩

theorem sh_high (t b : Int) (ha : 0 ≤ t) (h : 0 ≤ b) : addV t b = shV t b ∧ addB t b = shB t b := by
  unfold shV addV shB addB
  simp only [show (0 ≤ t + b) from by omega, true_and, and_self]

theorem sh_low (t b : Int) (ha1 : t < 18446744073709551616) (h : b < 0) : subV t (-b) = shV t b ∧ subB t (-b) = shB t b := by
  unfold shV subV shB subB
  by_cases g : -b ≤ t
  · rw [if_pos g, if_pos ⟨by omega, by omega⟩, decide_eq_true g, decide_eq_true ⟨by omega, by omega⟩]
    exact ⟨by omega, rfl⟩
  · rw [if_neg g, if_neg (by omega), decide_eq_false g, decide_eq_false (by omega)]
    exact ⟨rfl, rfl⟩

set_option maxHeartbeats 400000 in
theorem shift_any (t b : Int) (w : World) (ha : 0 ≤ t) (ha1 : t < 18446744073709551616) (hb : -9223372036854775808 ≤ b) (hb1 : b ≤ 9223372036854775807) :
    Calls Try.prog 19 #[.int .u64 t, .int .i64 b] w fun e w' => e = .returned (.tuple #[.int .u64 (shV t b), .bool (shB t b)]) ∧ w = w' := by
  by_cases h : 0 ≤ b
  · have h1 : cupB b = true := decide_eq_true h
    have h2 : cupV b = b := if_pos h
    go_enter Try.func19, Try.ntmps19
    go_wp2_with fail
    refine (fitup b _ hb hb1).mono ?_
    rintro e w' ⟨rfl, rfl⟩
    go_wp2_with fail
    refine (add_any t b _ ha ha1 h (by omega)).mono ?_
    rintro e w' ⟨rfl, rfl⟩
    go_wp2_with fail
    go_ret2
    exact ⟨tup (sh_high t b ha h).1 (sh_high t b ha h).2, rfl⟩
  · have h1 : cupB b = false := decide_eq_false h
    have h2 : IntKind.u64.wrap (-IntKind.u64.wrap b) = -b := by rw [u64wrap, u64wrap]; omega
    go_enter Try.func19, Try.ntmps19
    go_wp2_with fail
    refine (fitup b _ hb hb1).mono ?_
    rintro e w' ⟨rfl, rfl⟩
    go_wp2_with fail
    refine (sub_any t (-b) _ ha ha1 (by omega) (by omega)).mono ?_
    rintro e w' ⟨rfl, rfl⟩
    go_wp2_with fail
    go_ret2
    exact ⟨tup (sh_low t b ha1 (by omega)).1 (sh_low t b ha1 (by omega)).2, rfl⟩

set_option maxHeartbeats 400000 in
theorem rshift_any (t b : Int) (w : World) (ha : 0 ≤ t) (ha1 : t < 18446744073709551616) (hb : -9223372036854775808 ≤ b) (hb1 : b ≤ 9223372036854775807) :
    Calls Try.prog 20 #[.int .u64 t, .int .i64 b] w fun e w' => e = .returned (.tuple #[.int .u64 (shV t b), .bool (shB t b)]) ∧ w = w' := by
  by_cases h : 0 ≤ b
  · go_enter Try.func20, Try.ntmps20
    go_wp2_with fail
    refine (radd_any t b _ ha ha1 h (by omega)).mono ?_
    rintro e w' ⟨rfl, rfl⟩
    go_wp2_with fail
    go_ret2
    exact ⟨tup (sh_high t b ha h).1 (sh_high t b ha h).2, rfl⟩
  · go_enter Try.func20, Try.ntmps20
    go_wp2_with fail
    rw [show -(b + 1) + 1 = -b from by omega]
    refine (rsub_any t (-b) _ ha ha1 (by omega) (by omega)).mono ?_
    rintro e w' ⟨rfl, rfl⟩
    go_wp2_with fail
    go_ret2
    exact ⟨tup (sh_low t b ha1 (by omega)).1 (sh_low t b ha1 (by omega)).2, rfl⟩
end Go.Proofs.Ytfognjpbmpfpbaa
