/-
  window: the sum that remembers that it was over, by a contract; clock's Add, Sub and Less; Has. What lay when a call began lies as it lay.
-/
import Derived.Test.YtcnnekdeakfjeaaPr
namespace Go.Proofs.Ytcnnekdeakfjeaa
set_option linter.unusedVariables false
open Go.RowKit

def addV (a b : Int) : Int := if a + b < 18446744073709551616 then a + b else 0
def addB (a b : Int) : Bool := decide (a + b < 18446744073709551616)
def subV (a b : Int) : Int := if b ≤ a then a - b else 0
def subB (a b : Int) : Bool := decide (b ≤ a)

theorem tup {k : IntKind} {a b : Int} {c d : Bool} (h : a = b) (g : c = d) : Ending.returned (.tuple #[.int k a, .bool c]) = .returned (.tuple #[.int k b, .bool d]) := by rw [h, g]
theorem one {k : IntKind} {a b : Int} (h : a = b) : Ending.returned (.int k a) = .returned (.int k b) := by rw [h]

set_option maxHeartbeats 400000 in
theorem add_any (a b : Int) (w : World) (ha : 0 ≤ a) (ha1 : a < 18446744073709551616) (hb : 0 ≤ b) (hb1 : b < 18446744073709551616) :
    Calls Try.prog 20 #[.int .u64 a, .int .u64 b] w fun e w' => e = .returned (.tuple #[.int .u64 (addV a b), .bool (addB a b)]) ∧ w = w' := by
  go_enter Try.func20, Try.ntmps20
  go_wp2
  all_goals go_ret2
  · exact ⟨tup (by unfold addV; rw [if_neg (by omega)]) (by unfold addB; rw [decide_eq_false (by omega)]), rfl⟩
  · exact ⟨tup (by unfold addV; rw [if_pos (by omega)]) (by unfold addB; rw [decide_eq_true (by omega)]), rfl⟩

set_option maxHeartbeats 400000 in
theorem sub_any (a b : Int) (w : World) (ha : 0 ≤ a) (ha1 : a < 18446744073709551616) (hb : 0 ≤ b) (hb1 : b < 18446744073709551616) :
    Calls Try.prog 22 #[.int .u64 a, .int .u64 b] w fun e w' => e = .returned (.tuple #[.int .u64 (subV a b), .bool (subB a b)]) ∧ w = w' := by
  by_cases h : b ≤ a
  all_goals
    go_enter Try.func22, Try.ntmps22
    go_wp2
    go_ret2
  · exact ⟨tup (by unfold subV; rw [if_pos (by omega)]) (by unfold subB; rw [decide_eq_true (by omega)]), rfl⟩
  · exact ⟨tup (by unfold subV; rw [if_neg (by omega)]) (by unfold subB; rw [decide_eq_false (by omega)]), rfl⟩

set_option maxHeartbeats 400000 in
theorem less_any (a b : Int) (w : World) (ha : 0 ≤ a) (ha1 : a < 18446744073709551616) (hb : 0 ≤ b) (hb1 : b < 18446744073709551616) :
    Calls Try.prog 17 #[.int .u64 a, .int .u64 b] w fun e w' => e = .returned (.int .u64 (subV a b)) ∧ w = w' := by
  go_enter Try.func17, Try.ntmps17
  go_wp2_with fail
  refine (sub_any a b _ ha ha1 hb hb1).mono ?_
  rintro e w' ⟨rfl, rfl⟩
  go_wp2_with fail
  go_ret
  exact ⟨rfl, rfl⟩

theorem agg_sum : Agg Try.prog 49 2 := Agg.of (by kernel_rfl) (by kernel_rfl)

theorem below2 (w : World) (o o' : Obj) : Below w.heap.size w ((w.alloc o).alloc o') :=
  (Frm.alloc w o (fun _ => False)).trans (Frm.alloc _ o' (fun _ => False)) (fun _ _ h => h) |>.below (Nat.le_refl _) (fun _ h => h.elim)
theorem below1 (w : World) (o : Obj) : Below w.heap.size w (w.alloc o) := (Frm.alloc w o (fun _ => False)).below (Nat.le_refl _) (fun _ h => h.elim)

theorem Blk.new2 (w : World) (o : Obj) (t : TypeId) (cs : Array Value) : Blk ((w.alloc o).alloc (.cells cs t)) (w.heap.size + 1) t cs := by
  have h := Blk.new (w.alloc o) t cs
  rwa [show (w.alloc o).heap.size = w.heap.size + 1 by simp] at h

/-- What a sum is: the number itself, or that it was over. -/
def SumR (a : Int) (ov : Bool) (n : Nat) : Prop := 0 ≤ a ∧ a < 18446744073709551616 ∧ ((ov = false ∧ a = (n : Int) ∧ n < 18446744073709551616) ∨ (ov = true ∧ 18446744073709551616 ≤ n))
theorem SumR.start (n : Nat) (h : n < 18446744073709551616) : SumR (n : Int) false n := ⟨by omega, by omega, .inl ⟨rfl, rfl, h⟩⟩
theorem SumR.and {a : Int} {ov : Bool} {n : Nat} (h : SumR a ov n) (b : Nat) (hb : b < 18446744073709551616) : SumR (addV a (b : Int)) (ov || !(addB a (b : Int))) (n + b) := by
  obtain ⟨h0, h1, h⟩ := h
  rcases h with ⟨rfl, rfl, h2⟩ | ⟨rfl, h2⟩
  · by_cases hs : n + b < 18446744073709551616
    · refine ⟨?_, ?_, .inl ⟨?_, ?_, hs⟩⟩
      · unfold addV; rw [if_pos (by omega)]; omega
      · unfold addV; rw [if_pos (by omega)]; omega
      · unfold addB; rw [decide_eq_true (by omega)]; rfl
      · unfold addV; rw [if_pos (by omega)]; omega
    · refine ⟨?_, ?_, .inr ⟨?_, by omega⟩⟩
      · unfold addV; rw [if_neg (by omega)]; omega
      · unfold addV; rw [if_neg (by omega)]; omega
      · unfold addB; rw [decide_eq_false (by omega)]; rfl
  · refine ⟨?_, ?_, .inr ⟨rfl, by omega⟩⟩
    · unfold addV; split <;> omega
    · unfold addV; split <;> omega

set_option maxHeartbeats 400000 in
theorem and_val (a b : Int) (ov : Bool) (w : World) (ha : 0 ≤ a) (ha1 : a < 18446744073709551616) (hb : 0 ≤ b) (hb1 : b < 18446744073709551616) :
    Calls Try.prog 16 #[.agg #[.int .u64 a, .bool ov], .int .u64 b] w fun e w' => e = .returned (.agg #[.int .u64 (addV a b), .bool (ov || !(addB a b))]) ∧ Below w.heap.size w w' := by
  cases ov
  all_goals
    go_enter Try.func16, Try.ntmps16
    go_wp2_with fail
    refine (add_any a b _ ha ha1 hb hb1).mono ?_
    rintro e w' ⟨rfl, rfl⟩
    go_wp2_with fail
  · exact ret_agg agg_sum rfl rfl _ _ [_, _] rfl (Blk.new2 _ _ _ _) rfl ⟨rfl, below2 _ _ _⟩
  · exact ret_agg agg_sum rfl rfl _ _ [_, _] rfl (Blk.new2 _ _ _ _) rfl ⟨rfl, below2 _ _ _⟩

/-- and: the next sum. -/
theorem and_any (a : Int) (ov : Bool) (n b : Nat) (w : World) (h : SumR a ov n) (hb : b < 18446744073709551616) :
    Calls Try.prog 16 #[.agg #[.int .u64 a, .bool ov], .int .u64 (b : Int)] w fun e w' => (∃ a' ov', e = .returned (.agg #[.int .u64 a', .bool ov']) ∧ SumR a' ov' (n + b)) ∧ Below w.heap.size w w' :=
  (and_val a b ov w h.1 h.2.1 (by omega) (by omega)).mono fun e w' ⟨he, hw⟩ => ⟨⟨_, _, he, h.and b hb⟩, hw⟩

/-- What Has tells. -/
def hasV (lo hi t : Int) : Int := if t < lo then 5 else if hi < t then 6 else 0

set_option maxHeartbeats 400000 in
theorem has_any (lo hi t : Int) (w : World) :
    Calls Try.prog 14 #[.agg #[.int .u64 lo, .int .u64 hi], .int .u64 t] w fun e w' => e = .returned (.int .i64 (hasV lo hi t)) ∧ Below w.heap.size w w' := by
  by_cases h1 : t < lo
  · have e : hasV lo hi t = 5 := by unfold hasV; rw [if_pos h1]
    rw [e]
    go_enter Try.func14, Try.ntmps14
    go_wp2
    go_ret
    exact ⟨rfl, below1 _ _⟩
  · by_cases h2 : hi < t
    · have e : hasV lo hi t = 6 := by unfold hasV; rw [if_neg h1, if_pos h2]
      rw [e]
      go_enter Try.func14, Try.ntmps14
      go_wp2
      go_ret
      exact ⟨rfl, below1 _ _⟩
    · have e : hasV lo hi t = 0 := by unfold hasV; rw [if_neg h1, if_neg h2]
      rw [e]
      go_enter Try.func14, Try.ntmps14
      go_wp2
      go_ret
      exact ⟨rfl, below1 _ _⟩

set_option maxHeartbeats 400000 in
theorem rhas_any (lo hi t : Int) (w : World) :
    Calls Try.prog 15 #[.agg #[.int .u64 lo, .int .u64 hi], .int .u64 t] w fun e w' => e = .returned (.int .i64 (hasV lo hi t)) ∧ Below w.heap.size w w' := by
  by_cases h1 : t < lo
  · have e : hasV lo hi t = 5 := by unfold hasV; rw [if_pos h1]
    rw [e]
    go_enter Try.func15, Try.ntmps15
    go_wp2
    go_ret
    exact ⟨rfl, below1 _ _⟩
  · by_cases h2 : hi < t
    · have e : hasV lo hi t = 6 := by unfold hasV; rw [if_neg h1, if_pos h2]
      rw [e]
      go_enter Try.func15, Try.ntmps15
      go_wp2
      go_ret
      exact ⟨rfl, below1 _ _⟩
    · have e : hasV lo hi t = 0 := by unfold hasV; rw [if_neg h1, if_neg h2]
      rw [e]
      go_enter Try.func15, Try.ntmps15
      go_wp2
      go_ret
      exact ⟨rfl, below1 _ _⟩
end Go.Proofs.Ytcnnekdeakfjeaa
