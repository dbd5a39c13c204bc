/-
  delay: fraction, its iterator by a contract (sixteen bits, or a beginning of them). No condition but the number's own bounds.
-/
import Derived.Test.YtgaocmpcjnjmdaaDl1
import Derived.RangeFuncFrom
import Derived.RangeFuncLeaves
import Derived.Shelf.Abstract
import Derived.WalkKit
import Derived.OwnWalkIn
import Derived.TacticsInMore
import Derived.LoopNIn
import Derived.LoopIn
namespace Go.Proofs.Ytgaocmpcjnjmdaa
set_option linter.unusedVariables false
open Go.RowKit Go.Shelf

/-- An equation that no step may rewrite by. -/
def Veil (p : Prop) : Prop := p

/-- x, and the bit that comes, behind k bits. -/
def xAt (x0 k : Nat) : Nat := (bitsN k (x0, 0)).1
def bitAt (x0 k : Nat) : Nat := xAt x0 k * xAt x0 k / 2147483648 / 4294967296
def uptoB (x0 k : Nat) : List Int := (List.range k).map fun j => (bitAt x0 j : Int)
theorem uptoB_succ (x0 k : Nat) : uptoB x0 (k + 1) = uptoB x0 k ++ [(bitAt x0 k : Int)] := by simp [uptoB, List.range_succ]
theorem uptoB_len (x0 k : Nat) : (uptoB x0 k).length = k := by simp [uptoB]
theorem xAt_ok {x0 : Nat} (h : BitOk 0 (x0, 0)) (k : Nat) : 2147483648 ≤ xAt x0 k ∧ xAt x0 k < 4294967296 := ⟨(bitsN_ok k h).lo, (bitsN_ok k h).hi⟩
theorem sqAt_ok {x0 : Nat} (h : BitOk 0 (x0, 0)) (k : Nat) : xAt x0 k * xAt x0 k < 18446744073709551616 := by
  have h1 := (xAt_ok h k).2
  calc xAt x0 k * xAt x0 k ≤ 4294967295 * 4294967295 := Nat.mul_le_mul (by omega) (by omega)
    _ < 18446744073709551616 := by omega
theorem bitAt_step {x0 : Nat} (h : BitOk 0 (x0, 0)) (k : Nat) :
    (bitAt x0 k = 0 ∧ xAt x0 (k + 1) = xAt x0 k * xAt x0 k / 2147483648 ∧ (bitsN (k + 1) (x0, 0)).2 = 2 * (bitsN k (x0, 0)).2) ∨
    (bitAt x0 k = 1 ∧ xAt x0 (k + 1) = xAt x0 k * xAt x0 k / 2147483648 / 2 ∧ (bitsN (k + 1) (x0, 0)).2 = 2 * (bitsN k (x0, 0)).2 + 1) := by
  have h1 := sq_hi _ (xAt_ok h k).2
  have e : bitsN (k + 1) (x0, 0) = bitN (bitsN k (x0, 0)) := rfl
  by_cases g : 4294967296 ≤ xAt x0 k * xAt x0 k / 2147483648
  · right
    have e2 : bitN (bitsN k (x0, 0)) = (xAt x0 k * xAt x0 k / 2147483648 / 2, 2 * (bitsN k (x0, 0)).2 + 1) := if_pos g
    refine ⟨by unfold bitAt; omega, ?_, ?_⟩
    · show (bitsN (k + 1) (x0, 0)).1 = _
      rw [e, e2]
    · rw [e, e2]
  · left
    have e2 : bitN (bitsN k (x0, 0)) = (xAt x0 k * xAt x0 k / 2147483648, 2 * (bitsN k (x0, 0)).2) := if_neg g
    refine ⟨by unfold bitAt; omega, ?_, ?_⟩
    · show (bitsN (k + 1) (x0, 0)).1 = _
      rw [e, e2]
    · rw [e, e2]

set_option maxHeartbeats 400000 in
/-- fraction: a box with the number, and a function that looks at it. -/
theorem frac_any (x : Int) (w : World) :
    Calls Try.prog 18 #[.int .u32 x] w fun e w' => e = .returned (.func (.func 21) #[] #[.pointer (some ⟨w.heap.size, 0, none⟩)]) ∧ w' = w.alloc (.cells #[.int .u32 x] 22) := by
  go_enter Try.func18, Try.ntmps18
  go_wp2
  go_ret
  exact ⟨rfl, rfl⟩

set_option maxRecDepth 100000 in
set_option maxHeartbeats 2000000 in
/-- The iterator's walk. -/
theorem frac1_in (n : Nat) (hn : 1 ≤ n) (l Bn n₀ : Nat) (x0 : Nat) (hx0 : BitOk 0 (x0, 0)) (J Jx : List Int → World → Prop)
    (hY : ∀ pre x W, J pre W → pre.length < 16 → YieldAt Fence.wide (n - 1) Try.prog l #[.int .u32 x] W fun e W' =>
      (e = .returned (.bool true) ∧ J (pre ++ [x]) W' ∧ Below n₀ W W') ∨ (e = .returned (.bool false) ∧ Jx (pre ++ [x]) W'))
    (W : World) (hBn : W.cell? ⟨Bn, 0, none⟩ = some (.int .u32 (x0 : Int))) (h0 : J [] W) :
    CallsIn Fence.wide n Try.prog 21 #[.func (.yield l) #[] #[], .pointer (some ⟨Bn, 0, none⟩)] W fun e W' => (∃ v, e = .returned v) ∧
      ((∃ ys, ys = uptoB x0 16 ∧ J ys W') ∨ (∃ pre, True ∧ Jx pre W')) := by
  have b0 : (0 : Int) ≤ (x0 : Int) := by omega
  have b1 : (x0 : Int) < 4294967296 := by have := hx0.hi; omega
  obtain ⟨X, hX⟩ : ∃ X : Nat → Int, X = fun k => (xAt x0 k : Int) := ⟨_, rfl⟩
  obtain ⟨c, hc⟩ : ∃ c : Int, c = (x0 : Int) := ⟨_, rfl⟩
  rw [← hc] at hBn b0 b1
  have hX0 : Veil (c = X 0) := by
    show c = X 0
    rw [hc, hX]
    rfl
  have hXb : ∀ k, 2147483648 ≤ X k ∧ X k < 4294967296 := by
    intro k
    have := xAt_ok hx0 k
    rw [hX]
    show (2147483648 : Int) ≤ (xAt x0 k : Int) ∧ (xAt x0 k : Int) < 4294967296
    omega
  have hXs : ∀ k, ∃ M : Int, X k * X k = M ∧ 0 ≤ M ∧ M < 18446744073709551616 ∧
      ((M / 2147483648 / 4294967296 = 0 ∧ X (k + 1) = M / 2147483648 ∧ uptoB x0 (k + 1) = uptoB x0 k ++ [0]) ∨ (M / 2147483648 / 4294967296 = 1 ∧ X (k + 1) = M / 2147483648 / 2 ∧ uptoB x0 (k + 1) = uptoB x0 k ++ [1])) := by
    intro k
    have s1 := sqAt_ok hx0 k
    have s2 := bitAt_step hx0 k
    have s3 := uptoB_succ x0 k
    refine ⟨((xAt x0 k * xAt x0 k : Nat) : Int), ?_, by omega, by omega, ?_⟩
    · rw [hX]
      exact (Int.natCast_mul _ _).symm
    · rcases s2 with ⟨t1, t2, t3⟩ | ⟨t1, t2, t3⟩
      · left
        rw [t1] at s3
        unfold bitAt at t1
        refine ⟨by omega, ?_, s3⟩
        rw [hX]
        show (xAt x0 (k + 1) : Int) = _
        omega
      · right
        rw [t1] at s3
        unfold bitAt at t1
        refine ⟨by omega, ?_, s3⟩
        rw [hX]
        show (xAt x0 (k + 1) : Int) = _
        omega
  have hlen : ∀ k, (uptoB x0 k).length = k := uptoB_len x0
  have hU0 : uptoB x0 0 = [] := rfl
  obtain ⟨U, hU⟩ : ∃ U : Nat → List Int, U = uptoB x0 := ⟨_, rfl⟩
  rw [← hU] at hXs hlen hU0 ⊢
  clear hU hX hc
  refine callsIn_of_wp Try.func21 rfl trivial ?_ rfl
  simp only [Try.ntmps21, List.size_toArray, List.length_cons, List.length_nil, Nat.reduceAdd, Nat.reduceSub, Array.replicate_succ, Array.replicate_zero, List.push_toArray, List.append_toArray, List.nil_append, List.cons_append]
  gi_wp2
  gi_loopw [3, 7] (fun p q wr => ∃ (k : Nat), k ≤ 16 ∧ p = .int .u64 (X k) ∧ q = .int .i64 (k : Int) ∧ J (U k) wr)
    (fun p q wr => 16 - (intOf q).toNat)
  case atStart =>
    refine ⟨0, by omega, congrArg _ hX0, rfl, ?_⟩
    rw [hU0]
    exact h0
  case round =>
    obtain ⟨k, hk, rfl, rfl, hJs⟩ := hrel
    by_cases hk2 : k = 16
    · have hk3 : (16 : Int) ≤ (k : Int) := by omega
      have hJ16 : ∃ ys, ys = U 16 ∧ J ys wr := ⟨_, rfl, hk2 ▸ hJs⟩
      clear hk2
      gi_wp2
      go_end0
      exact ⟨⟨_, rfl⟩, .inl hJ16⟩
    · obtain ⟨M, hM, hM0, hM1, hMs⟩ := hXs k
      have hk3 : (k : Int) < 16 := by omega
      have hkk : k < 16 := by omega
      clear hk2
      rcases hMs with ⟨m1, m2, m3⟩ | ⟨m1, m2, m3⟩
      · obtain ⟨fn, tmps, assign, body, hy, hR⟩ := hY (U k) 0 wr hJs (by rw [hlen]; exact hkk)
        have m2' : Veil (X (k + 1) = M / 2147483648) := m2
        rw [← m3] at hR
        clear hY m2 m3
        gi_wp2
        refine hR.mono ?_
        rintro e W3 (⟨rfl, hJ3, hk3'⟩ | ⟨rfl, hJx3⟩)
        · gi_wp2
          go_roundw
          case rel =>
            exact ⟨k + 1, by omega, congrArg _ (Eq.symm m2'), by simp, hJ3⟩
          case measure => simp [intOf]; omega
        · gi_wp2
          refine bodyPost_ret (results_none rfl _ _ _) rfl ?_
          exact ⟨⟨_, rfl⟩, .inr ⟨_, trivial, hJx3⟩⟩
      · obtain ⟨fn, tmps, assign, body, hy, hR⟩ := hY (U k) 1 wr hJs (by rw [hlen]; exact hkk)
        have m2' : Veil (X (k + 1) = M / 2147483648 / 2) := m2
        rw [← m3] at hR
        clear hY m2 m3
        gi_wp2
        refine hR.mono ?_
        rintro e W3 (⟨rfl, hJ3, hk3'⟩ | ⟨rfl, hJx3⟩)
        · gi_wp2
          go_roundw
          case rel =>
            exact ⟨k + 1, by omega, congrArg _ (Eq.symm m2'), by simp, hJ3⟩
          case measure => simp [intOf]; omega
        · gi_wp2
          refine bodyPost_ret (results_none rfl _ _ _) rfl ?_
          exact ⟨⟨_, rfl⟩, .inr ⟨_, trivial, hJx3⟩⟩

/-- The iterator has its contract. -/
theorem frac_stops (n : Nat) (hn : 1 ≤ n) (Bn n₀ : Nat) (x0 : Nat) (hx0 : BitOk 0 (x0, 0)) (w : World) (hBn : Bn < w.heap.size)
    (hc : w.cell? ⟨Bn, 0, none⟩ = some (.int .u32 (x0 : Int))) :
    SeqStopsK Fence.wide n Try.prog 21 #[.pointer (some ⟨Bn, 0, none⟩)] (fun x : Int => #[Value.int .u32 x]) (Below n₀) (fun ys => ys = uptoB x0 16) (fun _ => True) 16 w := fun l J Jx W hW _ _ hY h0 =>
  frac1_in n hn l Bn n₀ x0 hx0 J Jx hY W ((hW.cell (p := ⟨Bn, 0, none⟩) hBn).trans hc) h0
end Go.Proofs.Ytgaocmpcjnjmdaa
