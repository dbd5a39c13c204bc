/-
  min and max of two integers of whatever kind, guarded or not: what comes out keeps its name; what is drawn rises.
-/
import Derived.Test.YtgaocmpcjnjmdaaDl7
import Derived.Test.YtgaocmpcjnjmdaaNFrame
namespace Go.Proofs.Ytgaocmpcjnjmdaa
set_option linter.unusedVariables false
open Go.RowKit

theorem wplk_min {P : Program} {ops : Array Oper} {rest : List Oper} {op : Oper} {a : Act} {Q : Exit → Act → World → Prop} (x y : Operand) (t t' : TypeId)
    (ho : op.op = .call { callee := .builtin .min, args := #[x, y], argTypes := #[t, t'] }) (w : World) (k : IntKind) (p q m : Int) (hx : a.eval x = .int k p) (hy : a.eval y = .int k q) (hm : m = if q < p then q else p) (hw : Region.wanted op (yielded ops a.tmps) = true)
    (h : wpList P ops Q rest (a.put op.dst (.int k m)) w) : wpList P ops Q (op :: rest) a w := by
  refine wpList_step fun K hK => ?_
  rw [if_pos hw]
  unfold Oper.wp execOp
  simp only [ho, resolve, invoke, builtin, Sem.run_bind, Sem.run_pure, Result.andThen_ok, List.map_toArray, List.map_cons, List.map_nil, hx, hy]
  subst hm
  exact hK _ _ h
theorem wplk_max {P : Program} {ops : Array Oper} {rest : List Oper} {op : Oper} {a : Act} {Q : Exit → Act → World → Prop} (x y : Operand) (t t' : TypeId)
    (ho : op.op = .call { callee := .builtin .max, args := #[x, y], argTypes := #[t, t'] }) (w : World) (k : IntKind) (p q m : Int) (hx : a.eval x = .int k p) (hy : a.eval y = .int k q) (hm : m = if q > p then q else p) (hw : Region.wanted op (yielded ops a.tmps) = true)
    (h : wpList P ops Q rest (a.put op.dst (.int k m)) w) : wpList P ops Q (op :: rest) a w := by
  refine wpList_step fun K hK => ?_
  rw [if_pos hw]
  unfold Oper.wp execOp
  simp only [ho, resolve, invoke, builtin, Sem.run_bind, Sem.run_pure, Result.andThen_ok, List.map_toArray, List.map_cons, List.map_nil, hx, hy]
  subst hm
  exact hK _ _ h
theorem both_ends (a b N : Int) (ha : 0 ≤ a) (hb : 0 ≤ b) (ha1 : a < N) (hb1 : b < N) : ∃ l h : Int, Hid (l = if b < a then b else a) ∧ Hid (h = if b > a then b else a) ∧ 0 ≤ l ∧ l ≤ h ∧ h < N := by
  refine ⟨_, _, rfl, rfl, ?_, ?_, ?_⟩ <;> (repeat' split) <;> omega
theorem drawV_mono {a b m n p q : Int} (h0 : 0 ≤ a) (h1 : a ≤ b) (hb : b < 18446744073709551616) (h2 : m ≤ n) (h3 : p ≤ q) (hp : 0 ≤ p) : drawV a m p ≤ drawV b n q ∧ drawV a m p ≤ p ∧ 0 ≤ drawV a m p := by
  have h := drawN_mono (a := a.toNat) (b := b.toNat) (m := m.toNat) (n := n.toNat) (p := p.toNat) (q := q.toNat) (by omega) (by omega) (by omega) (by omega)
  have h' : drawN a.toNat m.toNat p.toNat ≤ p.toNat := by unfold drawN; omega
  unfold drawV
  omega
theorem tabV_rises (k : Nat) (h : 1 ≤ k) (h1 : k < 256) : tabV ((k - 1 : Nat) : Int) < tabV (k : Int) := by
  have := tabN_rises (k - 1) (by omega)
  rw [show k - 1 + 1 = k by omega] at this
  unfold tabV
  rw [Int.toNat_natCast, Int.toNat_natCast]
  omega
theorem Tab.drewN {w : World} {g : Nat} (h : Tab w g) (q : Nat) : Tab (w.drewN q) g := Blk.frm h ((Frm.refl (fun _ => False) w).drewN q) (fun h => h)
theorem Tab.drew {w : World} {g : Nat} (h : Tab w g) : Tab w.drew g := Blk.frm h ((Frm.refl (fun _ => False) w).drew) (fun h => h)
end Go.Proofs.Ytgaocmpcjnjmdaa
