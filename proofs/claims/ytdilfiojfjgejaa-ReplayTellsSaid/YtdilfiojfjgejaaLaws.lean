/-
  Laws of the walk for min and max of two integers: what comes out keeps its name.
-/
import Derived.Test.YtdilfiojfjgejaaRows
import Derived.WalkKit
namespace Go.Proofs.Ytdilfiojfjgejaa
set_option linter.unusedVariables false
open Go.RowKit

theorem wpl_min {P : Program} {ops : Array Oper} {rest : List Oper} {op : Oper} {a : Act} {Q : Exit → Act → World → Prop} (hgd : op.guard = none) (x y : Operand) (t t' : TypeId)
    (ho : op.op = .call { callee := .builtin .min, args := #[x, y], argTypes := #[t, t'] }) (w : World) (p q m : Int) (hx : a.eval x = .int .i64 p) (hy : a.eval y = .int .i64 q) (hm : m = if q < p then q else p)
    (h : wpList P ops Q rest (a.put op.dst (.int .i64 m)) w) : wpList P ops Q (op :: rest) a w := by
  refine wpList_plain hgd fun _ hK => ?_
  unfold Oper.wp execOp
  simp only [ho, resolve, invoke, builtin, Sem.run_bind, Sem.run_pure, Result.andThen_ok, List.map_toArray, List.map_cons, List.map_nil, hx, hy]
  subst hm
  exact hK _ _ h

theorem wpl_max {P : Program} {ops : Array Oper} {rest : List Oper} {op : Oper} {a : Act} {Q : Exit → Act → World → Prop} (hgd : op.guard = none) (x y : Operand) (t t' : TypeId)
    (ho : op.op = .call { callee := .builtin .max, args := #[x, y], argTypes := #[t, t'] }) (w : World) (p q m : Int) (hx : a.eval x = .int .i64 p) (hy : a.eval y = .int .i64 q) (hm : m = if q > p then q else p)
    (h : wpList P ops Q rest (a.put op.dst (.int .i64 m)) w) : wpList P ops Q (op :: rest) a w := by
  refine wpList_plain hgd fun _ hK => ?_
  unfold Oper.wp execOp
  simp only [ho, resolve, invoke, builtin, Sem.run_bind, Sem.run_pure, Result.andThen_ok, List.map_toArray, List.map_cons, List.map_nil, hx, hy]
  subst hm
  exact hK _ _ h
end Go.Proofs.Ytdilfiojfjgejaa
