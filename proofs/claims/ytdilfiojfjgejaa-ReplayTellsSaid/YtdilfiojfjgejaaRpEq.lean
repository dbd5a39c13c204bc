/-
  Tags compared; steps made before, asked for one.
-/
import Derived.Test.YtdilfiojfjgejaaRpSt
import Derived.Test.YtdilfiojfjgejaaHp
import Derived.Stop.BytesEq
namespace Go.Proofs.Ytdilfiojfjgejaa
set_option linter.unusedVariables false
set_option linter.unusedSimpArgs false
open Go.RowKit

theorem size8 : (Try.prog.info? 5).map (fun i => i.size) = some 1 := by kernel_rfl
theorem size8w (w : World) : (sizeOf 5).run Try.prog w = .ok 1 w := by
  have hi := size8
  cases hq : Try.prog.info? 5 with
  | none => simp [hq] at hi
  | some i =>
    have hs : i.size = 1 := by simpa [hq] using hi
    simp [sizeOf, typeInfo, hq, hs]
theorem tag_guard : Try.prog.eqGuardType Try.prog.depth 30 = false := by kernel_rfl
theorem eq_tag (x y : Tg) (w : World) : (Op.equalIn 10000 30 (.agg (tgC x).toArray) (.agg (tgC y).toArray)).run Try.prog w = .ok (decide (x = y)) w := by
  have h := run_equalIn_bytes (P := Try.prog) w 9998 30 5 16 Try.underlying30 Try.underlying5 size8w x.1 y.1 x.2 y.2
  rw [show decide (x = y) = (x.1 == y.1) by
    by_cases e : x = y
    · subst e; simp
    · rw [decide_eq_false e]
      exact (beq_eq_false_iff_ne.2 (fun k => e (Subtype.ext k))).symm]
  exact h
theorem held_maxU {P : Program} {o : Oper} {a : Act} {w : World} (x y : Operand) (t t' : TypeId) (ho : o.op = .call { callee := .builtin .max, args := #[x, y], argTypes := #[t, t'] }) (κ : IntKind) (p q m : Int) (hx : a.eval x = .int κ p) (hy : a.eval y = .int κ q) (hm : m = if q > p then q else p) :
    (execOp a.eval o).run P w = .ok (.value (.int κ m)) w := by
  unfold execOp
  simp only [ho, resolve, invoke, builtin, Sem.run_bind, Sem.run_pure, Result.andThen_ok, List.map_toArray, List.map_cons, List.map_nil, hx, hy]
  subst hm
  rfl
theorem min_end {k len n : Nat} (h : ¬ k < Nat.min len n) (hl : k < len) : ¬ k < n := fun hn => h (Nat.lt_min.2 ⟨hl, hn⟩)
theorem LT.ltOf {w W : World} {g bs bc : Nat} {t : T} (h : LT w W g bs bc t) : ∀ i, Of g bs bc i → i < W.heap.size := by
  intro i hi
  have := h.at_.lt
  unfold Of at hi
  omega
theorem add_not {t : T} {e : Nat} {x : Tg} (h : t.why e x ≠ 0) : t.add e x = t := if_neg h
end Go.Proofs.Ytdilfiojfjgejaa
