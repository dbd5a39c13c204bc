/-
  A row of one's own written cell by cell; an index into a slice whose address keeps its name.
-/
import Derived.Test.YtiamopkdapdpaaaRef
import Derived.Deep.RegionHeld3
import Derived.BigQuiet
import Derived.Deep.QuietTactic
namespace Go.Proofs.Ytiamopkdapdpaaa
set_option linter.unusedVariables false
open Go.RowKit

theorem quiet_same {P : Program} {f : FuncId} {args : Array Value} {w : World} {n : Nat} {v : Value}
    (h : Calls P f args (w.drewN n) fun e w' => e = .returned v ∧ w.drewN n = w') : Calls P f args (w.drewN n) fun e w'' => e = .returned v ∧ ∃ m, w'' = w.drewN m :=
  h.mono fun _ _ ⟨he, hm⟩ => ⟨he, n, hm.symm⟩

/-- A row whose cells may hold anything. -/
def OwnAny (w : World) (base : Nat) (e : TypeId) (A : Option Addr) (n c : Nat) : Prop := ∃ xs, w.ownsRow base e 1 (.slice A n c) n xs

theorem OwnAny.at {w : World} {base : Nat} {e : TypeId} {A : Option Addr} {n c k : Nat} (h : OwnAny w base e A n c) (hk : k < n) :
    ∃ g v, A = some ⟨g, 0, none⟩ ∧ base ≤ g ∧ g < w.heap.size ∧ w.cell? ⟨g, k, none⟩ = some v ∧ w.frozen? ⟨g, k, none⟩ = false ∧ ∀ u, OwnAny (w.setCell ⟨g, k, none⟩ u) base e A n c := by
  obtain ⟨xs, hl, h⟩ := h
  simp only [Nat.mul_one] at hl
  rcases h with ⟨_, h0⟩ | ⟨g, cap, cur, hv, hb, hg, h1, h2, h3, h4⟩
  · omega
  · injection hv with hA _ hc
    subst hA hc
    simp only [Nat.mul_one] at h3 h4
    have hB : Blk w g e cur := hg
    have hkc : k < cur.size := by omega
    refine ⟨g, cur[k], rfl, hb, hB.lt, ?_, hB.frozen k, fun u => ⟨xs.set k u, ?_, .inr ⟨g, c, cur.setIfInBounds k u, rfl, hb, hB.set k u, h1, h2, ?_, ?_⟩⟩⟩
    · rw [hB.cell k]
      exact Array.getElem?_eq_getElem hkc
    · simp [hl]
    · simp only [Nat.mul_one, Array.size_setIfInBounds]
      exact h3
    · simp only [Nat.mul_one, Array.toList_setIfInBounds, List.take_set, h4]

theorem wpl_idx {P : Program} {t e : TypeId} {z : Value} {bytes : Nat} (o : One P t e z bytes) {ops : Array Oper} {rest : List Oper} {op : Oper} {a : Act} {Q : Exit → Act → World → Prop} (hgd : op.guard = none) (x ix : Operand)
    (ho : op.op = .indexAddr t x ix) (w : World) (A : Option Addr) (n c : Nat) (k : Int) (hx : a.eval x = .slice A n c) (hi : a.eval ix = .int .i64 k) (ad ad' : Addr) (hA : A = some ad) (h0 : 0 ≤ k) (hk : k < n) (had : ad.add k.toNat = ad')
    (h : wpList P ops Q rest (a.put op.dst (.pointer (some ad'))) w) : wpList P ops Q (op :: rest) a w := by
  refine wpList_plain hgd fun _ hK => ?_
  obtain ⟨i, hinf, hz, hs, hby⟩ := o.info
  subst hA had
  have hrun : (Instr.indexAt t (.slice (some ad) n c) (.int .i64 k)).run P w = .ok (.pointer (some (ad.add k.toNat))) w := by
    simp [Instr.indexAt, asIntOf, run_underlying o.slice, h0, hk, sizeOf, typeInfo, hinf, hs]
  unfold Oper.wp execOp
  simp only [ho, Sem.run_bind, Sem.run_pure, Result.andThen_ok, hx, hi, hrun]
  exact hK _ _ h

theorem add_zero_off (g k : Nat) : (⟨g, 0, none⟩ : Addr).add k = ⟨g, k, none⟩ := by unfold Addr.add; split <;> simp_all
end Go.Proofs.Ytiamopkdapdpaaa
