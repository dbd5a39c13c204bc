/-
  Steps that came in, in a row.
-/
import Derived.Test.YtjpmicjlbkdcbaaHqSh
namespace Go.Proofs.Ytjpmicjlbkdcbaa
set_option linter.unusedVariables false
set_option linter.unusedSimpArgs false
open Go.RowKit

structure Stp where
  k : Int
  t : Nat
  x : Int
deriving Inhabited
def stC (s : Stp) : List Value := [.int .i64 s.k, .int .u64 (s.t : Int), .int .i64 s.x]
theorem stC_length (s : Stp) : (stC s).length = 3 := rfl
theorem stC_one (s : Stp) : ∀ u ∈ stC s, u.oneCell' = true := by
  intro u hu
  simp [stC] at hu
  rcases hu with rfl | rfl | rfl <;> rfl
def SRow (w : World) (A : Option Addr) (n : Nat) (L : List Stp) : Prop :=
  L.length = n ∧ (∀ s ∈ L, s.t < 18446744073709551616) ∧ (0 < n → ∃ a, A = some a ∧ ∀ j q u, j < n → (stC (L.getD j default))[q]? = some u → w.cell? ((a.add (j * 3)).add q) = some u)
theorem addr_add0 (a : Addr) : a.add 0 = a := by simp [Addr.add]
theorem add_q (a : Addr) (q : Nat) (h : 0 < q) : a.add q = ⟨a.block, a.off + q, none⟩ := by unfold Addr.add; rw [if_neg (by omega)]
/-- The step at a place, in any later world. -/
theorem SRow.at {w : World} {A : Option Addr} {n : Nat} {L : List Stp} (h : SRow w A n L) {j : Nat} (hj : j < n) : ∃ a, A = some a ∧ (L.getD j default).t < 18446744073709551616 ∧ ∀ w', Below w.heap.size w w' → ∀ q u, (stC (L.getD j default))[q]? = some u → w'.cell? ((a.add (j * 3)).add q) = some u := by
  obtain ⟨hl, ht, hc0⟩ := h
  obtain ⟨a, rfl, hc⟩ := hc0 (by omega)
  refine ⟨a, rfl, ?_, fun w' f q u hq => ?_⟩
  · apply ht
    rw [List.getD_eq_getElem?_getD, List.getElem?_eq_getElem (by omega)]
    exact List.getElem_mem _
  · have h1 := hc j q u hj hq
    rw [f.cell (World.block_lt_of_cell? w _ h1)]
    exact h1
theorem aggSt : Agg Try.prog 30 3 := Agg.of (by kernel_rfl) (by kernel_rfl)
theorem zeroSt : (Try.prog.info? 30).map (fun i => i.zero) = some (some (.agg [Value.int .i64 0, Value.int .u64 0, Value.int .i64 0].toArray)) := by kernel_rfl
/-- A struct loaded whole, whose cells are told. -/
theorem wpl_loadc {P : Program} {ty : TypeId} {n : Nat} (hA : Agg P ty n) {ops : Array Oper} {rest : List Oper} {op : Oper} {a : Act} {w : World} {Q : Exit → Act → World → Prop} (hgd : op.guard = none) (x : Operand) (ho : op.op = .load ty x)
    (ad : Addr) (hx : a.eval x = .pointer (some ad)) (cs : List Value) (hn : cs.length = n) (hc : ∀ q u, cs[q]? = some u → w.cell? (ad.add q) = some u)
    (h : wpList P ops Q rest (a.put op.dst (.agg cs.toArray)) w) : wpList P ops Q (op :: rest) a w := by
  refine wpList_plain hgd fun _ hK => ?_
  obtain ⟨⟨d, hu, hd⟩, hi⟩ := hA
  have h1 : (loadCells ad cs.length).run P w = .ok cs.toArray w := run_loadCells_list (P := P) w ad cs (fun j v hv => hc j v hv)
  have h2 : (loadVar ty ad).run P w = .ok (.agg cs.toArray) w := by
    cases hq : P.info? ty with
    | none => simp [hq] at hi
    | some i =>
      have hs : i.size = n := by simpa [hq] using hi
      have hagg : (isAgg ty).run P w = .ok true w := by
        unfold isAgg
        rw [Sem.run_bind, run_underlying hu w]
        cases d <;> simp_all [isAggD]
      rw [hn] at h1
      simp [loadVar, Sem.run_bind, hagg, sizeOf, typeInfo, hq, hs, h1]
  unfold Oper.wp execOp
  simp only [ho, hx, Instr.loadAt, Instr.sureAddr, Sem.run_bind, Sem.run_pure, Result.andThen_ok, h2]
  exact hK _ _ h
end Go.Proofs.Ytjpmicjlbkdcbaa
