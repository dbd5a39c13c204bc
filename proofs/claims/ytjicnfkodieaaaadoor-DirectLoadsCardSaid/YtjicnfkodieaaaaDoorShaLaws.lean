/-
  Laws of the walk for whole arrays: made, loaded, stored; a block behind a store.
-/
import Derived.Test.YtjicnfkodieaaaaDoorShaM
import Derived.Laws.CopyOwn
import Derived.Deep.WholeRow
namespace Go.Proofs.YtjicnfkodieaaaaDoor
set_option linter.unusedVariables false
open Go.RowKit

theorem addr_add (g off j : Nat) : (⟨g, off, none⟩ : Addr).add j = ⟨g, off + j, none⟩ := by unfold Addr.add; split <;> simp_all

def isAggD (d : TypeDesc) : Bool := match d with | .struct _ | .array _ _ => true | _ => false
/-- What a type must be to be loaded whole. -/
def Agg (P : Program) (ty : TypeId) (n : Nat) : Prop := (∃ d, P.underlying ty = some d ∧ isAggD d = true) ∧ (P.info? ty).map (·.size) = some n

theorem run_load_agg {P : Program} {ty : TypeId} {n : Nat} (hA : Agg P ty n) (w : World) (g off : Nat) (t : TypeId) (cs xs : List Value) (hb : Blk w g t cs.toArray) (hx : (cs.drop off).take n = xs) (hn : off + n ≤ cs.length) :
    (loadVar ty ⟨g, off, none⟩).run P w = .ok (.agg xs.toArray) w := by
  obtain ⟨⟨d, hu, hd⟩, hi⟩ := hA
  have hl : xs.length = n := by rw [← hx, List.length_take, List.length_drop]; omega
  have h1 : (loadCells ⟨g, off, none⟩ xs.length).run P w = .ok xs.toArray w :=
    run_loadCells_list (P := P) w ⟨g, off, none⟩ xs (fun j v hv => by
      rw [addr_add, hb.cell]
      rw [← hx, List.getElem?_take] at hv
      split at hv
      · rw [List.getElem?_drop] at hv
        simpa using hv
      · cases hv)
  cases hq : P.info? ty with
  | none => simp [hq] at hi
  | some i =>
    have hs : i.size = n := by simpa [hq] using hi
    have hagg : (isAgg ty).run P w = .ok true w := by
      unfold isAgg
      rw [Sem.run_bind, run_underlying hu w]
      cases d <;> simp_all [isAggD]
    rw [hl] at h1
    simp [loadVar, Sem.run_bind, hagg, sizeOf, typeInfo, hq, hs, h1]

theorem wp_loada {P : Program} {ty : TypeId} {n : Nat} (hA : Agg P ty n) {op : Oper} {a : Act} {w : World} {K : Act → World → Prop} {Q : Exit → Act → World → Prop} (x : Operand) (ho : op.op = .load ty x)
    (g off : Nat) (hx : a.eval x = .pointer (some ⟨g, off, none⟩)) (t : TypeId) (cs xs : List Value) (hb : Blk w g t cs.toArray) (hxs : (cs.drop off).take n = xs) (hn : off + n ≤ cs.length)
    (h : K (a.put op.dst (.agg xs.toArray)) w) : op.wp P a w K Q := by
  unfold Oper.wp execOp
  simp only [ho, hx, Instr.loadAt, Instr.sureAddr, Sem.run_bind, Sem.run_pure, Result.andThen_ok, run_load_agg hA w g off t cs xs hb hxs hn]
  exact h

theorem wpl_loada {P : Program} {ty : TypeId} {n : Nat} (hA : Agg P ty n) {ops : Array Oper} {rest : List Oper} {op : Oper} {a : Act} {w : World} {Q : Exit → Act → World → Prop} (hgd : op.guard = none) (x : Operand) (ho : op.op = .load ty x)
    (g off : Nat) (hx : a.eval x = .pointer (some ⟨g, off, none⟩)) (t : TypeId) (cs xs : List Value) (hb : Blk w g t cs.toArray) (hxs : (cs.drop off).take n = xs) (hn : off + n ≤ cs.length)
    (h : wpList P ops Q rest (a.put op.dst (.agg xs.toArray)) w) : wpList P ops Q (op :: rest) a w :=
  wpList_plain hgd fun _ hK => wp_loada hA x ho g off hx t cs xs hb hxs hn (hK _ _ h)

theorem Frm.setRow (w : World) (g : Nat) (cs : Array Value) : Frm (fun k => k = g) w (w.setRow g cs) :=
  ⟨rfl, rfl, rfl, by simp [World.setRow], fun k _ hk => setRow_other w g k cs (fun e => hk e)⟩
theorem Blk.setRow {w : World} {g : Nat} {t : TypeId} {old : Array Value} (h : Blk w g t old) (cs : Array Value) : Blk (w.setRow g cs) g t cs := setRow_heap w g _ _ t _ h

theorem wpl_storea {P : Program} {ty : TypeId} {n : Nat} (hA : Agg P ty n) {ops : Array Oper} {rest : List Oper} {op : Oper} {a : Act} {w : World} {Q : Exit → Act → World → Prop} (hgd : op.guard = none) (x y : Operand) (ho : op.op = .store ty x y)
    (g : Nat) (cs : List Value) (hx : a.eval x = .pointer (some ⟨g, 0, none⟩)) (hy : a.eval y = .agg cs.toArray) (t : TypeId) (old : Array Value) (hb : Blk w g t old) (hn : cs.length = n) (hold : old.size = n) (h1 : ∀ v ∈ cs, v.oneCell' = true)
    (h : ∀ w', Blk w' g t cs.toArray → Frm (fun k => k = g) w w' → wpList P ops Q rest (a.put op.dst undef) w') : wpList P ops Q (op :: rest) a w := by
  refine wpList_store_row hgd ty x y ho g cs.toArray hx hy t old hb (by rw [hA.2]; simp [hn]) (by simp [hn, hold]) (Array.all_eq_true_iff_forall_mem.2 fun v hv => h1 v (by simpa using hv)) ?_
  exact h _ (hb.setRow _) (Frm.setRow _ _ _)

/-- A variable of its own, zero. -/
theorem wpl_alloca {P : Program} {ops : Array Oper} {rest : List Oper} {op : Oper} {a : Act} {w : World} {Q : Exit → Act → World → Prop} (hgd : op.guard = none) (t : TypeId) (ho : op.op = .alloc t)
    (cs : List Value) (hz : (P.info? t).map (fun i => i.zero) = some (some (.agg cs.toArray)))
    (h : ∀ g w', Blk w' g t cs.toArray → w.heap.size ≤ g → Frm (fun _ => False) w w' → wpList P ops Q rest (a.put op.dst (.pointer (some ⟨g, 0, none⟩))) w') : wpList P ops Q (op :: rest) a w := by
  refine wpList_plain hgd fun K hK => ?_
  have hzv : ∀ w, (zeroValue t).run P w = .ok (.agg cs.toArray) w := by
    intro w
    cases hq : P.info? t with
    | none => simp [hq] at hz
    | some i => simp [hq] at hz; simp [zeroValue, typeInfo, hq, hz]
  unfold Oper.wp execOp
  simp [ho, Instr.alloc, hzv, newVar, newRow, Value.cells, Oper.upon, Result.andThen]
  exact hK _ _ (h _ _ (Blk.new _ _ _) (Nat.le_refl _) (Frm.alloc _ _ _))

theorem end0 {P : Program} {fn : Func} {R : Ending → World → Prop} {a : Act} {w : World} (hr : fn.results = #[]) (hd : a.defers = []) (hR : R (.returned (.tuple #[])) w) : bodyPost P fn R .normal a w :=
  bodyPost_end (by simp [results, hr]) hd hR
/-- A result that lies in a variable. -/
theorem ret_agg {P : Program} {fn : Func} {p : Tmp} {ty : TypeId} {n : Nat} (hA : Agg P ty n) (hr : fn.results = #[.cell p ty]) {R : Ending → World → Prop} {a : Act} {w : World} (hd : a.defers = []) (g : Nat) (t : TypeId) (cs : List Value)
    (hp : a.tmps.getD p undef = .pointer (some ⟨g, 0, none⟩)) (hb : Blk w g t cs.toArray) (hn : cs.length = n) (hR : R (.returned (.agg cs.toArray)) w) : bodyPost P fn R .ret a w := by
  obtain ⟨⟨d, hu, hd'⟩, hi⟩ := hA
  exact bodyPost_ret (results_cell_row hr a.tmps w g t cs.toArray (0, 0) d hp hb hu (by revert hd'; cases d <;> simp [isAggD]) (by rw [hi]; simp [hn])) hd hR
/-- A slice of an array, up to its end. -/
theorem run_slice_arr {P : Program} {t e : TypeId} {N : Nat} (hu : P.underlying t = some (.array N e)) (hi : (P.info? e).map (·.size) = some 1) (g off : Nat) (k : IntKind) (i : Nat) (h : i < N) (w : World) :
    (Instr.sliceAt t (.pointer (some ⟨g, off, none⟩)) (some (.int k (i : Int))) none none).run P w = .ok (.slice (some ⟨g, off + i, none⟩) (N - i) (N - i)) w := by
  cases hq : P.info? e with
  | none => simp [hq] at hi
  | some d =>
    have hs : d.size = 1 := by simpa [hq] using hi
    have h2 : ¬ N = i := by omega
    simp [Instr.sliceAt, run_underlying hu, Instr.sureAddr, Instr.sliceBounds, Instr.sliceBound, asIntOf, sizeOf, typeInfo, hq, hs, h2, addr_add]
    intro h1
    omega
theorem run_slice_arr0 {P : Program} {t e : TypeId} {N : Nat} (hu : P.underlying t = some (.array N e)) (hi : (P.info? e).map (·.size) = some 1) (g off : Nat) (h : 0 < N) (w : World) :
    (Instr.sliceAt t (.pointer (some ⟨g, off, none⟩)) none none none).run P w = .ok (.slice (some ⟨g, off, none⟩) N N) w := by
  cases hq : P.info? e with
  | none => simp [hq] at hi
  | some d =>
    simp [Instr.sliceAt, run_underlying hu, Instr.sureAddr, Instr.sliceBounds, sizeOf, typeInfo, hq, Addr.add]
end Go.Proofs.YtjicnfkodieaaaaDoor
