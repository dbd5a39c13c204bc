/-
  Laws of the walk for whole arrays and structs, beside rows of numbers.
-/
import Derived.Test.YtdilfiojfjgejaaSq2
import Derived.Test.YtdilfiojfjgejaaNum
namespace Go.Proofs.Ytdilfiojfjgejaa
set_option linter.unusedVariables false
open Go.RowKit

theorem quiet_same {P : Program} {f : FuncId} {args : Array Value} {w : World} {n : Nat} {v : Value}
    (h : Calls P f args (w.drewN n) fun e w' => e = .returned v ∧ w.drewN n = w') : Calls P f args (w.drewN n) fun e w'' => e = .returned v ∧ ∃ m, w'' = w.drewN m :=
  h.mono fun _ _ ⟨he, hm⟩ => ⟨he, n, hm.symm⟩
theorem pow_cast (k : Nat) : ((2 ^ k : Nat) : Int) = 2 ^ k := by simp
/-- The cells of words. -/
def cellsW (l : List Nat) : List Value := l.map fun n : Nat => .int .u32 (n : Int)
theorem cellsW_length (l : List Nat) : (cellsW l).length = l.length := by simp [cellsW]
theorem cellsW_get (l : List Nat) (j : Nat) : (cellsW l)[j]? = (l[j]?).map fun n : Nat => .int .u32 (n : Int) := by simp [cellsW]
theorem cellsW_one (l : List Nat) : ∀ u ∈ cellsW l, u.oneCell' = true := by
  intro u hu
  obtain ⟨_, _, rfl⟩ := List.mem_map.1 hu
  rfl
theorem cellsW_at (l : List Nat) (j : Nat) (h : j < l.length) : (cellsW l)[j]? = some (.int .u32 ((l.getD j 0 : Nat) : Int)) := by
  rw [cellsW_get, List.getD_eq_getElem?_getD, List.getElem?_eq_getElem h]; rfl
def isAggD (d : TypeDesc) : Bool := match d with | .struct _ | .array _ _ => true | _ => false
/-- What a type must be to be loaded whole. -/
def Agg (P : Program) (ty : TypeId) (n : Nat) : Prop := (∃ d, P.underlying ty = some d ∧ isAggD d = true) ∧ (P.info? ty).map (·.size) = some n
theorem run_load_agg {P : Program} {ty : TypeId} {n : Nat} (hA : Agg P ty n) (w : World) (g off : Nat) (t : TypeId) (cs xs : List Value) (hb : Blk w g t cs.toArray) (hx : (cs.drop off).take n = xs) (hn : off + n ≤ cs.length) :
    (loadVar ty ⟨g, off, none⟩).run P w = .ok (.agg xs.toArray) w := by
  obtain ⟨⟨d, hu, hd⟩, hi⟩ := hA
  have hl : xs.length = n := by rw [← hx, List.length_take, List.length_drop]; omega
  have h1 : (loadCells ⟨g, off, none⟩ xs.length).run P w = .ok xs.toArray w :=
    run_loadCells_list (P := P) w ⟨g, off, none⟩ xs (fun j v hv => by
      rw [addr_add, hb.cell]
      rw [← hx, List.getElem?_take] at hv
      split at hv
      · rw [List.getElem?_drop] at hv
        simpa using hv
      · cases hv)
  cases hq : P.info? ty with
  | none => simp [hq] at hi
  | some i =>
    have hs : i.size = n := by simpa [hq] using hi
    have hagg : (isAgg ty).run P w = .ok true w := by
      unfold isAgg
      rw [Sem.run_bind, run_underlying hu w]
      cases d <;> simp_all [isAggD]
    rw [hl] at h1
    simp [loadVar, Sem.run_bind, hagg, sizeOf, typeInfo, hq, hs, h1]
theorem wp_loada {P : Program} {ty : TypeId} {n : Nat} (hA : Agg P ty n) {op : Oper} {a : Act} {w : World} {K : Act → World → Prop} {Q : Exit → Act → World → Prop} (x : Operand) (ho : op.op = .load ty x)
    (g off : Nat) (hx : a.eval x = .pointer (some ⟨g, off, none⟩)) (t : TypeId) (cs xs : List Value) (hb : Blk w g t cs.toArray) (hxs : (cs.drop off).take n = xs) (hn : off + n ≤ cs.length)
    (h : K (a.put op.dst (.agg xs.toArray)) w) : op.wp P a w K Q := by
  unfold Oper.wp execOp
  simp only [ho, hx, Instr.loadAt, Instr.sureAddr, Sem.run_bind, Sem.run_pure, Result.andThen_ok, run_load_agg hA w g off t cs xs hb hxs hn]
  exact h
theorem wpl_loada {P : Program} {ty : TypeId} {n : Nat} (hA : Agg P ty n) {ops : Array Oper} {rest : List Oper} {op : Oper} {a : Act} {w : World} {Q : Exit → Act → World → Prop} (hgd : op.guard = none) (x : Operand) (ho : op.op = .load ty x)
    (g off : Nat) (hx : a.eval x = .pointer (some ⟨g, off, none⟩)) (t : TypeId) (cs xs : List Value) (hb : Blk w g t cs.toArray) (hxs : (cs.drop off).take n = xs) (hn : off + n ≤ cs.length)
    (h : wpList P ops Q rest (a.put op.dst (.agg xs.toArray)) w) : wpList P ops Q (op :: rest) a w :=
  wpList_plain hgd fun _ hK => wp_loada hA x ho g off hx t cs xs hb hxs hn (hK _ _ h)
theorem wpl_storea {P : Program} {ty : TypeId} {n : Nat} (hA : Agg P ty n) {ops : Array Oper} {rest : List Oper} {op : Oper} {a : Act} {w : World} {Q : Exit → Act → World → Prop} (hgd : op.guard = none) (x y : Operand) (ho : op.op = .store ty x y)
    (g : Nat) (cs : List Value) (hx : a.eval x = .pointer (some ⟨g, 0, none⟩)) (hy : a.eval y = .agg cs.toArray) (t : TypeId) (old : Array Value) (hb : Blk w g t old) (hn : cs.length = n) (hold : old.size = n) (h1 : ∀ v ∈ cs, v.oneCell' = true)
    (h : ∀ w', Blk w' g t cs.toArray → Frm (fun k => k = g) w w' → wpList P ops Q rest (a.put op.dst undef) w') : wpList P ops Q (op :: rest) a w := by
  refine wpList_store_row hgd ty x y ho g cs.toArray hx hy t old hb (by rw [hA.2]; simp [hn]) (by simp [hn, hold]) (Array.all_eq_true_iff_forall_mem.2 fun v hv => h1 v (by simpa using hv)) ?_
  exact h _ (hb.setRow _) (Frm.setRow _ _ _)
/-- A variable of its own, zero. -/
theorem wpl_alloca {P : Program} {ops : Array Oper} {rest : List Oper} {op : Oper} {a : Act} {w : World} {Q : Exit → Act → World → Prop} (hgd : op.guard = none) (t : TypeId) (ho : op.op = .alloc t)
    (cs : List Value) (hz : (P.info? t).map (fun i => i.zero) = some (some (.agg cs.toArray)))
    (h : ∀ g w', Blk w' g t cs.toArray → w.heap.size ≤ g → Frm (fun _ => False) w w' → wpList P ops Q rest (a.put op.dst (.pointer (some ⟨g, 0, none⟩))) w') : wpList P ops Q (op :: rest) a w := by
  refine wpList_plain hgd fun K hK => ?_
  have hzv : ∀ w, (zeroValue t).run P w = .ok (.agg cs.toArray) w := by
    intro w
    cases hq : P.info? t with
    | none => simp [hq] at hz
    | some i => simp [hq] at hz; simp [zeroValue, typeInfo, hq, hz]
  unfold Oper.wp execOp
  simp [ho, Instr.alloc, hzv, newVar, newRow, Value.cells, Oper.upon, Result.andThen]
  exact hK _ _ (h _ _ (Blk.new _ _ _) (Nat.le_refl _) (Frm.alloc _ _ _))
theorem end0 {P : Program} {fn : Func} {R : Ending → World → Prop} {a : Act} {w : World} (hr : fn.results = #[]) (hd : a.defers = []) (hR : R (.returned (.tuple #[])) w) : bodyPost P fn R .normal a w :=
  bodyPost_end (by simp [results, hr]) hd hR
/-- A result that lies in a variable. -/
theorem ret_agg {P : Program} {fn : Func} {p : Tmp} {ty : TypeId} {n : Nat} (hA : Agg P ty n) (hr : fn.results = #[.cell p ty]) {R : Ending → World → Prop} {a : Act} {w : World} (hd : a.defers = []) (g : Nat) (t : TypeId) (cs : List Value)
    (hp : a.tmps.getD p undef = .pointer (some ⟨g, 0, none⟩)) (hb : Blk w g t cs.toArray) (hn : cs.length = n) (hR : R (.returned (.agg cs.toArray)) w) : bodyPost P fn R .ret a w := by
  obtain ⟨⟨d, hu, hd'⟩, hi⟩ := hA
  exact bodyPost_ret (results_cell_row hr a.tmps w g t cs.toArray (0, 0) d hp hb hu (by revert hd'; cases d <;> simp [isAggD]) (by rw [hi]; simp [hn])) hd hR
theorem Agg.of {P : Program} {ty : TypeId} {n : Nat} (h : (P.underlying ty).map isAggD = some true) (hi : (P.info? ty).map (·.size) = some n) : Agg P ty n := by
  refine ⟨?_, hi⟩
  cases hq : P.underlying ty with
  | none => rw [hq] at h; cases h
  | some d => rw [hq] at h; exact ⟨d, rfl, by simpa using h⟩
theorem splice_cons {α : Type} (x : α) (l : List α) (off : Nat) (cs : List α) : splice (x :: l) (off + 1) cs = x :: splice l off cs := by
  simp [splice, Nat.add_right_comm off 1]
/-- The first k are new. -/
def mix {α : Type} (new old : List α) (k : Nat) : List α := new.take k ++ old.drop k
theorem mix_length {α : Type} (new old : List α) (k : Nat) (h : new.length = old.length) : (mix new old k).length = old.length := by simp [mix, h]; omega
theorem mix_at {α : Type} (new old : List α) (k : Nat) (h : new.length = old.length) (hk : k < old.length) : (mix new old k)[k]? = old[k]? := by
  rw [mix, List.getElem?_append_right (by simp; omega), List.length_take, List.getElem?_drop]
  congr 1
  omega
theorem mix_set {α : Type} (new old : List α) (k : Nat) (x : α) (h : new.length = old.length) (hk : k < old.length) (hx : new[k]? = some x) : (mix new old k).set k x = mix new old (k + 1) := by
  rw [mix, mix, List.set_append_right _ _ (by simp; omega), List.length_take, Nat.min_eq_left (by omega), Nat.sub_self, List.drop_eq_getElem_cons (by omega), List.set_cons_zero, List.take_add_one, hx]
  simp
theorem mix_zero {α : Type} (new old : List α) : mix new old 0 = old := by simp [mix]
theorem mix_all {α : Type} (new old : List α) (k : Nat) (h : new.length = old.length) (hk : old.length ≤ k) : mix new old k = new := by
  rw [mix, List.take_of_length_le (by omega), List.drop_eq_nil_of_le hk, List.append_nil]
theorem cellsW_set (l : List Nat) (k x : Nat) : (cellsW l).set k (.int .u32 (x : Int)) = cellsW (l.set k x) := by simp [cellsW, List.map_set]
theorem mix_low {α : Type} (new old : List α) (k j : Nat) (h : new.length = old.length) (hj : j < k) (hk : j < old.length) : (mix new old k)[j]? = new[j]? := by
  rw [mix, List.getElem?_append_left (by simp; omega), List.getElem?_take, if_pos hj]
/-- An element of an array that is a value. -/
theorem run_index_agg {P : Program} {t e : TypeId} {N : Nat} {ik : IntKind} (hu : P.underlying t = some (.array N e)) (he : P.underlying e = some (.int ik)) (hi : (P.info? e).map (·.size) = some 1) (cs : List Value) (k : Nat) (v : Value) (hk : k < N) (hv : cs[k]? = some v) (w : World) :
    (Instr.index t (.agg cs.toArray) (.int .i64 (k : Int))).run P w = .ok v w := by
  cases hq : P.info? e with
  | none => simp [hq] at hi
  | some d =>
    have hs : d.size = 1 := by simpa [hq] using hi
    simp [Instr.index, asIntOf, run_underlying hu, hk, part, isAgg, run_underlying he, sizeOf, typeInfo, hq, hs, hv]
theorem step_storea {P : Program} {ty : TypeId} {n : Nat} (hA : Agg P ty n) {ops : Array Oper} {op : Oper} {a : Act} {w : World} {K : Act → World → Prop} {Q : Exit → Act → World → Prop} {E : Prop} (hgd : op.guard = none) (x y : Operand) (ho : op.op = .store ty x y)
    (g : Nat) (cs : List Value) (hx : a.eval x = .pointer (some ⟨g, 0, none⟩)) (hy : a.eval y = .agg cs.toArray) (t : TypeId) (old : Array Value) (hb : Blk w g t old) (hn : cs.length = n) (hold : old.size = n) (h1 : ∀ v ∈ cs, v.oneCell' = true)
    (h : ∀ w', Blk w' g t cs.toArray → Frm (fun k => k = g) w w' → K (a.put op.dst undef) w') : if Region.wanted op (yielded ops a.tmps) = true then Oper.wp P op a w K Q else E := by
  have hw : Region.wanted op (yielded ops a.tmps) = true := by simp [Region.wanted, hgd]
  rw [if_pos hw]
  exact wp_store_row ty x y ho g cs.toArray hx hy t old hb (by rw [hA.2]; simp [hn]) (by simp [hn, hold]) (Array.all_eq_true_iff_forall_mem.2 fun v hv => h1 v (by simpa using hv)) (h _ (hb.setRow _) (Frm.setRow _ _ _))
end Go.Proofs.Ytdilfiojfjgejaa
