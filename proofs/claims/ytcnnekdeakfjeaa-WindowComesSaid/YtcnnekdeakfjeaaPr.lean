/-
  Rows of pairs of words: slices whose elements are structs of two uint64. Laws of the walk: made, appended to, read. They speak of no function of the program.
-/
import Derived.Test.YtcnnekdeakfjeaaSq
namespace Go.Proofs.Ytcnnekdeakfjeaa
set_option linter.unusedVariables false
open Go.RowKit

/-- The cells of pairs of words. -/
def cellsP : List (Nat × Nat) → List Value
  | [] => []
  | p :: l => .int .u64 (p.1 : Int) :: .int .u64 (p.2 : Int) :: cellsP l
theorem cellsP_length : ∀ l, (cellsP l).length = l.length * 2
  | [] => rfl
  | p :: l => by simp [cellsP, cellsP_length l]; omega
theorem cellsP_append : ∀ l m, cellsP (l ++ m) = cellsP l ++ cellsP m
  | [], m => rfl
  | p :: l, m => by simp [cellsP, cellsP_append l m]
theorem cellsP_one : ∀ l, ∀ u ∈ cellsP l, u.oneCell' = true
  | [], u, h => by cases h
  | p :: l, u, h => by
    rcases List.mem_cons.1 h with rfl | h
    · rfl
    · rcases List.mem_cons.1 h with rfl | h
      · rfl
      · exact cellsP_one l u h
theorem cellsP_lo : ∀ (l : List (Nat × Nat)) (j : Nat), j < l.length → (cellsP l)[j * 2]? = some (.int .u64 ((l.getD j (0, 0)).1 : Int))
  | [], j, h => by simp at h
  | p :: l, 0, h => rfl
  | p :: l, j + 1, h => by
    have := cellsP_lo l j (by simpa using h)
    rw [show (j + 1) * 2 = j * 2 + 1 + 1 by omega]
    simpa [cellsP] using this
theorem cellsP_hi : ∀ (l : List (Nat × Nat)) (j : Nat), j < l.length → (cellsP l)[j * 2 + 1]? = some (.int .u64 ((l.getD j (0, 0)).2 : Int))
  | [], j, h => by simp at h
  | p :: l, 0, h => rfl
  | p :: l, j + 1, h => by
    have := cellsP_hi l j (by simpa using h)
    rw [show (j + 1) * 2 + 1 = j * 2 + 1 + 1 + 1 by omega]
    simpa [cellsP] using this

/-- What the element type must be: two cells. -/
structure Two (P : Program) (t e : TypeId) (z : Value) (bytes : Nat) : Prop where
  slice : P.underlying t = some (.slice e)
  info : ∃ i, P.info? e = some i ∧ i.zero = some z ∧ i.size = 2 ∧ i.bytes = bytes
  cell : z.cells.size = 2
theorem Two.of {P : Program} {t e : TypeId} {z : Value} {bytes : Nat} (h : P.underlying t = some (.slice e)) (hi : (P.info? e).map (fun i => (i.zero, i.size, i.bytes)) = some (some z, 2, bytes)) (hz : z.cells.size = 2) : Two P t e z bytes :=
  ⟨h, by
    cases hq : P.info? e with
    | none => simp [hq] at hi
    | some i => simp [hq] at hi; exact ⟨i, rfl, hi⟩, hz⟩

/-- A row of pairs of one's own. -/
def POwn (w : World) (B : Nat) (e : TypeId) (A : Option Addr) (n c : Nat) (l : List (Nat × Nat)) : Prop := w.ownsRow B e 2 (.slice A n c) n (cellsP l)

section
variable {w w' : World} {B n c : Nat} {e : TypeId} {A : Option Addr} {l : List (Nat × Nat)}
theorem POwn.len (h : POwn w B e A n c l) : l.length = n := by have := h.1; rw [cellsP_length] at this; omega
theorem POwn.block (h : POwn w B e A n c l) : (A = none ∧ n = 0 ∧ c = 0) ∨ ∃ g cur, A = some ⟨g, 0, none⟩ ∧ B ≤ g ∧ w.heap[g]? = some (.cells cur e (0, 0)) ∧ n ≤ c ∧ c ≤ maxLen ∧ cur.size = c * 2 ∧ cur.toList.take (n * 2) = cellsP l := by
  rcases h.2 with ⟨hv, h0⟩ | ⟨g, cap, cur, hv, hb, hg, h1, h2, h3, h4⟩
  · injection hv with h1 h2 h3
    exact .inl ⟨h1, h0, h3⟩
  · injection hv with hA _ hc
    subst hA hc
    exact .inr ⟨g, cur, rfl, hb, hg, h1, h2, h3, h4⟩
theorem POwn.frm {S : Nat → Prop} (h : POwn w B e A n c l) (f : Frm S w w') (hS : ∀ k, (Value.slice A n c).ownBlock = some k → ¬ S k) : POwn w' B e A n c l := by
  refine ⟨h.1, ?_⟩
  rcases h.2 with h0 | ⟨g', cap, cur, hv, hbs, hg, hr⟩
  · exact .inl h0
  · exact .inr ⟨g', cap, cur, hv, hbs, Blk.frm (t := e) hg f (hS g' (by rw [hv]; rfl)), hr⟩
theorem POwn.ge (h : POwn w B e A n c l) : ∀ k, (Value.slice A n c).ownBlock = some k → B ≤ k ∧ k < w.heap.size := by
  intro k hk
  rcases h.block with ⟨rfl, _⟩ | ⟨g, cur, rfl, hb, hg, _⟩
  · cases hk
  · have : g = k := by simpa [Value.ownBlock] using hk
    subst this
    exact ⟨hb, (Array.getElem?_eq_some_iff.1 hg).1⟩
theorem POwn.ne {g : Nat} {t : TypeId} {cs : Array Value} (h : POwn w B e A n c l) (hb : Blk w g t cs) (hne : e ≠ t) : (Value.slice A n c).ownBlock ≠ some g := by
  rcases h.block with ⟨rfl, _⟩ | ⟨g', cur, rfl, _, hg, _⟩
  · intro h; cases h
  · intro h
    have : g' = g := by simpa [Value.ownBlock] using h
    exact Blk.ne (t := e) hg hb hne this
theorem POwn.below (h : POwn w B e A n c l) (hb : Below w.heap.size w w') : POwn w' B e A n c l :=
  h.frm (Frm.of_below (S := fun _ => False) hb) (fun _ _ h => h)
theorem POwn.base {B' : Nat} (h : POwn w B e A n c l) (hB : B' ≤ B) : POwn w B' e A n c l := by
  refine ⟨h.1, ?_⟩
  rcases h.2 with h0 | ⟨g', cap, cur, hv, hbs, hr⟩
  · exact .inl h0
  · exact .inr ⟨g', cap, cur, hv, Nat.le_trans hB hbs, hr⟩
/-- Its cells, one by one. -/
theorem POwn.cells (h : POwn w B e A n c l) (hn : 0 < n) : ∃ g, A = some ⟨g, 0, none⟩ ∧ B ≤ g ∧ g < w.heap.size ∧ ∀ j, j < n → w.cell? ⟨g, j * 2, none⟩ = some (.int .u64 ((l.getD j (0, 0)).1 : Int)) ∧ w.cell? ⟨g, j * 2 + 1, none⟩ = some (.int .u64 ((l.getD j (0, 0)).2 : Int)) := by
  have hl := h.len
  rcases h.block with ⟨rfl, h0, _⟩ | ⟨g, cur, rfl, hb, hg, h1, h2, h3, h4⟩
  · omega
  · have hB : Blk w g e cur := hg
    refine ⟨g, rfl, hb, hB.lt, fun j hj => ⟨?_, ?_⟩⟩
    · rw [hB.cell, ← cellsP_lo l j (by omega), ← h4, List.getElem?_take, if_pos (by omega)]
      simp
    · rw [hB.cell, ← cellsP_hi l j (by omega), ← h4, List.getElem?_take, if_pos (by omega)]
      simp
end

section
variable {P : Program} {t e : TypeId} {z : Value} {bytes : Nat}
/-- Made with room. -/
theorem wpl_makeP (o : Two P t e z bytes) {ops : Array Oper} {rest : List Oper} {op : Oper} {a : Act} {w : World} {Q : Exit → Act → World → Prop} (hgd : op.guard = none) (x y : Operand) (ho : op.op = .makeSlice t x y)
    (C : Int) (c : Nat) (hx : a.eval x = .int .i64 0) (hy : a.eval y = .int .i64 C) (hC : C = (c : Int)) (hc : c ≤ 1000000) (hb : bytes ≤ 64)
    (h : ∀ A w', POwn w' w.heap.size e A 0 c [] → Frm (fun _ => False) w w' → wpList P ops Q rest (a.put op.dst (.slice A 0 c)) w') : wpList P ops Q (op :: rest) a w := by
  subst hC
  refine wpList_plain hgd fun K hK => ?_
  obtain ⟨i, hq, hz, hs, hby⟩ := o.info
  have h1 : (i.bytes : Int) * (c : Int) ≤ 281474976710656 := by
    rw [hby]
    have : bytes * c ≤ 64 * 1000000 := Nat.mul_le_mul hb hc
    have e : ((bytes : Int) * (c : Int)) = ((bytes * c : Nat) : Int) := (Int.natCast_mul _ _).symm
    rw [e]
    omega
  have hr := run_make (P := P) w t e i z o.slice hq hz .i64 .i64 0 (c : Int) (by omega) (by omega) h1 (by omega)
  rw [hs] at hr
  simp only [Int.toNat_natCast, Int.toNat_zero] at hr
  have hown := World.ownsRow_made (base := w.heap.size) (e := e) (size := 2) w (madeCells z.cells (c * 2)) c (Nat.le_refl _) (by simp only [maxLen]; omega) (by simp [madeCells])
  unfold Oper.wp execOp
  simp [ho, hx, hy, hr, Oper.upon, Result.andThen]
  exact hK _ _ (h _ _ hown (Frm.alloc _ _ _))

/-- append of one pair that was made just now. -/
theorem run_appP (o : Two P t e z bytes) (ty : TypeId) (w : World) (base : Nat) (A : Option Addr) (n c : Nat) (l : List (Nat × Nat)) (hown : POwn w base e A n c l)
    (g : Nat) (p : Nat × Nat) (hg : Blk w g e #[.int .u64 (p.1 : Int), .int .u64 (p.2 : Int)]) (hby : bytes ≤ 64) (hsm : n ≤ 1000000) (hb : base ≤ w.heap.size) :
    ∃ A' c' w', (Builtin.append_ #[t, t] ty #[.slice A n c, .slice (some ⟨g, 0, none⟩) 1 1]).run P w = .ok (.slice A' (n + 1) c') w' ∧ POwn w' base e A' (n + 1) c' (l ++ [p]) ∧ Frm (fun k => some k = (Value.slice A n c).ownBlock) w w' := by
  obtain ⟨i, hi, hz, hs, hbb⟩ := o.info
  have h2 : (n + 1) * bytes ≤ 1000001 * 64 := Nat.mul_le_mul (by omega) hby
  obtain ⟨v', w', h2, h3, h4, _, h5⟩ := run_append_own_at (P := P) w base t ty e i z 2 bytes o.slice hi hz hs hbb o.cell (by omega) (.slice A n c) n (cellsP l) hown ⟨g, 0, none⟩ 1 1 (cellsP [p]) (by simp [cellsP]) (fun j u hu => by
    rw [addr_add, hg.cell]
    simpa [cellsP] using hu) (cellsP_one _) (by simp only [maxLen]; omega) (by omega) hb
  have hf : ∃ A' c', v' = .slice A' (n + 1) c' := by
    rcases h3.2 with ⟨rfl, h0⟩ | ⟨g, cap, cur, rfl, _⟩
    · omega
    · exact ⟨_, _, rfl⟩
  obtain ⟨A', c', rfl⟩ := hf
  refine ⟨A', c', w', h2, ?_, Frm.of_grown h4⟩
  rw [← cellsP_append] at h3
  exact h3
theorem wpl_appP (o : Two P t e z bytes) {ops : Array Oper} {rest : List Oper} {op : Oper} {a : Act} {Q : Exit → Act → World → Prop} (hgd : op.guard = none) (s x : Operand)
    (ho : op.op = .call { callee := .builtin .append, args := #[s, x], argTypes := #[t, t] }) (w : World) (base : Nat) (A : Option Addr) (n c : Nat) (l : List (Nat × Nat)) (hs : a.eval s = .slice A n c) (hown : POwn w base e A n c l)
    (g : Nat) (p : Nat × Nat) (hx : a.eval x = .slice (some ⟨g, 0, none⟩) 1 1) (hg : Blk w g e #[.int .u64 (p.1 : Int), .int .u64 (p.2 : Int)]) (hby : bytes ≤ 64) (nm : Nat) (hnm : nm = n + 1) (hsm : n ≤ 1000000) (hb : base ≤ w.heap.size)
    (h : ∀ A' c' w', POwn w' base e A' nm c' (l ++ [p]) → Frm (fun k => some k = (Value.slice A n c).ownBlock) w w' → wpList P ops Q rest (a.put op.dst (.slice A' nm c')) w') : wpList P ops Q (op :: rest) a w := by
  subst hnm
  obtain ⟨A', c', w', hrun, h2, h3⟩ := run_appP o op.type w base A n c l hown g p hg hby hsm hb
  refine wpList_plain hgd fun _ hK => ?_
  unfold Oper.wp execOp
  simp only [ho, resolve, invoke, builtin, Sem.run_bind, Sem.run_pure, Result.andThen_ok, List.map_toArray, List.map_cons, List.map_nil, hs, hx, hrun]
  exact hK _ _ (h A' c' w' h2 h3)
theorem step_appP (o : Two P t e z bytes) {ops : Array Oper} {op : Oper} {a : Act} {K : Act → World → Prop} {Q : Exit → Act → World → Prop} {E : Prop} (hgd : op.guard = none) (s x : Operand)
    (ho : op.op = .call { callee := .builtin .append, args := #[s, x], argTypes := #[t, t] }) (w : World) (base : Nat) (A : Option Addr) (n c : Nat) (l : List (Nat × Nat)) (hs : a.eval s = .slice A n c) (hown : POwn w base e A n c l)
    (g : Nat) (p : Nat × Nat) (hx : a.eval x = .slice (some ⟨g, 0, none⟩) 1 1) (hg : Blk w g e #[.int .u64 (p.1 : Int), .int .u64 (p.2 : Int)]) (hby : bytes ≤ 64) (nm : Nat) (hnm : nm = n + 1) (hsm : n ≤ 1000000) (hb : base ≤ w.heap.size)
    (h : ∀ A' c' w', POwn w' base e A' nm c' (l ++ [p]) → Frm (fun k => some k = (Value.slice A n c).ownBlock) w w' → K (a.put op.dst (.slice A' nm c')) w') : if Region.wanted op (yielded ops a.tmps) = true then Oper.wp P op a w K Q else E := by
  subst hnm
  have hw : Region.wanted op (yielded ops a.tmps) = true := by simp [Region.wanted, hgd]
  rw [if_pos hw]
  obtain ⟨A', c', w', hrun, h2, h3⟩ := run_appP o op.type w base A n c l hown g p hg hby hsm hb
  unfold Oper.wp execOp
  simp only [ho, resolve, invoke, builtin, Sem.run_bind, Sem.run_pure, Result.andThen_ok, List.map_toArray, List.map_cons, List.map_nil, hs, hx, hrun]
  exact h A' c' w' h2 h3
end

/-! Whole structs and arrays, as values of results. -/
def isAggD (d : TypeDesc) : Bool := match d with | .struct _ | .array _ _ => true | _ => false
/-- What a type must be to be loaded whole. -/
def Agg (P : Program) (ty : TypeId) (n : Nat) : Prop := (∃ d, P.underlying ty = some d ∧ isAggD d = true) ∧ (P.info? ty).map (·.size) = some n
theorem Agg.of {P : Program} {ty : TypeId} {n : Nat} (h : (P.underlying ty).map isAggD = some true) (hi : (P.info? ty).map (·.size) = some n) : Agg P ty n := by
  refine ⟨?_, hi⟩
  cases hq : P.underlying ty with
  | none => rw [hq] at h; cases h
  | some d => rw [hq] at h; exact ⟨d, rfl, by simpa using h⟩
/-- A result that lies in a variable. -/
theorem ret_agg {P : Program} {fn : Func} {p : Tmp} {ty : TypeId} {n : Nat} (hA : Agg P ty n) (hr : fn.results = #[.cell p ty]) {R : Ending → World → Prop} {a : Act} {w : World} (hd : a.defers = []) (g : Nat) (t : TypeId) (cs : List Value)
    (hp : a.tmps.getD p undef = .pointer (some ⟨g, 0, none⟩)) (hb : Blk w g t cs.toArray) (hn : cs.length = n) (hR : R (.returned (.agg cs.toArray)) w) : bodyPost P fn R .ret a w := by
  obtain ⟨⟨d, hu, hd'⟩, hi⟩ := hA
  exact bodyPost_ret (results_cell_row hr a.tmps w g t cs.toArray (0, 0) d hp hb hu (by revert hd'; cases d <;> simp [isAggD]) (by rw [hi]; simp [hn])) hd hR
theorem run_load_agg {P : Program} {ty : TypeId} {n : Nat} (hA : Agg P ty n) (w : World) (g off : Nat) (t : TypeId) (cs xs : List Value) (hb : Blk w g t cs.toArray) (hx : (cs.drop off).take n = xs) (hn : off + n ≤ cs.length) :
    (loadVar ty ⟨g, off, none⟩).run P w = .ok (.agg xs.toArray) w := by
  obtain ⟨⟨d, hu, hd⟩, hi⟩ := hA
  have hl : xs.length = n := by rw [← hx, List.length_take, List.length_drop]; omega
  have h1 : (loadCells ⟨g, off, none⟩ xs.length).run P w = .ok xs.toArray w :=
    run_loadCells_list (P := P) w ⟨g, off, none⟩ xs (fun j v hv => by
      rw [addr_add, hb.cell]
      rw [← hx, List.getElem?_take] at hv
      split at hv
      · rw [List.getElem?_drop] at hv
        simpa using hv
      · cases hv)
  cases hq : P.info? ty with
  | none => simp [hq] at hi
  | some i =>
    have hs : i.size = n := by simpa [hq] using hi
    have hagg : (isAgg ty).run P w = .ok true w := by
      unfold isAgg
      rw [Sem.run_bind, run_underlying hu w]
      cases d <;> simp_all [isAggD]
    rw [hl] at h1
    simp [loadVar, Sem.run_bind, hagg, sizeOf, typeInfo, hq, hs, h1]
theorem wp_loada {P : Program} {ty : TypeId} {n : Nat} (hA : Agg P ty n) {op : Oper} {a : Act} {w : World} {K : Act → World → Prop} {Q : Exit → Act → World → Prop} (x : Operand) (ho : op.op = .load ty x)
    (g off : Nat) (hx : a.eval x = .pointer (some ⟨g, off, none⟩)) (t : TypeId) (cs xs : List Value) (hb : Blk w g t cs.toArray) (hxs : (cs.drop off).take n = xs) (hn : off + n ≤ cs.length)
    (h : K (a.put op.dst (.agg xs.toArray)) w) : op.wp P a w K Q := by
  unfold Oper.wp execOp
  simp only [ho, hx, Instr.loadAt, Instr.sureAddr, Sem.run_bind, Sem.run_pure, Result.andThen_ok, run_load_agg hA w g off t cs xs hb hxs hn]
  exact h
theorem wpl_loada {P : Program} {ty : TypeId} {n : Nat} (hA : Agg P ty n) {ops : Array Oper} {rest : List Oper} {op : Oper} {a : Act} {w : World} {Q : Exit → Act → World → Prop} (hgd : op.guard = none) (x : Operand) (ho : op.op = .load ty x)
    (g off : Nat) (hx : a.eval x = .pointer (some ⟨g, off, none⟩)) (t : TypeId) (cs xs : List Value) (hb : Blk w g t cs.toArray) (hxs : (cs.drop off).take n = xs) (hn : off + n ≤ cs.length)
    (h : wpList P ops Q rest (a.put op.dst (.agg xs.toArray)) w) : wpList P ops Q (op :: rest) a w :=
  wpList_plain hgd fun _ hK => wp_loada hA x ho g off hx t cs xs hb hxs hn (hK _ _ h)
theorem wpl_storea {P : Program} {ty : TypeId} {n : Nat} (hA : Agg P ty n) {ops : Array Oper} {rest : List Oper} {op : Oper} {a : Act} {w : World} {Q : Exit → Act → World → Prop} (hgd : op.guard = none) (x y : Operand) (ho : op.op = .store ty x y)
    (g : Nat) (cs : List Value) (hx : a.eval x = .pointer (some ⟨g, 0, none⟩)) (hy : a.eval y = .agg cs.toArray) (t : TypeId) (old : Array Value) (hb : Blk w g t old) (hn : cs.length = n) (hold : old.size = n) (h1 : ∀ v ∈ cs, v.oneCell' = true)
    (h : ∀ w', Blk w' g t cs.toArray → Frm (fun k => k = g) w w' → wpList P ops Q rest (a.put op.dst undef) w') : wpList P ops Q (op :: rest) a w := by
  refine wpList_store_row hgd ty x y ho g cs.toArray hx hy t old hb (by rw [hA.2]; simp [hn]) (by simp [hn, hold]) (Array.all_eq_true_iff_forall_mem.2 fun v hv => h1 v (by simpa using hv)) ?_
  exact h _ (hb.setRow _) (Frm.setRow _ _ _)
theorem step_storea {P : Program} {ty : TypeId} {n : Nat} (hA : Agg P ty n) {ops : Array Oper} {op : Oper} {a : Act} {w : World} {K : Act → World → Prop} {Q : Exit → Act → World → Prop} {E : Prop} (hgd : op.guard = none) (x y : Operand) (ho : op.op = .store ty x y)
    (g : Nat) (cs : List Value) (hx : a.eval x = .pointer (some ⟨g, 0, none⟩)) (hy : a.eval y = .agg cs.toArray) (t : TypeId) (old : Array Value) (hb : Blk w g t old) (hn : cs.length = n) (hold : old.size = n) (h1 : ∀ v ∈ cs, v.oneCell' = true)
    (h : ∀ w', Blk w' g t cs.toArray → Frm (fun k => k = g) w w' → K (a.put op.dst undef) w') : if Region.wanted op (yielded ops a.tmps) = true then Oper.wp P op a w K Q else E := by
  have hw : Region.wanted op (yielded ops a.tmps) = true := by simp [Region.wanted, hgd]
  rw [if_pos hw]
  exact wp_store_row ty x y ho g cs.toArray hx hy t old hb (by rw [hA.2]; simp [hn]) (by simp [hn, hold]) (Array.all_eq_true_iff_forall_mem.2 fun v hv => h1 v (by simpa using hv)) (h _ (hb.setRow _) (Frm.setRow _ _ _))
end Go.Proofs.Ytcnnekdeakfjeaa
