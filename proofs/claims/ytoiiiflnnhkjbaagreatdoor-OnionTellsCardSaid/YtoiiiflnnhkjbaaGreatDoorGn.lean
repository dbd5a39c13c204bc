/-
  Laws of the walk that speak of no function of the program: whole arrays, rows, copies, cuts, texts.
-/
import Derived.Test.YtoiiiflnnhkjbaaGreatDoorMem
import Derived.Test.YtoiiiflnnhkjbaaGreatDoorNum
import Derived.Test.YtoiiiflnnhkjbaaGreatDoorLaws
import Derived.Deep.QuietTactic
import Derived.BigQuiet
import Derived.Laws.BitsAllLaws
import Derived.IntWalk
import Derived.Laws.CopyOwn
import Derived.Deep.WholeRow
import Derived.StillTailTactics
namespace Go.Proofs.YtoiiiflnnhkjbaaGreatDoor
set_option linter.unusedVariables false
open Go.RowKit

theorem info_u8 : (Tryz.prog.info? 5).map (fun i => (i.zero, i.size, i.bytes)) = some (some (.int .u8 0), 1, 1) := by kernel_rfl
theorem one_u8 : One Tryz.prog 46 5 (.int .u8 0) 1 := One.of Tryz.underlying46 info_u8 rfl
/-- x turned right by k. -/
def rotN (x k : Nat) : Nat := (x * 2 ^ (32 - k) % 4294967296) ||| (x / 2 ^ k)
theorem or_lt32 {a b : Nat} (ha : a < 4294967296) (hb : b < 4294967296) : a ||| b < 4294967296 := Nat.or_lt_two_pow (n := 32) ha hb
theorem xor_lt32 {a b : Nat} (ha : a < 4294967296) (hb : b < 4294967296) : a ^^^ b < 4294967296 := Nat.xor_lt_two_pow (n := 32) ha hb
theorem and_lt32 {a b : Nat} (ha : a < 4294967296) : a &&& b < 4294967296 := Nat.lt_of_le_of_lt Nat.and_le_left ha
theorem div_lt32 {a : Nat} (k : Nat) (ha : a < 4294967296) : a / 2 ^ k < 4294967296 := Nat.lt_of_le_of_lt (Nat.div_le_self _ _) ha
theorem rotN_lt {x k : Nat} (hx : x < 4294967296) : rotN x k < 4294967296 := or_lt32 (Nat.mod_lt _ (by decide)) (div_lt32 k hx)
theorem quiet_same {P : Program} {f : FuncId} {args : Array Value} {w : World} {n : Nat} {v : Value}
    (h : Calls P f args (w.drewN n) fun e w' => e = .returned v ∧ w.drewN n = w') : Calls P f args (w.drewN n) fun e w'' => e = .returned v ∧ ∃ m, w'' = w.drewN m :=
  h.mono fun _ _ ⟨he, hm⟩ => ⟨he, n, hm.symm⟩
theorem pow_cast (k : Nat) : ((2 ^ k : Nat) : Int) = 2 ^ k := by simp
theorem rot_eq (x k : Nat) (hx : x < 4294967296) : bits .or .u32 ((x : Int) * 2 ^ (32 - k) % 4294967296) ((x : Int) / 2 ^ k) = (rotN x k : Nat) := by
  have := u32_or_nat (x * 2 ^ (32 - k) % 4294967296) (x / 2 ^ k) (Nat.mod_lt _ (by decide)) (div_lt32 k hx)
  rw [Int.natCast_emod, Int.natCast_mul, pow_cast, Int.natCast_ediv, pow_cast] at this
  exact this
def ad (a b : Nat) : Nat := (a + b) % 4294967296
theorem ad_lt (a b : Nat) : ad a b < 4294967296 := Nat.mod_lt _ (by decide)
theorem ad_int (a b : Nat) : ((a : Int) + b) % 4294967296 = (ad a b : Nat) := by unfold ad; omega
/-- Words of 32 bits. -/
def Ws (l : List Nat) : Prop := ∀ x ∈ l, x < 4294967296
theorem Ws.get {l : List Nat} (h : Ws l) (i : Nat) : l.getD i 0 < 4294967296 := by
  rw [List.getD_eq_getElem?_getD]
  rcases hx : l[i]? with _ | x
  · simp
  · exact h x (List.mem_of_getElem? hx)
theorem Ws.append {l m : List Nat} (h : Ws l) (k : Ws m) : Ws (l ++ m) := fun x hx => (List.mem_append.1 hx).elim (h x) (k x)
/-- The cells of words. -/
def cellsW (l : List Nat) : List Value := l.map fun n : Nat => .int .u32 (n : Int)
theorem cellsW_length (l : List Nat) : (cellsW l).length = l.length := by simp [cellsW]
theorem cellsW_get (l : List Nat) (j : Nat) : (cellsW l)[j]? = (l[j]?).map fun n : Nat => .int .u32 (n : Int) := by simp [cellsW]
theorem cellsW_append (l m : List Nat) : cellsW (l ++ m) = cellsW l ++ cellsW m := by simp [cellsW]
theorem cellsW_one (l : List Nat) : ∀ u ∈ cellsW l, u.oneCell' = true := by
  intro u hu
  obtain ⟨_, _, rfl⟩ := List.mem_map.1 hu
  rfl
theorem cellsW_at (l : List Nat) (j : Nat) (h : j < l.length) : (cellsW l)[j]? = some (.int .u32 ((l.getD j 0 : Nat) : Int)) := by
  rw [cellsW_get, List.getD_eq_getElem?_getD, List.getElem?_eq_getElem h]; rfl
/-- What is added to H by the blocks. -/
def plus (l m : List Nat) : List Nat := List.zipWith ad l m
theorem plus_length (l m : List Nat) (h : l.length = m.length) : (plus l m).length = l.length := by simp [plus, h]
theorem plus_ws (l m : List Nat) : Ws (plus l m) := by
  induction l generalizing m with
  | nil => intro x hx; cases hx
  | cons a l ih =>
    cases m with
    | nil => intro x hx; cases hx
    | cons b m =>
      intro x hx
      rcases List.mem_cons.1 hx with rfl | hx
      · exact ad_lt _ _
      · exact ih m x hx
theorem addr_add (g off j : Nat) : (⟨g, off, none⟩ : Addr).add j = ⟨g, off + j, none⟩ := by unfold Addr.add; split <;> simp_all
def isAggD (d : TypeDesc) : Bool := match d with | .struct _ | .array _ _ => true | _ => false
/-- What a type must be to be loaded whole. -/
def Agg (P : Program) (ty : TypeId) (n : Nat) : Prop := (∃ d, P.underlying ty = some d ∧ isAggD d = true) ∧ (P.info? ty).map (·.size) = some n
theorem run_load_agg {P : Program} {ty : TypeId} {n : Nat} (hA : Agg P ty n) (w : World) (g off : Nat) (t : TypeId) (cs xs : List Value) (hb : Blk w g t cs.toArray) (hx : (cs.drop off).take n = xs) (hn : off + n ≤ cs.length) :
    (loadVar ty ⟨g, off, none⟩).run P w = .ok (.agg xs.toArray) w := by
  obtain ⟨⟨d, hu, hd⟩, hi⟩ := hA
  have hl : xs.length = n := by rw [← hx, List.length_take, List.length_drop]; omega
  have h1 : (loadCells ⟨g, off, none⟩ xs.length).run P w = .ok xs.toArray w :=
    run_loadCells_list (P := P) w ⟨g, off, none⟩ xs (fun j v hv => by
      rw [addr_add, hb.cell]
      rw [← hx, List.getElem?_take] at hv
      split at hv
      · rw [List.getElem?_drop] at hv
        simpa using hv
      · cases hv)
  cases hq : P.info? ty with
  | none => simp [hq] at hi
  | some i =>
    have hs : i.size = n := by simpa [hq] using hi
    have hagg : (isAgg ty).run P w = .ok true w := by
      unfold isAgg
      rw [Sem.run_bind, run_underlying hu w]
      cases d <;> simp_all [isAggD]
    rw [hl] at h1
    simp [loadVar, Sem.run_bind, hagg, sizeOf, typeInfo, hq, hs, h1]
theorem wp_loada {P : Program} {ty : TypeId} {n : Nat} (hA : Agg P ty n) {op : Oper} {a : Act} {w : World} {K : Act → World → Prop} {Q : Exit → Act → World → Prop} (x : Operand) (ho : op.op = .load ty x)
    (g off : Nat) (hx : a.eval x = .pointer (some ⟨g, off, none⟩)) (t : TypeId) (cs xs : List Value) (hb : Blk w g t cs.toArray) (hxs : (cs.drop off).take n = xs) (hn : off + n ≤ cs.length)
    (h : K (a.put op.dst (.agg xs.toArray)) w) : op.wp P a w K Q := by
  unfold Oper.wp execOp
  simp only [ho, hx, Instr.loadAt, Instr.sureAddr, Sem.run_bind, Sem.run_pure, Result.andThen_ok, run_load_agg hA w g off t cs xs hb hxs hn]
  exact h
theorem wpl_loada {P : Program} {ty : TypeId} {n : Nat} (hA : Agg P ty n) {ops : Array Oper} {rest : List Oper} {op : Oper} {a : Act} {w : World} {Q : Exit → Act → World → Prop} (hgd : op.guard = none) (x : Operand) (ho : op.op = .load ty x)
    (g off : Nat) (hx : a.eval x = .pointer (some ⟨g, off, none⟩)) (t : TypeId) (cs xs : List Value) (hb : Blk w g t cs.toArray) (hxs : (cs.drop off).take n = xs) (hn : off + n ≤ cs.length)
    (h : wpList P ops Q rest (a.put op.dst (.agg xs.toArray)) w) : wpList P ops Q (op :: rest) a w :=
  wpList_plain hgd fun _ hK => wp_loada hA x ho g off hx t cs xs hb hxs hn (hK _ _ h)
theorem Frm.setRow (w : World) (g : Nat) (cs : Array Value) : Frm (fun k => k = g) w (w.setRow g cs) :=
  ⟨rfl, rfl, rfl, by simp [World.setRow], fun k _ hk => setRow_other w g k cs (fun e => hk e)⟩
theorem Blk.setRow {w : World} {g : Nat} {t : TypeId} {old : Array Value} (h : Blk w g t old) (cs : Array Value) : Blk (w.setRow g cs) g t cs := setRow_heap w g _ _ t _ h
theorem wpl_storea {P : Program} {ty : TypeId} {n : Nat} (hA : Agg P ty n) {ops : Array Oper} {rest : List Oper} {op : Oper} {a : Act} {w : World} {Q : Exit → Act → World → Prop} (hgd : op.guard = none) (x y : Operand) (ho : op.op = .store ty x y)
    (g : Nat) (cs : List Value) (hx : a.eval x = .pointer (some ⟨g, 0, none⟩)) (hy : a.eval y = .agg cs.toArray) (t : TypeId) (old : Array Value) (hb : Blk w g t old) (hn : cs.length = n) (hold : old.size = n) (h1 : ∀ v ∈ cs, v.oneCell' = true)
    (h : ∀ w', Blk w' g t cs.toArray → Frm (fun k => k = g) w w' → wpList P ops Q rest (a.put op.dst undef) w') : wpList P ops Q (op :: rest) a w := by
  refine wpList_store_row hgd ty x y ho g cs.toArray hx hy t old hb (by rw [hA.2]; simp [hn]) (by simp [hn, hold]) (Array.all_eq_true_iff_forall_mem.2 fun v hv => h1 v (by simpa using hv)) ?_
  exact h _ (hb.setRow _) (Frm.setRow _ _ _)
/-- A variable of its own, zero. -/
theorem wpl_alloca {P : Program} {ops : Array Oper} {rest : List Oper} {op : Oper} {a : Act} {w : World} {Q : Exit → Act → World → Prop} (hgd : op.guard = none) (t : TypeId) (ho : op.op = .alloc t)
    (cs : List Value) (hz : (P.info? t).map (fun i => i.zero) = some (some (.agg cs.toArray)))
    (h : ∀ g w', Blk w' g t cs.toArray → w.heap.size ≤ g → Frm (fun _ => False) w w' → wpList P ops Q rest (a.put op.dst (.pointer (some ⟨g, 0, none⟩))) w') : wpList P ops Q (op :: rest) a w := by
  refine wpList_plain hgd fun K hK => ?_
  have hzv : ∀ w, (zeroValue t).run P w = .ok (.agg cs.toArray) w := by
    intro w
    cases hq : P.info? t with
    | none => simp [hq] at hz
    | some i => simp [hq] at hz; simp [zeroValue, typeInfo, hq, hz]
  unfold Oper.wp execOp
  simp [ho, Instr.alloc, hzv, newVar, newRow, Value.cells, Oper.upon, Result.andThen]
  exact hK _ _ (h _ _ (Blk.new _ _ _) (Nat.le_refl _) (Frm.alloc _ _ _))
theorem end0 {P : Program} {fn : Func} {R : Ending → World → Prop} {a : Act} {w : World} (hr : fn.results = #[]) (hd : a.defers = []) (hR : R (.returned (.tuple #[])) w) : bodyPost P fn R .normal a w :=
  bodyPost_end (by simp [results, hr]) hd hR
/-- A result that lies in a variable. -/
theorem ret_agg {P : Program} {fn : Func} {p : Tmp} {ty : TypeId} {n : Nat} (hA : Agg P ty n) (hr : fn.results = #[.cell p ty]) {R : Ending → World → Prop} {a : Act} {w : World} (hd : a.defers = []) (g : Nat) (t : TypeId) (cs : List Value)
    (hp : a.tmps.getD p undef = .pointer (some ⟨g, 0, none⟩)) (hb : Blk w g t cs.toArray) (hn : cs.length = n) (hR : R (.returned (.agg cs.toArray)) w) : bodyPost P fn R .ret a w := by
  obtain ⟨⟨d, hu, hd'⟩, hi⟩ := hA
  exact bodyPost_ret (results_cell_row hr a.tmps w g t cs.toArray (0, 0) d hp hb hu (by revert hd'; cases d <;> simp [isAggD]) (by rw [hi]; simp [hn])) hd hR
/-- A slice of an array, up to its end. -/
theorem run_slice_arr {P : Program} {t e : TypeId} {N : Nat} (hu : P.underlying t = some (.array N e)) (hi : (P.info? e).map (·.size) = some 1) (g off : Nat) (k : IntKind) (i : Nat) (h : i < N) (w : World) :
    (Instr.sliceAt t (.pointer (some ⟨g, off, none⟩)) (some (.int k (i : Int))) none none).run P w = .ok (.slice (some ⟨g, off + i, none⟩) (N - i) (N - i)) w := by
  cases hq : P.info? e with
  | none => simp [hq] at hi
  | some d =>
    have hs : d.size = 1 := by simpa [hq] using hi
    have h2 : ¬ N = i := by omega
    simp [Instr.sliceAt, run_underlying hu, Instr.sureAddr, Instr.sliceBounds, Instr.sliceBound, asIntOf, sizeOf, typeInfo, hq, hs, h2, addr_add]
    intro h1
    omega
theorem run_slice_arr0 {P : Program} {t e : TypeId} {N : Nat} (hu : P.underlying t = some (.array N e)) (hi : (P.info? e).map (·.size) = some 1) (g off : Nat) (h : 0 < N) (w : World) :
    (Instr.sliceAt t (.pointer (some ⟨g, off, none⟩)) none none none).run P w = .ok (.slice (some ⟨g, off, none⟩) N N) w := by
  cases hq : P.info? e with
  | none => simp [hq] at hi
  | some d =>
    simp [Instr.sliceAt, run_underlying hu, Instr.sureAddr, Instr.sliceBounds, sizeOf, typeInfo, hq, Addr.add]
theorem Agg.of {P : Program} {ty : TypeId} {n : Nat} (h : (P.underlying ty).map isAggD = some true) (hi : (P.info? ty).map (·.size) = some n) : Agg P ty n := by
  refine ⟨?_, hi⟩
  cases hq : P.underlying ty with
  | none => rw [hq] at h; cases h
  | some d => rw [hq] at h; exact ⟨d, rfl, by simpa using h⟩
theorem splice_cons {α : Type} (x : α) (l : List α) (off : Nat) (cs : List α) : splice (x :: l) (off + 1) cs = x :: splice l off cs := by
  simp [splice, Nat.add_right_comm off 1]
theorem set4 {α : Type} (l : List α) (off : Nat) (a b c d : α) (h : off + 4 ≤ l.length) : (((l.set off a).set (off + 1) b).set (off + 2) c).set (off + 3) d = splice l off [a, b, c, d] := by
  induction off generalizing l with
  | zero =>
    match l, h with
    | _ :: _ :: _ :: _ :: r, _ => simp [splice]
  | succ off ih =>
    match l, h with
    | x :: r, h =>
      rw [splice_cons, ← ih r (by simp at h; omega)]
      simp [Nat.add_right_comm off 1]
/-- The first k are new. -/
def mix {α : Type} (new old : List α) (k : Nat) : List α := new.take k ++ old.drop k
theorem mix_length {α : Type} (new old : List α) (k : Nat) (h : new.length = old.length) : (mix new old k).length = old.length := by simp [mix, h]; omega
theorem mix_at {α : Type} (new old : List α) (k : Nat) (h : new.length = old.length) (hk : k < old.length) : (mix new old k)[k]? = old[k]? := by
  rw [mix, List.getElem?_append_right (by simp; omega), List.length_take, List.getElem?_drop]
  congr 1
  omega
theorem mix_set {α : Type} (new old : List α) (k : Nat) (x : α) (h : new.length = old.length) (hk : k < old.length) (hx : new[k]? = some x) : (mix new old k).set k x = mix new old (k + 1) := by
  rw [mix, mix, List.set_append_right _ _ (by simp; omega), List.length_take, Nat.min_eq_left (by omega), Nat.sub_self, List.drop_eq_getElem_cons (by omega), List.set_cons_zero, List.take_add_one, hx]
  simp
theorem mix_zero {α : Type} (new old : List α) : mix new old 0 = old := by simp [mix]
theorem mix_all {α : Type} (new old : List α) (k : Nat) (h : new.length = old.length) (hk : old.length ≤ k) : mix new old k = new := by
  rw [mix, List.take_of_length_le (by omega), List.drop_eq_nil_of_le hk, List.append_nil]
theorem cellsW_set (l : List Nat) (k x : Nat) : (cellsW l).set k (.int .u32 (x : Int)) = cellsW (l.set k x) := by simp [cellsW, List.map_set]
theorem plus_at (l m : List Nat) (k : Nat) (hl : k < l.length) (hm : k < m.length) : (plus l m)[k]? = some (ad (l.getD k 0) (m.getD k 0)) := by
  simp [plus, List.getElem?_zipWith, List.getD_eq_getElem?_getD, List.getElem?_eq_getElem hl, List.getElem?_eq_getElem hm]
theorem mix_low {α : Type} (new old : List α) (k j : Nat) (h : new.length = old.length) (hj : j < k) (hk : j < old.length) : (mix new old k)[j]? = new[j]? := by
  rw [mix, List.getElem?_append_left (by simp; omega), List.getElem?_take, if_pos hj]
theorem drop_take4 (b : List UInt8) (i : Nat) (h : i + 4 ≤ b.length) : (b.drop i).take 4 = [b.getD i 0, b.getD (i + 1) 0, b.getD (i + 2) 0, b.getD (i + 3) 0] := by
  apply List.ext_getElem?
  intro j
  rw [List.getElem?_take]
  split
  · rename_i hj
    rw [List.getElem?_drop]
    have : j = 0 ∨ j = 1 ∨ j = 2 ∨ j = 3 := by omega
    have e0 := List.getElem?_eq_getElem (l := b) (i := i) (by omega)
    have e1 := List.getElem?_eq_getElem (l := b) (i := i + 1) (by omega)
    have e2 := List.getElem?_eq_getElem (l := b) (i := i + 2) (by omega)
    have e3 := List.getElem?_eq_getElem (l := b) (i := i + 3) (by omega)
    rcases this with rfl | rfl | rfl | rfl <;> simp [List.getD_eq_getElem?_getD, e0, e1, e2, e3]
  · rename_i hj
    rw [List.getElem?_eq_none (by simp; omega)]
theorem cell_set_ne (w : World) (g i j : Nat) (v : Value) (h : i ≠ j) : (w.setCell ⟨g, i, none⟩ v).cell? ⟨g, j, none⟩ = w.cell? ⟨g, j, none⟩ := by
  simp only [World.setCell, World.cell?, Array.getElem?_modify]
  cases hq : w.heap[g]? with
  | none => simp
  | some o => cases o <;> simp [h]
/-- An element of an array that is a value. -/
theorem run_index_agg {P : Program} {t e : TypeId} {N : Nat} {ik : IntKind} (hu : P.underlying t = some (.array N e)) (he : P.underlying e = some (.int ik)) (hi : (P.info? e).map (·.size) = some 1) (cs : List Value) (k : Nat) (v : Value) (hk : k < N) (hv : cs[k]? = some v) (w : World) :
    (Instr.index t (.agg cs.toArray) (.int .i64 (k : Int))).run P w = .ok v w := by
  cases hq : P.info? e with
  | none => simp [hq] at hi
  | some d =>
    have hs : d.size = 1 := by simpa [hq] using hi
    simp [Instr.index, asIntOf, run_underlying hu, hk, part, isAgg, run_underlying he, sizeOf, typeInfo, hq, hs, hv]
theorem info8 : (Tryz.prog.info? 5).map (fun i => (i.zero, i.size, i.bytes)) = some (some (.int .u8 0), 1, 1) := by kernel_rfl
theorem under24 : Tryz.prog.underlying 46 = some (.slice 5) := by kernel_rfl
theorem madeCells1 (v : Value) (c : Nat) : madeCells #[v] c = (List.replicate c v).toArray := by
  apply Array.ext
  · simp [madeCells]
  · intro i h1 h2
    simp [madeCells, Nat.mod_one]
/-- Noughts, made. -/
theorem wpl_make8 {ops : Array Oper} {rest : List Oper} {op : Oper} {a : Act} {w : World} {Q : Exit → Act → World → Prop} (hgd : op.guard = none) (x : Operand) (ho : op.op = .makeSlice 46 x x)
    (k : IntKind) (C : Int) (c : Nat) (hx : a.eval x = .int k C) (hC : C = (c : Int)) (hc : c ≤ 1000000)
    (h : ∀ g w', Blk w' g 5 (cellsB (List.replicate c 0)).toArray → w.heap.size ≤ g → Frm (fun _ => False) w w' → wpList Tryz.prog ops Q rest (a.put op.dst (.slice (some ⟨g, 0, none⟩) c c)) w') : wpList Tryz.prog ops Q (op :: rest) a w := by
  subst hC
  refine wpList_plain hgd fun K hK => ?_
  have hinfo := info8
  cases hq : Tryz.prog.info? 5 with
  | none => rw [hq] at hinfo; cases hinfo
  | some i =>
    rw [hq] at hinfo
    simp at hinfo
    obtain ⟨hz, hs, hb⟩ := hinfo
    have hr := run_make (P := Tryz.prog) w 46 5 i _ under24 hq hz k k (c : Int) (c : Int) (by omega) (by omega) (by rw [hb]; omega) (by omega)
    rw [hs] at hr
    simp only [Int.toNat_natCast, Nat.mul_one, Value.cells, madeCells1] at hr
    have hcell : (List.replicate c (Value.int .u8 0)) = cellsB (List.replicate c 0) := by simp [cellsB]
    rw [hcell] at hr
    unfold Oper.wp execOp
    simp [ho, hx, hr, Oper.upon, Result.andThen]
    exact hK _ _ (h _ _ (Blk.new _ _ _) (Nat.le_refl _) (Frm.alloc _ _ _))
theorem splice_mid {α : Type} (x y z c : List α) (off : Nat) (h1 : x.length = off) (h2 : y.length = c.length) : splice (x ++ (y ++ z)) off c = x ++ (c ++ z) := by
  subst h1
  rw [splice, List.take_left, List.drop_append, List.drop_eq_nil_of_le (by omega), List.nil_append, ← h2, Nat.add_sub_cancel_left, List.drop_left]
theorem size8 : (Tryz.prog.info? 5).map (·.size) = some 1 := by kernel_rfl
/-- Bytes of a slice that does not lie in block g. -/
def Src (w : World) (g : Nat) (A : Option Addr) (n : Nat) (l : List UInt8) : Prop := Rds w A n (cellsB l) ∧ (0 < n → ∀ a, A = some a → a.block ≠ g)
theorem cell_frm {S : Nat → Prop} {w w' : World} (f : Frm S w w') {a : Addr} {v : Value} (h : w.cell? a = some v) (hS : ¬ S a.block) : w'.cell? a = some v := by
  have := f.block a.block (World.block_lt_of_cell? w _ h) hS
  rw [← h]
  simp only [World.cell?, this]
theorem add_block (a : Addr) (j : Nat) : (a.add j).block = a.block := by unfold Addr.add; split <;> rfl
theorem Rds.frm {S : Nat → Prop} {w w' : World} {A : Option Addr} {n : Nat} {xs : List Value} (h : Rds w A n xs) (f : Frm S w w') (hS : 0 < n → ∀ a, A = some a → ¬ S a.block) : Rds w' A n xs := by
  refine ⟨h.1, fun hn => ?_⟩
  obtain ⟨a, rfl, hc⟩ := h.2 hn
  exact ⟨a, rfl, fun j u hu => cell_frm f (hc j u hu) (by rw [add_block]; exact hS hn a rfl)⟩
theorem Src.frm {w w' : World} {g : Nat} {A : Option Addr} {n : Nat} {l : List UInt8} (h : Src w g A n l) (f : Frm (fun k => k = g) w w') : Src w' g A n l :=
  ⟨h.1.frm f (fun hn a ha => h.2 hn a ha), h.2⟩
theorem add_add (a : Addr) (i j : Nat) : (a.add i).add j = a.add (i + j) := by
  unfold Addr.add
  by_cases hi : i = 0
  · subst hi; simp
  · by_cases hj : j = 0
    · subst hj; simp [hi]
    · simp [hi, hj]; omega
theorem Rds.cut {w : World} {A : Option Addr} {n : Nat} {xs : List Value} (h : Rds w A n xs) (c k : Nat) (hk : k ≤ n) (hc : n ≤ c) : Rds w (if c = k then A else A.map (·.add k)) (n - k) (xs.drop k) := by
  refine ⟨by rw [List.length_drop, h.1], fun hn => ?_⟩
  obtain ⟨a, rfl, hcell⟩ := h.2 (by omega)
  rw [if_neg (by omega)]
  refine ⟨_, rfl, fun j u hu => ?_⟩
  rw [add_add]
  exact hcell _ u (by rwa [List.getElem?_drop] at hu)
theorem Src.cut {w : World} {g : Nat} {A : Option Addr} {n : Nat} {l : List UInt8} (h : Src w g A n l) (c k : Nat) (hk : k ≤ n) (hc : n ≤ c) : Src w g (if c = k then A else A.map (·.add k)) (n - k) (l.drop k) := by
  refine ⟨?_, ?_⟩
  · have := h.1.cut c k hk hc
    rwa [show (cellsB l).drop k = cellsB (l.drop k) by simp [cellsB, List.map_drop]] at this
  · intro hn a ha
    split at ha
    · exact h.2 (by omega) a ha
    · rcases A with _ | b
      · cases ha
      · injection ha with ha
        rw [← ha, add_block]
        exact h.2 (by omega) b rfl
theorem cellsB_take (l : List UInt8) (n : Nat) : (cellsB l).take n = cellsB (l.take n) := by simp [cellsB, List.map_take]
theorem cellsB_drop (l : List UInt8) (n : Nat) : (cellsB l).drop n = cellsB (l.drop n) := by simp [cellsB, List.map_drop]
/-- copy into a block that is known whole. -/
theorem wpl_copy {ops : Array Oper} {rest : List Oper} {op : Oper} {a : Act} {w : World} {Q : Exit → Act → World → Prop} (hgd : op.guard = none) (d s : Operand)
    (ho : op.op = .call { callee := .builtin .copy, args := #[d, s], argTypes := #[46, 46] })
    (g off dLen dCap : Nat) (ad : Addr) (sLen sCap m : Nat) (hd : a.eval d = .slice (some ⟨g, off, none⟩) dLen dCap) (hs : a.eval s = .slice (some ad) sLen sCap)
    (cur : List Value) (t : TypeId) (hg : Blk w g t cur.toArray) (cs : List Value) (hm : cs.length = m) (hn : m = Nat.min sLen dLen)
    (hsrc : ∀ j v, cs[j]? = some v → w.cell? (ad.add j) = some v) (hfit : off + m ≤ cur.length) (h1 : ∀ v ∈ cs, v.oneCell' = true)
    (h : ∀ w', Blk w' g t (splice cur off cs).toArray → Frm (fun k => k = g) w w' → wpList Tryz.prog ops Q rest (a.put op.dst (.int .i64 (m : Int))) w') : wpList Tryz.prog ops Q (op :: rest) a w := by
  subst hm
  refine wpList_copy_own hgd d s _ _ ho 5 under24 size8 g off dLen dCap ad sLen sCap hd hs cur.toArray t hg cs hn hsrc (by simpa using hfit) h1 ?_
  exact h _ (by have := Blk.setRow hg (cur.take off ++ (cs ++ cur.drop (off + cs.length))).toArray; simpa [splice] using this) (Frm.setRow _ _ _)
/-- A cut of a slice. -/
theorem wpl_cut {ops : Array Oper} {rest : List Oper} {op : Oper} {a : Act} {w : World} {Q : Exit → Act → World → Prop} (hgd : op.guard = none) (x lo : Operand)
    (ho : op.op = .slice 46 x (some lo) none none) (A A' : Option Addr) (n c k : Nat) (ik : IntKind) (hx : a.eval x = .slice A n c) (hl : a.eval lo = .int ik (k : Int)) (hk : k ≤ n) (hc : n ≤ c)
    (hA : A' = if c = k then A else A.map (·.add k)) (h : wpList Tryz.prog ops Q rest (a.put op.dst (.slice A' (n - k) (c - k))) w) : wpList Tryz.prog ops Q (op :: rest) a w := by
  subst hA
  refine wpList_plain hgd fun K hK => ?_
  have hinfo := size8
  cases hq : Tryz.prog.info? 5 with
  | none => rw [hq] at hinfo; cases hinfo
  | some i =>
    rw [hq] at hinfo
    have hs : i.size = 1 := by simpa using hinfo
    have hr : (Instr.sliceAt 46 (.slice A n c) (some (.int ik (k : Int))) none none).run Tryz.prog w = .ok (.slice (if c = k then A else A.map (·.add k)) (n - k) (c - k)) w := by
      simp [Instr.sliceAt, Instr.slice, run_underlying under24, Instr.sliceBounds, Instr.sliceBound, asIntOf, sizeOf, typeInfo, hq, hs, hk]
    unfold Oper.wp execOp
    simp only [ho, Option.map_some, Option.map_none, hx, hl, hr, Sem.run_bind, Result.andThen_ok]
    exact hK _ _ h
/-- clear of a slice in a block that is known whole. -/
theorem wpl_clear {ops : Array Oper} {rest : List Oper} {op : Oper} {a : Act} {w : World} {Q : Exit → Act → World → Prop} (hgd : op.guard = none) (s : Operand)
    (ho : op.op = .call { callee := .builtin .clear, args := #[s], argTypes := #[46] })
    (g off n c : Nat) (hs : a.eval s = .slice (some ⟨g, off, none⟩) n c) (hn : 0 < n) (cur : List Value) (t : TypeId) (hg : Blk w g t cur.toArray) (hfit : off + n ≤ cur.length)
    (h : ∀ w', Blk w' g t (splice cur off (cellsB (List.replicate n 0))).toArray → Frm (fun k => k = g) w w' → wpList Tryz.prog ops Q rest (a.put op.dst (.tuple #[])) w') : wpList Tryz.prog ops Q (op :: rest) a w := by
  refine wpList_plain hgd fun K hK => ?_
  have hcell : (List.replicate n (Value.int .u8 0)) = cellsB (List.replicate n 0) := by simp [cellsB]
  have hz : ∀ w, (zeroValue 5).run Tryz.prog w = .ok (.int .u8 0) w := by
    intro w
    have hinfo := info8
    cases hq : Tryz.prog.info? 5 with
    | none => rw [hq] at hinfo; cases hinfo
    | some i => rw [hq] at hinfo; simp at hinfo; simp [zeroValue, typeInfo, hq, hinfo.1]
  have hzc : (Builtin.zeroCells (Value.int .u8 0).cells n).toList = cellsB (List.replicate n 0) := by
    rw [← hcell]
    simp [Builtin.zeroCells, Value.cells]
    apply List.ext_getElem
    · simp
    · intro i h1 h2
      simp [Nat.mod_one]
  have hst := run_storeCells_at Tryz.prog g off t (cellsB (List.replicate n 0)) 0 cur.toArray w hg (by rw [cellsB_length]; simpa using hfit) (cellsB_one _)
  obtain ⟨m, rfl⟩ : ∃ m, n = m + 1 := ⟨n - 1, by omega⟩
  have hr : ∀ ty, (Builtin.clear_ #[46] ty #[.slice (some ⟨g, off, none⟩) (m + 1) c]).run Tryz.prog w = .ok (.tuple #[]) (w.setRow g (splice cur off (cellsB (List.replicate (m + 1) 0))).toArray) := by
    intro ty
    simp only [Nat.add_zero] at hst
    simp [Builtin.clear_, run_underlying under24, hz, hzc, hst, splice]
  unfold Oper.wp execOp
  simp [ho, resolve, invoke, builtin, hs, hr, Result.andThen]
  exact hK _ _ (h _ (Blk.setRow hg _) (Frm.setRow _ _ _))
theorem splice_all {α : Type} (b c : List α) (h : b.length = c.length) : splice b 0 c = c := by
  rw [splice, Nat.zero_add, ← h, List.drop_length, List.take_zero, List.append_nil, List.nil_append]
def slen : Value → Nat
  | .slice _ n _ => n
  | _ => 0
theorem Blk.rds {w : World} {g : Nat} {t : TypeId} {xs : List Value} (h : Blk w g t xs.toArray) : Rds w (some ⟨g, 0, none⟩) xs.length xs := by
  refine ⟨rfl, fun _ => ⟨_, rfl, fun j u hu => ?_⟩⟩
  rw [addr_add, h.cell]
  simpa using hu
/-- A value that is a slice of these bytes. -/
def Prt (w : World) (v : Value) (l : List UInt8) : Prop := ∃ A c, v = .slice A l.length c ∧ l.length ≤ c ∧ Rds w A l.length (cellsB l)
theorem Prt.below {w w' : World} {v : Value} {l : List UInt8} (h : Prt w v l) (hb : Below w.heap.size w w') : Prt w' v l := by
  obtain ⟨A, c, hv, hc, hr⟩ := h
  exact ⟨A, c, hv, hc, hr.below hb⟩
theorem below_drewN {B : Nat} {w w' : World} (h : Below B w w') (n : Nat) : Below B w (w'.drewN n) := ⟨h.os, h.tape, h.output, h.size, h.block⟩
theorem under9 : Tryz.prog.underlying 9 = some .string := by kernel_rfl
theorem under5 : Tryz.prog.underlying 5 = some (.int .u8) := by kernel_rfl
theorem alloc_rds (w : World) (C : List Value) (e : TypeId) (fr : Nat × Nat) : Rds (w.alloc (.cells C.toArray e fr)) (some ⟨w.heap.size, 0, none⟩) C.length C := by
  refine ⟨rfl, fun _ => ⟨_, rfl, fun j u hu => ?_⟩⟩
  rw [addr_add, cell_of_row _ _ _ C.toArray e fr (heap_alloc_new w _)]
  simpa using hu
theorem cells5 : Tryz.prog.cellsOf 5 = 1 := by kernel_rfl
theorem cellsB_set (l : List UInt8) (k : Nat) (u : UInt8) : (cellsB l).set k (.int .u8 (u.toNat : Int)) = cellsB (l.set k u) := by simp [cellsB, List.map_set]
theorem min_int (a b : Nat) : (Nat.min a b : Int) = if (b : Int) < (a : Int) then (b : Int) else (a : Int) := by
  by_cases h : b < a
  · rw [if_pos (by omega)]; simp only [Nat.min_def]; split <;> omega
  · rw [if_neg (by omega)]; simp only [Nat.min_def]; split <;> omega
theorem nat_min (a b : Nat) : ∃ m : Nat, Hid ((m : Int) = if (b : Int) < (a : Int) then (b : Int) else (a : Int)) ∧ m ≤ a ∧ m ≤ b ∧ m = Nat.min a b :=
  ⟨Nat.min a b, min_int a b, Nat.min_le_left _ _, Nat.min_le_right _ _, rfl⟩
/-- A block of bytes, seen from i on, m of them. -/
theorem Blk.src {w : World} {g gs : Nat} {t : TypeId} {l : List UInt8} (h : Blk w g t (cellsB l).toArray) (hne : g ≠ gs) (i m : Nat) (hm : i + m ≤ l.length) : Src w gs (some ⟨g, i, none⟩) m ((l.drop i).take m) := by
  refine ⟨⟨by rw [cellsB_length, List.length_take, List.length_drop]; omega, fun _ => ⟨_, rfl, fun j u hu => ?_⟩⟩, fun _ a ha => by injection ha with ha; subst ha; exact hne⟩
  rw [addr_add, h.cell]
  rw [← cellsB_take, ← cellsB_drop, List.getElem?_take] at hu
  split at hu
  · rw [List.getElem?_drop] at hu
    simpa using hu
  · cases hu
/-- Bytes that came in lie in no block that came later. -/
theorem src_old {w w' : World} {A : Option Addr} {n : Nat} {l : List UInt8} (h : Rds w A n (cellsB l)) (hb : Below w.heap.size w w') (g : Nat) (hg : w.heap.size ≤ g) : Src w' g A n l := by
  refine ⟨h.below hb, fun hp a ha => ?_⟩
  obtain ⟨a', ha', hcc⟩ := h.2 hp
  rw [ha] at ha'
  injection ha' with ha'
  subst ha'
  have h0 : (cellsB l)[0]? = some _ := List.getElem?_eq_getElem (by rw [h.1]; exact hp)
  have := World.block_lt_of_cell? w _ (hcc 0 _ h0)
  rw [add_block] at this
  omega
theorem agg64b : Agg Tryz.prog 84 64 := Agg.of (by kernel_rfl) (by kernel_rfl)
theorem zero64b : (Tryz.prog.info? 84).map (fun i => i.zero) = some (some (.agg (cellsB (List.replicate 64 0)).toArray)) := by kernel_rfl
theorem under64b : Tryz.prog.underlying 84 = some (.array 64 5) := by kernel_rfl
theorem byte_xor (a b : UInt8) : bits .xor .u8 (a.toNat : Int) (b.toNat : Int) = ((a ^^^ b).toNat : Int) := by
  have ha := a.toNat_lt
  have hb := b.toNat_lt
  have h1 : (BitVec.ofInt 8 (a.toNat : Int)).toNat = a.toNat := by rw [BitVec.toNat_ofInt]; omega
  have h2 : (BitVec.ofInt 8 (b.toNat : Int)).toNat = b.toNat := by rw [BitVec.toNat_ofInt]; omega
  have h3 : a.toNat ^^^ b.toNat < 256 := Nat.xor_lt_two_pow (n := 8) ha hb
  show IntKind.u8.wrap ((BitVec.ofInt 8 (a.toNat : Int) ^^^ BitVec.ofInt 8 (b.toNat : Int)).toNat : Nat) = _
  rw [BitVec.toNat_xor, h1, h2, UInt8.toNat_xor, IntKind.wrap_u8]
  omega
theorem byte_or (a b : UInt8) : bits .or .u8 (a.toNat : Int) (b.toNat : Int) = ((a ||| b).toNat : Int) := by
  have ha := a.toNat_lt
  have hb := b.toNat_lt
  have h1 : (BitVec.ofInt 8 (a.toNat : Int)).toNat = a.toNat := by rw [BitVec.toNat_ofInt]; omega
  have h2 : (BitVec.ofInt 8 (b.toNat : Int)).toNat = b.toNat := by rw [BitVec.toNat_ofInt]; omega
  have h3 : a.toNat ||| b.toNat < 256 := Nat.or_lt_two_pow (n := 8) ha hb
  show IntKind.u8.wrap ((BitVec.ofInt 8 (a.toNat : Int) ||| BitVec.ofInt 8 (b.toNat : Int)).toNat : Nat) = _
  rw [BitVec.toNat_or, h1, h2, UInt8.toNat_or, IntKind.wrap_u8]
  omega
theorem getD_byte (l : List UInt8) (k : Nat) (h : k < l.length) : (cellsB l)[k]? = some (.int .u8 ((l.getD k 0).toNat : Int)) := by
  rw [cellsB_get, List.getD_eq_getElem?_getD, List.getElem?_eq_getElem h]; rfl
/-- copy of any bytes (also of none) into a block that is known whole. -/
theorem wpl_copyR {ops : Array Oper} {rest : List Oper} {op : Oper} {a : Act} {w : World} {Q : Exit → Act → World → Prop} (hgd : op.guard = none) (d s : Operand)
    (ho : op.op = .call { callee := .builtin .copy, args := #[d, s], argTypes := #[46, 46] })
    (g off dLen dCap : Nat) (A : Option Addr) (sLen sCap m : Nat) (hd : a.eval d = .slice (some ⟨g, off, none⟩) dLen dCap) (hs : a.eval s = .slice A sLen sCap)
    (cur : List Value) (t : TypeId) (hg : Blk w g t cur.toArray) (x : List UInt8) (hr : Rds w A sLen (cellsB x)) (hn : m = Nat.min sLen dLen) (hfit : off + dLen ≤ cur.length)
    (h : ∀ w', Blk w' g t (splice cur off (cellsB (x.take m))).toArray → Frm (fun k => k = g) w w' → wpList Tryz.prog ops Q rest (a.put op.dst (.int .i64 (m : Int))) w') : wpList Tryz.prog ops Q (op :: rest) a w := by
  have hmd : m ≤ dLen := by rw [hn]; exact Nat.min_le_right _ _
  have hms : m ≤ sLen := by rw [hn]; exact Nat.min_le_left _ _
  have hxl : x.length = sLen := by have := hr.1; rwa [cellsB_length] at this
  have hcl : (cellsB (x.take m)).length = m := by rw [cellsB_length, List.length_take]; omega
  rcases A with _ | ad
  · have hz : sLen = 0 := by
      rcases Nat.eq_zero_or_pos sLen with h | h
      · exact h
      · obtain ⟨a, h, _⟩ := hr.2 h; cases h
    have hm0 : m = 0 := by omega
    subst hm0
    refine wpList_copy_nothing hgd d s _ _ ho 5 under24 size8 _ none dLen dCap sLen sCap hd hs (by omega) ?_
    refine h w ?_ (Frm.refl _ _)
    have : splice cur off (cellsB (x.take 0)) = cur := by simp [splice, cellsB]
    rw [this]
    exact hg
  · refine wpl_copy hgd d s ho g off dLen dCap ad sLen sCap m hd hs cur t hg (cellsB (x.take m)) hcl hn ?_ (by omega) (cellsB_one _) h
    intro j v hv
    have hj : j < m := by
      rw [← hcl]
      exact (List.getElem?_eq_some_iff.1 hv).1
    obtain ⟨a', ha', hc⟩ := hr.2 (by omega)
    injection ha' with ha'
    subst ha'
    refine hc j v ?_
    rw [← cellsB_take, List.getElem?_take, if_pos hj] at hv
    exact hv
theorem step_storea {P : Program} {ty : TypeId} {n : Nat} (hA : Agg P ty n) {ops : Array Oper} {op : Oper} {a : Act} {w : World} {K : Act → World → Prop} {Q : Exit → Act → World → Prop} {E : Prop} (hgd : op.guard = none) (x y : Operand) (ho : op.op = .store ty x y)
    (g : Nat) (cs : List Value) (hx : a.eval x = .pointer (some ⟨g, 0, none⟩)) (hy : a.eval y = .agg cs.toArray) (t : TypeId) (old : Array Value) (hb : Blk w g t old) (hn : cs.length = n) (hold : old.size = n) (h1 : ∀ v ∈ cs, v.oneCell' = true)
    (h : ∀ w', Blk w' g t cs.toArray → Frm (fun k => k = g) w w' → K (a.put op.dst undef) w') : if Region.wanted op (yielded ops a.tmps) = true then Oper.wp P op a w K Q else E := by
  have hw : Region.wanted op (yielded ops a.tmps) = true := by simp [Region.wanted, hgd]
  rw [if_pos hw]
  exact wp_store_row ty x y ho g cs.toArray hx hy t old hb (by rw [hA.2]; simp [hn]) (by simp [hn, hold]) (Array.all_eq_true_iff_forall_mem.2 fun v hv => h1 v (by simpa using hv)) (h _ (hb.setRow _) (Frm.setRow _ _ _))
theorem Prt.frm0 {w w' : World} {v : Value} {l : List UInt8} (h : Prt w v l) (f : Frm (fun _ => False) w w') : Prt w' v l := h.below (f.below (Nat.le_refl _) (fun _ h => h.elim))
theorem step_copyR {ops : Array Oper} {op : Oper} {a : Act} {w : World} {K : Act → World → Prop} {Q : Exit → Act → World → Prop} {E : Prop} (hgd : op.guard = none) (d s : Operand)
    (ho : op.op = .call { callee := .builtin .copy, args := #[d, s], argTypes := #[46, 46] })
    (g dLen dCap gs sLen sCap m : Nat) (hd : a.eval d = .slice (some ⟨g, 0, none⟩) dLen dCap) (hs : a.eval s = .slice (some ⟨gs, 0, none⟩) sLen sCap)
    (cur : List Value) (t : TypeId) (hg : Blk w g t cur.toArray) (x : List UInt8) (hr : Rds w (some ⟨gs, 0, none⟩) sLen (cellsB x)) (hn : m = Nat.min sLen dLen) (hfit : dLen ≤ cur.length)
    (h : ∀ w', Blk w' g t (splice cur 0 (cellsB (x.take m))).toArray → Frm (fun k => k = g) w w' → K (a.put op.dst (.int .i64 (m : Int))) w') : if Region.wanted op (yielded ops a.tmps) = true then Oper.wp Tryz.prog op a w K Q else E := by
  have hw : Region.wanted op (yielded ops a.tmps) = true := by simp [Region.wanted, hgd]
  rw [if_pos hw]
  have hms : m ≤ sLen := by rw [hn]; exact Nat.min_le_left _ _
  have hmd : m ≤ dLen := by rw [hn]; exact Nat.min_le_right _ _
  have hxl : x.length = sLen := by have := hr.1; rwa [cellsB_length] at this
  have hcl : (cellsB (x.take m)).length = m := by rw [cellsB_length, List.length_take]; omega
  have hrun := run_copy_row (P := Tryz.prog) w 46 46 op.type 5 g 0 dLen dCap ⟨gs, 0, none⟩ sLen sCap cur.toArray t (cellsB (x.take m)) under24 size8 hg (by rw [hcl]; exact hn) (fun j v hv => by
    have hj : j < m := by rw [← hcl]; exact (List.getElem?_eq_some_iff.1 hv).1
    obtain ⟨a', ha', hc⟩ := hr.2 (by omega)
    injection ha' with ha'
    subst ha'
    refine hc j v ?_
    rw [← cellsB_take, List.getElem?_take, if_pos hj] at hv
    exact hv) (by simp only [List.size_toArray]; omega) (cellsB_one _)
  have h3 := h _ (by have := Blk.setRow hg (cur.take 0 ++ (cellsB (x.take m) ++ cur.drop (0 + (cellsB (x.take m)).length))).toArray; simpa [splice] using this) (Frm.setRow _ _ _)
  unfold Oper.wp execOp
  simp only [ho, resolve, invoke, builtin, Sem.run_bind, Sem.run_pure, Result.andThen_ok, List.map_toArray, List.map_cons, List.map_nil, hd, hs, hrun]
  simpa [Oper.upon, hcl, goInt] using h3
theorem Frm.two {S : Nat → Prop} (w : World) (o o' : Obj) : Frm S w ((w.alloc o).alloc o') := (Frm.alloc _ _ _).trans (Frm.alloc _ _ S) (fun _ _ h => h)
theorem Blk.conv {w : World} {g : Nat} {t : TypeId} {l : List UInt8} (h : Blk w g t (cellsB l).toArray) (n c : Nat) (hn : n ≤ l.length) :
    Sem.run Tryz.prog (convert 46 9 (.slice (some ⟨g, 0, none⟩) n c)) w = .ok (.string ⟨(l.take n).toArray⟩) w := by
  refine conv_rds w 46 9 5 under24 under5 under9 _ n c (l.take n) ?_
  have := h.rds.take n (by rw [cellsB_length]; exact hn)
  rwa [cellsB_take] at this
/-- The block of a row of one's own. -/
theorem own_block {w : World} {base n : Nat} {e : TypeId} {A : Option Addr} {c : Nat} {xs : List Value} (h : w.ownsRow base e 1 (.slice A n c) n xs) (hn : 0 < n) :
    ∃ g cur, A = some ⟨g, 0, none⟩ ∧ base ≤ g ∧ Blk w g e cur ∧ n ≤ cur.size ∧ cur.toList.take n = xs ∧ n ≤ c := by
  rcases h.2 with ⟨_, h0⟩ | ⟨g, cap, cur, hv, hb, hg, hnc, hcm, hcs, ht⟩
  · omega
  · injection hv with h1 h2 h3
    subst h3
    exact ⟨g, cur, h1, hb, hg, by omega, by simpa using ht, hnc⟩
theorem prt_own {w : World} {B : Nat} {v : Value} {l : List UInt8} (h : w.ownsRow B 5 1 v l.length (cellsB l)) : Prt w v l := by
  obtain ⟨A, c, hv⟩ := own_form h
  subst hv
  have hr := (Seg.of_own h).rds
  rcases h.2 with ⟨h1, h2⟩ | ⟨g, cap, cur, h1, _, _, hnc, _⟩
  · injection h1 with _ _ h3
    exact ⟨A, c, rfl, by omega, hr⟩
  · injection h1 with _ _ h3
    exact ⟨A, c, rfl, by omega, hr⟩
theorem run_cut1 (A : Option Addr) (n c i : Nat) (hi : i ≤ n) (w : World) :
    (Instr.sliceAt 46 (.slice A n c) (some (.int .i64 (i : Int))) none none).run Tryz.prog w = .ok (.slice (if c = i then A else A.map (·.add i)) (n - i) (c - i)) w := by
  have hinfo := size8
  cases hq : Tryz.prog.info? 5 with
  | none => rw [hq] at hinfo; cases hinfo
  | some d =>
    rw [hq] at hinfo
    have hs : d.size = 1 := by simpa using hinfo
    simp [Instr.sliceAt, Instr.slice, run_underlying under24, Instr.sliceBounds, Instr.sliceBound, asIntOf, sizeOf, typeInfo, hq, hs, hi]
theorem run_cut0 (A : Option Addr) (n c j : Nat) (hj : j ≤ c) (w : World) :
    (Instr.sliceAt 46 (.slice A n c) none (some (.int .i64 (j : Int))) none).run Tryz.prog w = .ok (.slice A j c) w := by
  have hinfo := size8
  have h0 : A.map (·.add 0) = A := by cases A <;> simp [Addr.add]
  cases hq : Tryz.prog.info? 5 with
  | none => rw [hq] at hinfo; cases hinfo
  | some d =>
    rw [hq] at hinfo
    have hs : d.size = 1 := by simpa using hinfo
    simp [Instr.sliceAt, Instr.slice, run_underlying under24, Instr.sliceBounds, Instr.sliceBound, asIntOf, sizeOf, typeInfo, hq, hj, h0]
theorem Rds.mid {w : World} {A : Option Addr} {n : Nat} {l : List UInt8} (h : Rds w A n (cellsB l)) (c i j : Nat) (hij : i ≤ j) (hj : j ≤ n) (hc : n ≤ c) : Rds w (if c = i then A else A.map (·.add i)) (j - i) (cellsB ((l.drop i).take (j - i))) := by
  have := (h.cut c i (by omega) hc).take (j - i) (by omega)
  rwa [cellsB_drop, cellsB_take] at this
theorem held_convR {o : Oper} {a : Act} {w : World} (x : Operand) (ho : o.op = .convert 46 9 x) (A : Option Addr) (n c : Nat) (hx : a.eval x = .slice A n c) (l : List UInt8) (hr : Rds w A n (cellsB l)) :
    (execOp a.eval o).run Tryz.prog w = .ok (.value (.string ⟨l.toArray⟩)) w := by
  have := conv_rds (P := Tryz.prog) w 46 9 5 under24 under5 under9 A n c l hr
  unfold execOp
  simp only [ho, hx, this, Sem.run_bind, Sem.run_pure, Result.andThen_ok]
/-- A slice of an array, up to some place. -/
theorem slice_arr_to {t : TypeId} {N : Nat} (hu : Tryz.prog.underlying t = some (.array N 5)) (g j : Nat) (hj : j ≤ N) (w : World) :
    (Instr.sliceAt t (.pointer (some ⟨g, 0, none⟩)) none (some (.int .i64 (j : Int))) none).run Tryz.prog w = .ok (.slice (some ⟨g, 0, none⟩) j N) w := by
  have hi := size8
  cases hq : Tryz.prog.info? 5 with
  | none => simp [hq] at hi
  | some d =>
    simp [Instr.sliceAt, run_underlying hu, Instr.sureAddr, Instr.sliceBounds, Instr.sliceBound, asIntOf, sizeOf, typeInfo, hq, hj, Addr.add]
end Go.Proofs.YtoiiiflnnhkjbaaGreatDoor
