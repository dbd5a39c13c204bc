/-
  Rows of records: slices whose elements are structs of four cells. Laws of the walk: appended to, read, sorted; ranged over the map.
-/
import Derived.Test.YtjicnfkodieaaaaDoorDr1
import Derived.Test.YtjicnfkodieaaaaDoorDrS
namespace Go.Proofs.YtjicnfkodieaaaaDoor
set_option linter.unusedVariables false
open Go.RowKit Go.Sort

/-- The cells of records. -/
def cellsR : List Rec → List Value
  | [] => []
  | r :: l => .int .u16 (r.a : Int) :: .int .u32 (r.f : Int) :: .int .u32 (r.t : Int) :: .int .u32 (r.l : Int) :: cellsR l
theorem cellsR_length : ∀ l, (cellsR l).length = l.length * 4
  | [] => rfl
  | r :: l => by simp [cellsR, cellsR_length l]; omega
theorem cellsR_append : ∀ l m, cellsR (l ++ m) = cellsR l ++ cellsR m
  | [], m => rfl
  | r :: l, m => by simp [cellsR, cellsR_append l m]
theorem cellsR_cons (r : Rec) (l : List Rec) : cellsR (r :: l) = recC r ++ cellsR l := rfl
theorem cellsR_one : ∀ l, ∀ u ∈ cellsR l, u.oneCell' = true
  | [], u, h => by cases h
  | r :: l, u, h => by
    rw [cellsR_cons] at h
    rcases List.mem_append.1 h with h | h
    · exact recC_one r u h
    · exact cellsR_one l u h
/-- The cells of one of them. -/
theorem cellsR_at : ∀ (l : List Rec) (j q : Nat), j < l.length → q < 4 → (cellsR l)[j * 4 + q]? = (recC (l.getD j default))[q]?
  | [], j, q, h, _ => by simp at h
  | r :: l, 0, q, h, hq => by
    rw [cellsR_cons, Nat.zero_mul, Nat.zero_add, List.getElem?_append_left (by rw [recC_length]; exact hq)]
    rfl
  | r :: l, j + 1, q, h, hq => by
    have := cellsR_at l j q (by simpa using h) hq
    rw [cellsR_cons, List.getElem?_append_right (by rw [recC_length]; omega), recC_length, show (j + 1) * 4 + q - 4 = j * 4 + q by omega, this]
    rfl
theorem cellsR_take : ∀ (l : List Rec) (k : Nat), (cellsR l).take (k * 4) = cellsR (l.take k)
  | [], k => by simp [cellsR]
  | r :: l, 0 => by simp [cellsR]
  | r :: l, k + 1 => by
    rw [cellsR_cons, show (k + 1) * 4 = (recC r).length + k * 4 by rw [recC_length]; omega, List.take_length_add_append, cellsR_take l k]
    rfl
theorem recC_inj {x y : Rec} (h : recC x = recC y) : x = y := by
  unfold recC at h
  simp at h
  exact Rec.ext' (by omega) (by omega) (by omega) (by omega)
theorem cellsR_inj : ∀ {l m : List Rec}, cellsR l = cellsR m → l = m
  | [], [], _ => rfl
  | [], y :: m, h => by cases h
  | x :: l, [], h => by cases h
  | x :: l, y :: m, h => by
    rw [cellsR_cons, cellsR_cons] at h
    obtain ⟨h1, h2⟩ := List.append_inj h rfl
    rw [recC_inj h1, cellsR_inj h2]

theorem underR : Tryd.prog.underlying 22 = some (.slice 37) := Tryd.underlying22
theorem infoR : (Tryd.prog.info? 37).map (fun i => (i.zero, i.size, i.bytes)) = some (some (recV default), 4, 16) := by kernel_rfl
theorem aggR : Agg Tryd.prog 37 4 := Agg.of (by kernel_rfl) (by kernel_rfl)
theorem aggB : Agg Tryd.prog 74 2 := Agg.of (by kernel_rfl) (by kernel_rfl)
theorem aggT : Agg Tryd.prog 72 2 := Agg.of (by kernel_rfl) (by kernel_rfl)
theorem zeroR : (Tryd.prog.info? 37).map (fun i => i.zero) = some (some (.agg (recC default).toArray)) := by kernel_rfl
theorem zeroB : (Tryd.prog.info? 74).map (fun i => i.zero) = some (some (.agg #[.int .u16 0, .int .u32 0])) := by kernel_rfl
theorem zeroT : (Tryd.prog.info? 72).map (fun i => i.zero) = some (some (.agg #[.int .u32 0, .int .u32 0])) := by kernel_rfl

/-- A row of records of one's own, from block B on. -/
def ROwn (w : World) (B : Nat) (A : Option Addr) (n c : Nat) (l : List Rec) : Prop := w.ownsRow B 37 4 (.slice A n c) n (cellsR l)
section
variable {w w' : World} {B n c : Nat} {A : Option Addr} {l : List Rec}
theorem ROwn.len (h : ROwn w B A n c l) : l.length = n := by have := h.1; rw [cellsR_length] at this; omega
theorem ROwn.block (h : ROwn w B A n c l) : (A = none ∧ n = 0 ∧ c = 0) ∨ ∃ g cur, A = some ⟨g, 0, none⟩ ∧ B ≤ g ∧ w.heap[g]? = some (.cells cur 37 (0, 0)) ∧ n ≤ c ∧ c ≤ maxLen ∧ cur.size = c * 4 ∧ cur.toList.take (n * 4) = cellsR l := by
  rcases h.2 with ⟨hv, h0⟩ | ⟨g, cap, cur, hv, hb, hg, h1, h2, h3, h4⟩
  · injection hv with h1 h2 h3
    exact .inl ⟨h1, h0, h3⟩
  · injection hv with hA _ hc
    subst hA hc
    exact .inr ⟨g, cur, rfl, hb, hg, h1, h2, h3, h4⟩
theorem ROwn.frm {S : Nat → Prop} (h : ROwn w B A n c l) (f : Frm S w w') (hS : ∀ k, (Value.slice A n c).ownBlock = some k → ¬ S k) : ROwn w' B A n c l := by
  refine ⟨h.1, ?_⟩
  rcases h.2 with h0 | ⟨g', cap, cur, hv, hbs, hg, hr⟩
  · exact .inl h0
  · exact .inr ⟨g', cap, cur, hv, hbs, Blk.frm (t := 37) hg f (hS g' (by rw [hv]; rfl)), hr⟩
theorem ROwn.frm0 (h : ROwn w B A n c l) (f : Frm (fun _ => False) w w') : ROwn w' B A n c l := h.frm f (fun _ _ h => h)
theorem ROwn.ge (h : ROwn w B A n c l) : ∀ k, (Value.slice A n c).ownBlock = some k → B ≤ k ∧ k < w.heap.size := by
  intro k hk
  rcases h.block with ⟨rfl, _⟩ | ⟨g, cur, rfl, hb, hg, _⟩
  · cases hk
  · have : g = k := by simpa [Value.ownBlock] using hk
    subst this
    exact ⟨hb, (Array.getElem?_eq_some_iff.1 hg).1⟩
theorem ROwn.ne {g : Nat} {t : TypeId} {cs : Array Value} (h : ROwn w B A n c l) (hb : Blk w g t cs) (hne : 37 ≠ t) : (Value.slice A n c).ownBlock ≠ some g := by
  rcases h.block with ⟨rfl, _⟩ | ⟨g', cur, rfl, _, hg, _⟩
  · intro h; cases h
  · intro h
    have : g' = g := by simpa [Value.ownBlock] using h
    exact Blk.ne (t := 37) hg hb hne this
theorem ROwn.neMap {b : Nat} {D : List Rec} (h : ROwn w B A n c l) (hm : MapAt w b D) : (Value.slice A n c).ownBlock ≠ some b := by
  rcases h.block with ⟨rfl, _⟩ | ⟨g', cur, rfl, _, hg, _⟩
  · intro h; cases h
  · intro h
    have : g' = b := by simpa [Value.ownBlock] using h
    exact hm.ne (t := 37) (cs := cur) hg this.symm
theorem ROwn.neIter {b r : Nat} {D k : List Rec} (h : ROwn w B A n c l) (hm : Ranging w b r D k) : (Value.slice A n c).ownBlock ≠ some r := by
  rcases h.block with ⟨rfl, _⟩ | ⟨g', cur, rfl, _, hg, _⟩
  · intro h; cases h
  · intro h
    have : g' = r := by simpa [Value.ownBlock] using h
    subst this
    obtain ⟨es, clock, since, c0, seen, L, hb, hst, hes, hp, hr, _⟩ := hm
    rw [hg] at hr
    cases hr
theorem ROwn.base {B' : Nat} (h : ROwn w B A n c l) (hB : B' ≤ B) : ROwn w B' A n c l := by
  refine ⟨h.1, ?_⟩
  rcases h.2 with h0 | ⟨g', cap, cur, hv, hbs, hr⟩
  · exact .inl h0
  · exact .inr ⟨g', cap, cur, hv, Nat.le_trans hB hbs, hr⟩
theorem ROwn.nil (w : World) (B : Nat) : ROwn w B none 0 0 [] := ⟨rfl, .inl ⟨rfl, rfl⟩⟩
theorem ROwn.drewN (h : ROwn w B A n c l) (k : Nat) : ROwn (w.drewN k) B A n c l := h
/-- Its cells, one by one. -/
theorem ROwn.cells (h : ROwn w B A n c l) (hn : 0 < n) : ∃ g, A = some ⟨g, 0, none⟩ ∧ B ≤ g ∧ g < w.heap.size ∧ ∀ j q, j < n → q < 4 → w.cell? ⟨g, j * 4 + q, none⟩ = (recC (l.getD j default))[q]? := by
  have hl := h.len
  rcases h.block with ⟨rfl, h0, _⟩ | ⟨g, cur, rfl, hb, hg, h1, h2, h3, h4⟩
  · omega
  · have hB : Blk w g 37 cur := hg
    refine ⟨g, rfl, hb, hB.lt, fun j q hj hq => ?_⟩
    rw [hB.cell, ← cellsR_at l j q (by omega) hq, ← h4, List.getElem?_take, if_pos (by omega)]
    simp
end

theorem info_split {P : Program} {e : TypeId} {z : Value} {s b : Nat} (hi : (P.info? e).map (fun i => (i.zero, i.size, i.bytes)) = some (some z, s, b)) : ∃ i, P.info? e = some i ∧ i.zero = some z ∧ i.size = s ∧ i.bytes = b := by
  cases hq : P.info? e with
  | none => simp [hq] at hi
  | some i => simp [hq] at hi; exact ⟨i, rfl, hi⟩

/-- append of one record that was made just now. -/
theorem run_appR (ty : TypeId) (w : World) (base : Nat) (A : Option Addr) (n c : Nat) (l : List Rec) (hown : ROwn w base A n c l) (g : Nat) (r : Rec) (hg : Blk w g 37 (recC r).toArray) (hsm : n ≤ 1000000) (hb : base ≤ w.heap.size) :
    ∃ A' c' w', (Builtin.append_ #[22, 22] ty #[.slice A n c, .slice (some ⟨g, 0, none⟩) 1 1]).run Tryd.prog w = .ok (.slice A' (n + 1) c') w' ∧ ROwn w' base A' (n + 1) c' (l ++ [r]) ∧ Frm (fun k => some k = (Value.slice A n c).ownBlock) w w' ∧ ((Value.slice A' (n + 1) c').ownBlock = (Value.slice A n c).ownBlock ∨ (Value.slice A' (n + 1) c').ownBlock = some w.heap.size) := by
  obtain ⟨i, hi, hz, hs, hbb⟩ := info_split infoR
  obtain ⟨v', w', h2, h3, h4, _, h5⟩ := run_append_own_at (P := Tryd.prog) w base 22 ty 37 i (recV default) 4 16 underR hi hz hs hbb rfl (by omega) (.slice A n c) n (cellsR l) hown ⟨g, 0, none⟩ 1 1 (cellsR [r]) (by simp [cellsR]) (fun j u hu => by
    rw [addr_add, hg.cell]
    simpa [cellsR, recC] using hu) (cellsR_one _) (by simp only [maxLen]; omega) (by omega) hb
  have hf : ∃ A' c', v' = .slice A' (n + 1) c' := by
    rcases h3.2 with ⟨rfl, h0⟩ | ⟨g, cap, cur, rfl, _⟩
    · omega
    · exact ⟨_, _, rfl⟩
  obtain ⟨A', c', rfl⟩ := hf
  refine ⟨A', c', w', h2, ?_, Frm.of_grown h4, h5⟩
  rw [← cellsR_append] at h3
  exact h3
theorem wpl_appR {ops : Array Oper} {rest : List Oper} {op : Oper} {a : Act} {Q : Exit → Act → World → Prop} (hgd : op.guard = none) (s x : Operand)
    (ho : op.op = .call { callee := .builtin .append, args := #[s, x], argTypes := #[22, 22] }) (w : World) (base : Nat) (A : Option Addr) (n c : Nat) (l : List Rec) (hs : a.eval s = .slice A n c) (hown : ROwn w base A n c l)
    (g : Nat) (r : Rec) (hx : a.eval x = .slice (some ⟨g, 0, none⟩) 1 1) (hg : Blk w g 37 (recC r).toArray) (nm : Nat) (hnm : nm = n + 1) (hsm : n ≤ 1000000) (hb : base ≤ w.heap.size)
    (h : ∀ A' c' w', ROwn w' base A' nm c' (l ++ [r]) → Frm (fun k => some k = (Value.slice A n c).ownBlock) w w' → wpList Tryd.prog ops Q rest (a.put op.dst (.slice A' nm c')) w') : wpList Tryd.prog ops Q (op :: rest) a w := by
  subst hnm
  obtain ⟨A', c', w', hrun, h2, h3, _⟩ := run_appR op.type w base A n c l hown g r hg hsm hb
  refine wpList_plain hgd fun _ hK => ?_
  unfold Oper.wp execOp
  simp only [ho, resolve, invoke, builtin, Sem.run_bind, Sem.run_pure, Result.andThen_ok, List.map_toArray, List.map_cons, List.map_nil, hs, hx, hrun]
  exact hK _ _ (h A' c' w' h2 h3)

/-! Ranging over the map. -/
theorem wpl_range_dir {ops : Array Oper} {rest : List Oper} {op : Oper} {a : Act} {w : World} {Q : Exit → Act → World → Prop} (hgd : op.guard = none) (m : Operand) (ho : op.op = .range 67 m) (b : Nat) (D : List Rec)
    (hm : a.eval m = .map (some b)) (hown : MapAt w b D)
    (h : ∀ w', Ranging w' b w.heap.size D D → Frm (fun _ => False) w w' → wpList Tryd.prog ops Q rest (a.put op.dst (.pointer (some ⟨w.heap.size, 0, none⟩))) w') : wpList Tryd.prog ops Q (op :: rest) a w := by
  refine wpList_plain hgd fun K' hK' => ?_
  obtain ⟨w', hrun, r1, r2, r3⟩ := run_range_dir w b D hown
  unfold Oper.wp
  simp [execOp, ho, hm, hrun, Result.andThen]
  exact hK' _ _ (h w' r1 r2)
theorem wpl_next_dir {ops : Array Oper} {rest : List Oper} {op : Oper} {a : Act} {w : World} {Q : Exit → Act → World → Prop} (hgd : op.guard = none) (it : Operand) (ho : op.op = .next it false) (b r : Nat) (D l : List Rec)
    (hit : a.eval it = .pointer (some ⟨r, 0, none⟩)) (hr : Ranging w b r D l)
    (hDone : l = [] → wpList Tryd.prog ops Q rest (a.put op.dst (.tuple #[.bool false])) w)
    (hMore : ∀ x l' w', (x :: l').Perm l → Ranging w' b r D l' → Frm (fun k => k = r) w w' → (Instr.entry (.pointer (some ⟨r, 0, none⟩))).run Tryd.prog w' = .ok (.tuple #[keyV x, restV x]) w' →
      wpList Tryd.prog ops Q rest (a.put op.dst (.tuple #[.bool true, keyV x, restV x])) w') : wpList Tryd.prog ops Q (op :: rest) a w := by
  refine wpList_plain hgd fun K' hK' => ?_
  unfold Oper.wp
  rcases run_next_dir w op.type b r D l hr with ⟨h0, hrun⟩ | ⟨x, l', w', hp, hrun, hr', hf, hen⟩
  · simp [execOp, ho, hit, hrun, Result.andThen]
    exact hK' _ _ (hDone h0)
  · simp [execOp, ho, hit, hrun, Result.andThen]
    exact hK' _ _ (hMore x l' w' hp hr' hf hen)
theorem Ranging.count {w : World} {b r : Nat} {D l : List Rec} (h : Ranging w b r D l) : w.rangeLeft b r = l.length := by
  obtain ⟨es, clock, since, c0, seen, L, hb, hst, hes, hp, hr, hold, hsc, hsk, lo, hlo, hpl⟩ := h
  simp only [World.rangeLeft, hb, hr]
  rw [← hpl.length_eq]
  have := congrArg List.length hlo
  simpa using this
end Go.Proofs.YtjicnfkodieaaaaDoor
