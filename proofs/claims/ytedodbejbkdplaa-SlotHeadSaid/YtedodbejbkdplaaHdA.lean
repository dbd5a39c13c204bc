/-
  Rows of slots: slices whose elements are structs of forty cells: made of one, appended to, read.
-/
import Derived.Test.YtedodbejbkdplaaCutsW
import Derived.Great.FillDense
import Derived.Great.BuildSlice
namespace Go.Proofs.Ytedodbejbkdplaa
set_option linter.unusedVariables false
set_option linter.unusedSimpArgs false
open Go.RowKit

/-- The cells of slots. -/
def cellsL : List Slot → List Value
  | [] => []
  | s :: l => slotC s ++ cellsL l
def OkL (l : List Slot) : Prop := ∀ s ∈ l, s.ok
theorem slotC_len {s : Slot} (h : s.ok) : (slotC s).length = 40 := slotC_length s h.nonce h.mac
theorem cellsL_length : ∀ {l : List Slot}, OkL l → (cellsL l).length = l.length * 40
  | [], _ => rfl
  | s :: l, h => by
    have h1 := slotC_len (h s (by simp))
    have h2 := cellsL_length (l := l) (fun x hx => h x (by simp [hx]))
    simp only [cellsL, List.length_append, List.length_cons, h1, h2]
    omega
theorem cellsL_append : ∀ l m, cellsL (l ++ m) = cellsL l ++ cellsL m
  | [], m => rfl
  | s :: l, m => by simp [cellsL, cellsL_append l m]
theorem cellsL_one : ∀ l, ∀ u ∈ cellsL l, u.oneCell' = true
  | [], u, h => by cases h
  | s :: l, u, h => by
    rcases List.mem_append.1 h with h | h
    · exact slotC_one s u h
    · exact cellsL_one l u h
theorem cellsL_at : ∀ (l : List Slot) (j q : Nat), OkL l → j < l.length → q < 40 → (cellsL l)[j * 40 + q]? = (slotC (l.getD j slot0))[q]?
  | [], j, q, _, h, _ => by simp at h
  | s :: l, 0, q, ho, h, hq => by
    rw [cellsL, Nat.zero_mul, Nat.zero_add, List.getElem?_append_left (by rw [slotC_len (ho s (by simp))]; exact hq)]
    rfl
  | s :: l, j + 1, q, ho, h, hq => by
    have := cellsL_at l j q (fun x hx => ho x (by simp [hx])) (by simpa using h) hq
    have h1 := slotC_len (ho s (by simp))
    rw [cellsL, List.getElem?_append_right (by rw [h1]; omega), h1, show (j + 1) * 40 + q - 40 = j * 40 + q by omega, this]
    rfl
theorem underSl : Try.prog.underlying 72 = some (.slice 32) := Try.underlying72
theorem infoS : (Try.prog.info? 32).map (fun i => (i.zero, i.size, i.bytes)) = some (some (.agg (slotC slot0).toArray), 40, 72) := by kernel_rfl

/-- A row of slots of one's own, from block B on. -/
def SOwn (w : World) (B : Nat) (A : Option Addr) (n c : Nat) (l : List Slot) : Prop := OkL l ∧ w.ownsRow B 32 40 (.slice A n c) n (cellsL l)
section
variable {w w' : World} {B n c : Nat} {A : Option Addr} {l : List Slot}
theorem SOwn.len (h : SOwn w B A n c l) : l.length = n := by have := h.2.1; rw [cellsL_length h.1] at this; omega
theorem SOwn.block (h : SOwn w B A n c l) : (A = none ∧ n = 0 ∧ c = 0) ∨ ∃ g cur, A = some ⟨g, 0, none⟩ ∧ B ≤ g ∧ w.heap[g]? = some (.cells cur 32 (0, 0)) ∧ n ≤ c ∧ c ≤ maxLen ∧ cur.size = c * 40 ∧ cur.toList.take (n * 40) = cellsL l := by
  rcases h.2.2 with ⟨hv, h0⟩ | ⟨g, cap, cur, hv, hb, hg, h1, h2, h3, h4⟩
  · injection hv with h1 h2 h3
    exact .inl ⟨h1, h0, h3⟩
  · injection hv with hA _ hc
    subst hA hc
    exact .inr ⟨g, cur, rfl, hb, hg, h1, h2, h3, h4⟩
theorem SOwn.frm {S : Nat → Prop} (h : SOwn w B A n c l) (f : Frm S w w') (hS : ∀ k, (Value.slice A n c).ownBlock = some k → ¬ S k) : SOwn w' B A n c l := by
  refine ⟨h.1, h.2.1, ?_⟩
  rcases h.2.2 with h0 | ⟨g', cap, cur, hv, hbs, hg, hr⟩
  · exact .inl h0
  · exact .inr ⟨g', cap, cur, hv, hbs, Blk.frm (t := 32) hg f (hS g' (by rw [hv]; rfl)), hr⟩
theorem SOwn.frm0 (h : SOwn w B A n c l) (f : Frm (fun _ => False) w w') : SOwn w' B A n c l := h.frm f (fun _ _ h => h)
theorem SOwn.ge (h : SOwn w B A n c l) : ∀ k, (Value.slice A n c).ownBlock = some k → B ≤ k ∧ k < w.heap.size := by
  intro k hk
  rcases h.block with ⟨rfl, _⟩ | ⟨g, cur, rfl, hb, hg, _⟩
  · cases hk
  · have : g = k := by simpa [Value.ownBlock] using hk
    subst this
    exact ⟨hb, (Array.getElem?_eq_some_iff.1 hg).1⟩
theorem SOwn.nil (w : World) (B : Nat) : SOwn w B none 0 0 [] := ⟨(fun _ h => by cases h), rfl, .inl ⟨rfl, rfl⟩⟩
/-- Its cells, one by one. -/
theorem SOwn.cells (h : SOwn w B A n c l) (hn : 0 < n) : ∃ g, A = some ⟨g, 0, none⟩ ∧ B ≤ g ∧ g < w.heap.size ∧ ∀ j q, j < n → q < 40 → w.cell? ⟨g, j * 40 + q, none⟩ = (slotC (l.getD j slot0))[q]? := by
  have hl := h.len
  rcases h.block with ⟨rfl, h0, _⟩ | ⟨g, cur, rfl, hb, hg, h1, h2, h3, h4⟩
  · omega
  · have hB : Blk w g 32 cur := hg
    refine ⟨g, rfl, hb, hB.lt, fun j q hj hq => ?_⟩
    rw [hB.cell, ← cellsL_at l j q h.1 (by omega) hq, ← h4, List.getElem?_take, if_pos (by omega)]
    simp
end
theorem info_split {P : Program} {e : TypeId} {z : Value} {s b : Nat} (hi : (P.info? e).map (fun i => (i.zero, i.size, i.bytes)) = some (some z, s, b)) : ∃ i, P.info? e = some i ∧ i.zero = some z ∧ i.size = s ∧ i.bytes = b := by
  cases hq : P.info? e with
  | none => simp [hq] at hi
  | some i => simp [hq] at hi; exact ⟨i, rfl, hi⟩
/-- append of one slot that was made just now. -/
theorem run_appS (ty : TypeId) (w : World) (base : Nat) (A : Option Addr) (n c : Nat) (l : List Slot) (hown : SOwn w base A n c l) (g : Nat) (r : Slot) (hr : r.ok) (hg : Blk w g 32 (slotC r).toArray) (hsm : n ≤ 100000) (hb : base ≤ w.heap.size) :
    ∃ A' c' w', (Builtin.append_ #[72, 72] ty #[.slice A n c, .slice (some ⟨g, 0, none⟩) 1 1]).run Try.prog w = .ok (.slice A' (n + 1) c') w' ∧ SOwn w' base A' (n + 1) c' (l ++ [r]) ∧ Frm (fun k => some k = (Value.slice A n c).ownBlock) w w' ∧ ((Value.slice A' (n + 1) c').ownBlock = (Value.slice A n c).ownBlock ∨ (Value.slice A' (n + 1) c').ownBlock = some w.heap.size) := by
  obtain ⟨i, hi, hz, hs, hbb⟩ := info_split infoS
  have hone : OkL [r] := fun x hx => by rw [List.mem_singleton.1 hx]; exact hr
  obtain ⟨v', w', h2, h3, h4, _, h5⟩ := run_append_own_at (P := Try.prog) w base 72 ty 32 i (.agg (slotC slot0).toArray) 40 72 underSl hi hz hs hbb rfl (by omega) (.slice A n c) n (cellsL l) hown.2 ⟨g, 0, none⟩ 1 1 (cellsL [r]) (by rw [cellsL_length hone]; rfl) (fun j u hu => by
    rw [addr_add, hg.cell]
    simpa [cellsL] using hu) (cellsL_one _) (by simp only [maxLen]; omega) (by omega) hb
  have hf : ∃ A' c', v' = .slice A' (n + 1) c' := by
    rcases h3.2 with ⟨rfl, h0⟩ | ⟨g, cap, cur, rfl, _⟩
    · omega
    · exact ⟨_, _, rfl⟩
  obtain ⟨A', c', rfl⟩ := hf
  refine ⟨A', c', w', h2, ?_, Frm.of_grown h4, h5⟩
  rw [← cellsL_append] at h3
  refine ⟨fun x hx => ?_, h3⟩
  rcases List.mem_append.1 hx with hx | hx
  · exact hown.1 x hx
  · exact hone x hx
theorem wpl_appS {ops : Array Oper} {rest : List Oper} {op : Oper} {a : Act} {Q : Exit → Act → World → Prop} (hgd : op.guard = none) (s x : Operand)
    (ho : op.op = .call { callee := .builtin .append, args := #[s, x], argTypes := #[72, 72] }) (w : World) (base : Nat) (A : Option Addr) (n c : Nat) (l : List Slot) (hs : a.eval s = .slice A n c) (hown : SOwn w base A n c l)
    (g : Nat) (r : Slot) (hr : r.ok) (hx : a.eval x = .slice (some ⟨g, 0, none⟩) 1 1) (hg : Blk w g 32 (slotC r).toArray) (hsm : n ≤ 100000) (hb : base ≤ w.heap.size)
    (h : ∀ A' c' w', SOwn w' base A' (n + 1) c' (l ++ [r]) → Frm (fun k => some k = (Value.slice A n c).ownBlock) w w' → wpList Try.prog ops Q rest (a.put op.dst (.slice A' (n + 1) c')) w') : wpList Try.prog ops Q (op :: rest) a w := by
  obtain ⟨A', c', w', hrun, h2, h3, _⟩ := run_appS op.type w base A n c l hown g r hr hg hsm hb
  refine wpList_plain hgd fun _ hK => ?_
  unfold Oper.wp execOp
  simp only [ho, resolve, invoke, builtin, Sem.run_bind, Sem.run_pure, Result.andThen_ok, List.map_toArray, List.map_cons, List.map_nil, hs, hx, hrun]
  exact hK _ _ (h A' c' w' h2 h3)
/-- A row made of one slot. -/
theorem run_made1 (w : World) (cs : List Value) (hl : cs.length = 40) : (Instr.buildSlice 72 1 #[(0, .agg cs.toArray)]).run Try.prog w = .ok (.slice (some ⟨w.heap.size, 0, none⟩) 1 1) (w.alloc (.cells cs.toArray 32)) := by
  obtain ⟨i, hi, hz, hs, hbb⟩ := info_split infoS
  have hf := Go.Great.fill_whole (s := 40) (by decide) [.agg cs.toArray] ((Array.range (1 * 40)).map ((Value.agg (slotC slot0).toArray).cells[· % (Value.agg (slotC slot0).toArray).cells.size]!)) (by simp [Value.cells, hl]) (by simp)
  refine run_buildSlice w _ _ 1 _ cs.toArray i _ underSl hi hz (by rw [hs]; decide) (by rw [hs]; decide) ?_
  rw [hs]
  refine hf.trans ?_
  simp [Value.cells]
theorem wpl_made1 {ops : Array Oper} {rest : List Oper} {op : Oper} {a : Act} {w : World} {Q : Exit → Act → World → Prop} (hgd : op.guard = none) (x : Operand) (ho : op.op = .buildSlice 72 1 #[(0, x)]) (cs : List Value) (hl : cs.length = 40) (hx : a.eval x = .agg cs.toArray)
    (h : ∀ g w', Blk w' g 32 cs.toArray → w.heap.size ≤ g → Frm (fun _ => False) w w' → wpList Try.prog ops Q rest (a.put op.dst (.slice (some ⟨g, 0, none⟩) 1 1)) w') : wpList Try.prog ops Q (op :: rest) a w := by
  refine wpList_plain hgd fun K hK => ?_
  unfold Oper.wp execOp
  simp only [ho, List.map_toArray, List.map_cons, List.map_nil, hx, Sem.run_bind, run_made1 w cs hl, Result.andThen_ok, Sem.run_pure]
  exact hK _ _ (h _ _ (Blk.new _ _ _) (Nat.le_refl _) (Frm.alloc _ _ _))
/-- A whole slot at an address. -/
theorem held_loadAt {op : Oper} {a : Act} {w : World} (x : Operand) (ho : op.op = .load 32 x)
    (ad : Addr) (hx : a.eval x = .pointer (some ad)) (r : Slot) (hr : r.ok) (hc : ∀ q u, (slotC r)[q]? = some u → w.cell? (ad.add q) = some u) : (execOp a.eval op).run Try.prog w = .ok (.value (.agg (slotC r).toArray)) w := by
  obtain ⟨⟨d, hu, hd⟩, hi⟩ := aggS
  have h1 : (loadCells ad (slotC r).length).run Try.prog w = .ok (slotC r).toArray w := run_loadCells_list (P := Try.prog) w ad (slotC r) (fun j v hv => hc j v hv)
  have h2 : (loadVar 32 ad).run Try.prog w = .ok (.agg (slotC r).toArray) w := by
    cases hq : Try.prog.info? 32 with
    | none => simp [hq] at hi
    | some i =>
      have hs : i.size = 40 := by simpa [hq] using hi
      have hagg : (isAgg 32).run Try.prog w = .ok true w := by
        unfold isAgg
        rw [Sem.run_bind, run_underlying hu w]
        cases d <;> simp_all [isAggD]
      rw [slotC_len hr] at h1
      simp [loadVar, Sem.run_bind, hagg, sizeOf, typeInfo, hq, hs, h1]
  unfold execOp
  simp only [ho, hx, Instr.loadAt, Instr.sureAddr, Sem.run_bind, Sem.run_pure, Result.andThen_ok, h2]
end Go.Proofs.Ytedodbejbkdplaa
