/-
  Rows of things: slices whose elements are structs of a tick, a number and a value of some kind. Laws of the walk.
-/
import Derived.Test.YtjpmicjlbkdcbaaHqG
import Derived.Test.YtjpmicjlbkdcbaaHqL
import Derived.Deep.MidRow
import Derived.Deep.QuietTactic
import Derived.BigQuiet
import Derived.Laws.OwnMore
namespace Go.Proofs.Ytjpmicjlbkdcbaa
set_option linter.unusedVariables false
set_option linter.unusedSimpArgs false
open Go.RowKit

/-- The cells of things. -/
def thC (κ : IntKind) (s : Th) : List Value := [.int .u64 (s.t : Int), .int .u64 (s.n : Int), .int κ s.x]
def cellsT (κ : IntKind) : List Th → List Value
  | [] => []
  | s :: l => .int .u64 (s.t : Int) :: .int .u64 (s.n : Int) :: .int κ s.x :: cellsT κ l
section
variable {κ : IntKind}
theorem thC_length (s : Th) : (thC κ s).length = 3 := rfl
theorem thC_one (s : Th) : ∀ u ∈ thC κ s, u.oneCell' = true := by
  intro u hu
  simp [thC] at hu
  rcases hu with rfl | rfl | rfl <;> rfl
theorem cellsT_cons (s : Th) (l : List Th) : cellsT κ (s :: l) = thC κ s ++ cellsT κ l := rfl
theorem cellsT_length : ∀ l, (cellsT κ l).length = l.length * 3
  | [] => rfl
  | s :: l => by simp [cellsT, cellsT_length l]; omega
theorem cellsT_append : ∀ l m, cellsT κ (l ++ m) = cellsT κ l ++ cellsT κ m
  | [], m => rfl
  | s :: l, m => by simp [cellsT, cellsT_append l m]
theorem cellsT_one : ∀ l, ∀ u ∈ cellsT κ l, u.oneCell' = true
  | [], u, h => by cases h
  | s :: l, u, h => by
    rw [cellsT_cons] at h
    rcases List.mem_append.1 h with h | h
    · exact thC_one s u h
    · exact cellsT_one l u h
theorem cellsT_take : ∀ (l : List Th) (k : Nat), (cellsT κ l).take (k * 3) = cellsT κ (l.take k)
  | [], k => by simp [cellsT]
  | s :: l, 0 => by simp [cellsT]
  | s :: l, k + 1 => by
    rw [cellsT_cons, show (k + 1) * 3 = (thC κ s).length + k * 3 by rw [thC_length]; omega, List.take_length_add_append, cellsT_take l k]
    rfl
theorem cellsT_drop : ∀ (l : List Th) (k : Nat), (cellsT κ l).drop (k * 3) = cellsT κ (l.drop k)
  | [], k => by simp [cellsT]
  | s :: l, 0 => by simp [cellsT]
  | s :: l, k + 1 => by
    rw [cellsT_cons, show (k + 1) * 3 = (thC κ s).length + k * 3 by rw [thC_length]; omega, List.drop_length_add_append, cellsT_drop l k]
    rfl
theorem cellsT_at : ∀ (l : List Th) (j q : Nat), j < l.length → q < 3 → (cellsT κ l)[j * 3 + q]? = (thC κ (at_ l j))[q]?
  | [], j, q, h, _ => by simp at h
  | s :: l, 0, q, h, hq => by
    rw [cellsT_cons, Nat.zero_mul, Nat.zero_add, List.getElem?_append_left (by rw [thC_length]; exact hq)]
    rfl
  | s :: l, j + 1, q, h, hq => by
    have := cellsT_at l j q (by simpa using h) hq
    rw [cellsT_cons, List.getElem?_append_right (by rw [thC_length]; omega), thC_length, show (j + 1) * 3 + q - 3 = j * 3 + q by omega, this]
    rfl
theorem cellsT_splice : ∀ (l : List Th) (j : Nat) (s : Th) (rest : List Value), j < l.length → splice (cellsT κ l ++ rest) (j * 3) (thC κ s) = cellsT κ (l.set j s) ++ rest
  | [], j, s, rest, h => by simp at h
  | x :: l, 0, s, rest, h => by simp [splice, cellsT, thC]
  | x :: l, j + 1, s, rest, h => by
    have h1 := cellsT_splice l j s rest (by simpa using h)
    show splice (Value.int .u64 (x.t : Int) :: .int .u64 (x.n : Int) :: .int κ x.x :: (cellsT κ l ++ rest)) ((j + 1) * 3) (thC κ s) = _
    rw [show (j + 1) * 3 = j * 3 + 1 + 1 + 1 by omega, splice_cons, splice_cons, splice_cons, h1]
    rfl
theorem cellsT_drop3 (l : List Th) (j : Nat) (rest : List Value) (h : j < l.length) : ((cellsT κ l ++ rest).drop (j * 3)).take 3 = thC κ (at_ l j) := by
  rw [List.drop_append_of_le_length (by rw [cellsT_length]; omega), cellsT_drop, List.drop_eq_getElem_cons h, ← at_eq h, cellsT_cons, List.append_assoc]
  exact List.take_left' (thC_length _)
end

/-- A block that holds a row of things, with room. -/
def RowB (w : World) (E : TypeId) (κ : IntKind) (r c : Nat) (L : List Th) : Prop := ∃ rest : List Value, Blk w r E (cellsT κ L ++ rest).toArray ∧ L.length * 3 + rest.length = c * 3 ∧ c ≤ maxLen
section
variable {w w' : World} {E : TypeId} {κ : IntKind} {r c : Nat} {L : List Th}
theorem RowB.lt (h : RowB w E κ r c L) : r < w.heap.size := by obtain ⟨rest, hb, _⟩ := h; exact hb.lt
theorem RowB.frm {S : Nat → Prop} (h : RowB w E κ r c L) (f : Frm S w w') (hS : ¬ S r) : RowB w' E κ r c L := by
  obtain ⟨rest, hb, hr⟩ := h
  exact ⟨rest, hb.frm f hS, hr⟩
theorem RowB.frm0 (h : RowB w E κ r c L) (f : Frm (fun _ => False) w w') : RowB w' E κ r c L := h.frm f (fun h => h)
theorem RowB.cell (h : RowB w E κ r c L) (j q : Nat) (hj : j < L.length) (hq : q < 3) : w.cell? ⟨r, j * 3 + q, none⟩ = (thC κ (at_ L j))[q]? := by
  obtain ⟨rest, hb, hr⟩ := h
  rw [hb.cell, List.getElem?_toArray, List.getElem?_append_left (by rw [cellsT_length]; omega), cellsT_at L j q hj hq]
theorem RowB.cells (h : RowB w E κ r c L) (j : Nat) (hj : j < L.length) : w.cell? ⟨r, j * 3, none⟩ = some (.int .u64 ((at_ L j).t : Int)) ∧ w.cell? ⟨r, j * 3 + 1, none⟩ = some (.int .u64 ((at_ L j).n : Int)) ∧ w.cell? ⟨r, j * 3 + 2, none⟩ = some (.int κ (at_ L j).x) :=
  ⟨h.cell j 0 hj (by omega), h.cell j 1 hj (by omega), h.cell j 2 hj (by omega)⟩
theorem RowB.cap (h : RowB w E κ r c L) : L.length ≤ c ∧ c ≤ maxLen := by
  obtain ⟨rest, hb, h1, h2⟩ := h
  exact ⟨by omega, h2⟩
theorem RowB.ne {g : Nat} {t : TypeId} {cs : Array Value} (h : RowB w E κ r c L) (hb : Blk w g t cs) (hne : E ≠ t) : r ≠ g := by
  obtain ⟨rest, hb', _⟩ := h
  exact hb'.ne hb hne
/-- Cut short. -/
theorem RowB.short (h : RowB w E κ r c L) (k : Nat) (hk : k ≤ L.length) : RowB w E κ r c (L.take k) := by
  obtain ⟨rest, hb, h1, h2⟩ := h
  refine ⟨cellsT κ (L.drop k) ++ rest, ?_, ?_, h2⟩
  · rw [← List.append_assoc, ← cellsT_append, List.take_append_drop]
    exact hb
  · rw [List.length_append, cellsT_length, List.length_take, List.length_drop]
    omega
end

/-- What a row's element type is. -/
structure IsT (P : Program) (E TS : TypeId) (κ : IntKind) : Prop where
  agg : Agg P E 3
  under : P.underlying TS = some (.slice E)
  info : ∃ i, P.info? E = some i ∧ i.zero = some (.agg (thC κ default).toArray) ∧ i.size = 3 ∧ i.bytes = 24
theorem IsT.of {P : Program} {E TS : TypeId} {κ : IntKind} (h1 : (P.underlying E).map isAggD = some true) (h2 : P.underlying TS = some (.slice E)) (h3 : (P.info? E).map (fun i => (i.zero, i.size, i.bytes)) = some (some (.agg (thC κ default).toArray), 3, 24)) : IsT P E TS κ := by
  cases hq : P.info? E with
  | none => simp [hq] at h3
  | some i =>
    simp [hq] at h3
    obtain ⟨h4, h5, h6⟩ := h3
    exact ⟨Agg.of h1 (by simp [hq, h5]), h2, i, hq, h4, h5, h6⟩

section
variable {P : Program} {E TS : TypeId} {κ : IntKind}
/-- A thing of a row, read. -/
theorem held_loadT (o : IsT P E TS κ) {op : Oper} {a : Act} {w : World} (x : Operand) (ho : op.op = .load E x) (r j c : Nat) (L : List Th) (hx : a.eval x = .pointer (some ⟨r, j * 3, none⟩)) (hb : RowB w E κ r c L) (hj : j < L.length) :
    (execOp a.eval op).run P w = .ok (.value (.agg (thC κ (at_ L j)).toArray)) w := by
  obtain ⟨rest, hb, h1, h2⟩ := hb
  have hl := run_load_agg o.agg w r (j * 3) E (cellsT κ L ++ rest) (thC κ (at_ L j)) hb (cellsT_drop3 L j rest hj) (by rw [List.length_append, cellsT_length]; omega)
  unfold execOp
  simp only [ho, hx, Instr.loadAt, Instr.sureAddr, Sem.run_bind, Sem.run_pure, Result.andThen_ok, hl]
theorem wpl_loadT (o : IsT P E TS κ) {ops : Array Oper} {rest : List Oper} {op : Oper} {a : Act} {w : World} {Q : Exit → Act → World → Prop} (hgd : op.guard = none) (x : Operand) (ho : op.op = .load E x)
    (r j c : Nat) (L : List Th) (hx : a.eval x = .pointer (some ⟨r, j * 3, none⟩)) (hb : RowB w E κ r c L) (hj : j < L.length)
    (h : wpList P ops Q rest (a.put op.dst (.agg (thC κ (at_ L j)).toArray)) w) : wpList P ops Q (op :: rest) a w := by
  refine wpList_plain hgd fun K hK => ?_
  unfold Oper.wp
  rw [held_loadT o x ho r j c L hx hb hj]
  exact hK _ _ h

theorem splice_set {α : Type} (cs : List α) (o : Nat) (v : α) (r : List α) (h : o < cs.length) : splice (cs.set o v) (o + 1) r = splice cs o (v :: r) := by
  unfold splice
  rw [List.take_add_one, List.getElem?_set_self h, List.take_set_of_le (Nat.le_refl _), List.drop_set_of_lt (by omega), List.length_cons, show o + 1 + r.length = o + (r.length + 1) by omega]
  simp
theorem Blk.setL {w : World} {g : Nat} {t : TypeId} {cs : List Value} (h : Blk w g t cs.toArray) (i : Nat) (v : Value) : Blk (w.setCell ⟨g, i, none⟩ v) g t (cs.set i v).toArray := by
  have := h.set i v
  simpa using this
theorem blk_setCellsL {g : Nat} {t : TypeId} : ∀ (vs : List Value) (o : Nat) (w : World) (cs : List Value), Blk w g t cs.toArray → o + vs.length ≤ cs.length → Blk (w.setCells g o vs) g t (splice cs o vs).toArray ∧ Frm (fun k => k = g) w (w.setCells g o vs)
  | [], o, w, cs, h, _ => ⟨by simpa [splice, World.setCells] using h, Frm.refl _ _⟩
  | v :: r, o, w, cs, h, hl => by
    rw [List.length_cons] at hl
    obtain ⟨h1, h3⟩ := blk_setCellsL r (o + 1) (w.setCell ⟨g, o, none⟩ v) _ (h.setL o v) (by rw [List.length_set]; omega)
    rw [splice_set cs o v r (by omega)] at h1
    exact ⟨h1, (Frm.setCell w ⟨g, o, none⟩ v (fun k => k = g) rfl).trans h3 (fun i _ hi => hi)⟩
theorem RowB.store {w : World} {r c j : Nat} {L : List Th} (h : RowB w E κ r c L) (hj : j < L.length) (s : Th) : RowB (w.setCells r (j * 3) (thC κ s)) E κ r c (L.set j s) ∧ Frm (fun k => k = r) w (w.setCells r (j * 3) (thC κ s)) := by
  obtain ⟨rest, hb, h1, h2⟩ := h
  obtain ⟨h3, h4⟩ := blk_setCellsL (thC κ s) (j * 3) w _ hb (by rw [List.length_append, cellsT_length, thC_length]; omega)
  rw [cellsT_splice L j s rest hj] at h3
  exact ⟨⟨rest, h3, by rw [List.length_set]; exact h1, h2⟩, h4⟩
/-- A thing put into a row. -/
theorem wp_storeT (o : IsT P E TS κ) {op : Oper} {a : Act} {w : World} {K : Act → World → Prop} {Q : Exit → Act → World → Prop} (x y : Operand) (ho : op.op = .store E x y)
    (r j c : Nat) (L : List Th) (s : Th) (hx : a.eval x = .pointer (some ⟨r, j * 3, none⟩)) (hy : a.eval y = .agg (thC κ s).toArray) (hb : RowB w E κ r c L) (hj : j < L.length)
    (h : ∀ w', RowB w' E κ r c (L.set j s) → Frm (fun k => k = r) w w' → K (a.put op.dst undef) w') : op.wp P a w K Q := by
  refine wp_store_mid E x y ho r (j * 3) (thC κ s).toArray hx hy (fun q hq => ?_) ?_ (all_oneCell_toArray (thC_one s)) ?_
  · obtain ⟨rest, hb, h1, h2⟩ := hb
    have hq3 : q < 3 := hq
    refine ⟨?_, hb.frozen _⟩
    rw [hb.cell, Array.getElem?_eq_getElem (by rw [List.size_toArray, List.length_append, cellsT_length]; omega)]; rfl
  · rw [o.agg.2]; rfl
  · obtain ⟨h3, h4⟩ := hb.store hj s
    exact h _ h3 h4
theorem wpl_storeT (o : IsT P E TS κ) {ops : Array Oper} {rest : List Oper} {op : Oper} {a : Act} {w : World} {Q : Exit → Act → World → Prop} (hgd : op.guard = none) (x y : Operand) (ho : op.op = .store E x y)
    (r j c : Nat) (L : List Th) (s : Th) (hx : a.eval x = .pointer (some ⟨r, j * 3, none⟩)) (hy : a.eval y = .agg (thC κ s).toArray) (hb : RowB w E κ r c L) (hj : j < L.length)
    (h : ∀ w', RowB w' E κ r c (L.set j s) → Frm (fun k => k = r) w w' → wpList P ops Q rest (a.put op.dst undef) w') : wpList P ops Q (op :: rest) a w :=
  wpList_plain hgd fun _ hK => wp_storeT o x y ho r j c L s hx hy hb hj fun w' h1 h2 => hK _ _ (h w' h1 h2)
theorem step_storeT (o : IsT P E TS κ) {ops : Array Oper} {op : Oper} {a : Act} {w : World} {K : Act → World → Prop} {Q : Exit → Act → World → Prop} {D : Prop} (hw : Region.wanted op (yielded ops a.tmps) = true) (x y : Operand) (ho : op.op = .store E x y)
    (r j c : Nat) (L : List Th) (s : Th) (hx : a.eval x = .pointer (some ⟨r, j * 3, none⟩)) (hy : a.eval y = .agg (thC κ s).toArray) (hb : RowB w E κ r c L) (hj : j < L.length)
    (h : ∀ w', RowB w' E κ r c (L.set j s) → Frm (fun k => k = r) w w' → K (a.put op.dst undef) w') : if Region.wanted op (yielded ops a.tmps) = true then Oper.wp P op a w K Q else D := by
  rw [if_pos hw]
  exact wp_storeT o x y ho r j c L s hx hy hb hj h

/-! A row of one's own, empty or not. -/
def TOwn (w : World) (E : TypeId) (κ : IntKind) (B : Nat) (A : Option Addr) (n c : Nat) (L : List Th) : Prop := w.ownsRow B E 3 (.slice A n c) n (cellsT κ L)
variable {w w' : World} {B n c : Nat} {A : Option Addr} {L : List Th}
theorem TOwn.len (h : TOwn w E κ B A n c L) : L.length = n := by have := h.1; rw [cellsT_length] at this; omega
theorem TOwn.nil (w : World) (B : Nat) : TOwn w E κ B none 0 0 [] := ⟨rfl, .inl ⟨rfl, rfl⟩⟩
theorem TOwn.row (h : TOwn w E κ B A n c L) : (A = none ∧ n = 0 ∧ c = 0 ∧ L = []) ∨ ∃ r, A = some ⟨r, 0, none⟩ ∧ B ≤ r ∧ RowB w E κ r c L := by
  have hl := h.len
  rcases h.2 with ⟨hv, h0⟩ | ⟨g, cap, cur, hv, hb, hg, h1, h2, h3, h4⟩
  · injection hv with h1 h2 h3
    exact .inl ⟨h1, h0, h3, List.eq_nil_of_length_eq_zero (by omega)⟩
  · injection hv with hA _ hc
    subst hA hc
    refine .inr ⟨g, rfl, hb, cur.toList.drop (n * 3), ?_, ?_, h2⟩
    · rw [← h4, List.take_append_drop]
      exact hg
    · rw [List.length_drop]
      have h5 : cur.toList.length = c * 3 := by rw [Array.length_toList]; exact h3
      omega
theorem RowB.own {r : Nat} (h : RowB w E κ r c L) (hB : B ≤ r) (hn : L.length = n) : TOwn w E κ B (some ⟨r, 0, none⟩) n c L := by
  subst hn
  obtain ⟨rest, hb, h1, h2⟩ := h
  exact ⟨cellsT_length L, .inr ⟨r, c, _, rfl, hB, hb, by omega, h2, by rw [List.size_toArray, List.length_append, cellsT_length]; exact h1, by
    rw [List.toList_toArray]
    exact List.take_left' (cellsT_length L)⟩⟩
/-- The row's block. -/
def rowOf : Option Addr → Option Nat := fun A => A.map (·.block)
theorem own_rowOf (A : Option Addr) (n c : Nat) : (Value.slice A n c).ownBlock = rowOf A := by cases A <;> rfl
theorem TOwn.frm {S : Nat → Prop} (h : TOwn w E κ B A n c L) (f : Frm S w w') (hS : ∀ k, rowOf A = some k → ¬ S k) : TOwn w' E κ B A n c L := by
  rcases h.row with ⟨rfl, rfl, rfl, rfl⟩ | ⟨r, rfl, hB, hr⟩
  · exact TOwn.nil _ _
  · exact (hr.frm f (hS r rfl)).own hB h.len
theorem TOwn.frm0 (h : TOwn w E κ B A n c L) (f : Frm (fun _ => False) w w') : TOwn w' E κ B A n c L := h.frm f (fun _ _ h => h)
theorem TOwn.ge (h : TOwn w E κ B A n c L) : ∀ k, rowOf A = some k → B ≤ k ∧ k < w.heap.size := by
  intro k hk
  rcases h.row with ⟨rfl, rfl, rfl, rfl⟩ | ⟨r, rfl, hB, hr⟩
  · cases hk
  · have : r = k := Option.some.inj hk
    subst this
    exact ⟨hB, hr.lt⟩
theorem TOwn.ne {g : Nat} {t : TypeId} {cs : Array Value} (h : TOwn w E κ B A n c L) (hb : Blk w g t cs) (hne : E ≠ t) : rowOf A ≠ some g := by
  rcases h.row with ⟨rfl, rfl, rfl, rfl⟩ | ⟨r, rfl, hB, hr⟩
  · intro h; cases h
  · intro h
    exact hr.ne hb hne (Option.some.inj h)
theorem TOwn.base {B' : Nat} (h : TOwn w E κ B A n c L) (hB : B' ≤ B) : TOwn w E κ B' A n c L := by
  rcases h.row with ⟨rfl, rfl, rfl, rfl⟩ | ⟨r, rfl, hBr, hr⟩
  · exact TOwn.nil _ _
  · exact hr.own (Nat.le_trans hB hBr) h.len

/-- Where a row of things may be read. -/
def SrcT (w : World) (κ : IntKind) (A : Option Addr) (m : Nat) (c : Nat) (l : List Th) : Prop := l.length = m ∧ ((A = none ∧ m = 0 ∧ c = 0) ∨ ∃ x, A = some x ∧ ∀ j u, (cellsT κ l)[j]? = some u → w.cell? (x.add j) = some u)
theorem run_appT (o : IsT P E TS κ) (ty : TypeId) (w : World) (base : Nat) (A : Option Addr) (n c : Nat) (l : List Th) (hown : TOwn w E κ base A n c l) (X : Option Addr) (m cc : Nat) (l2 : List Th) (hx : SrcT w κ X m cc l2) (hsm : n + m ≤ 1000000) (hb : base ≤ w.heap.size) :
    ∃ A' c' w', (Builtin.append_ #[TS, TS] ty #[.slice A n c, .slice X m cc]).run P w = .ok (.slice A' (n + m) c') w' ∧ TOwn w' E κ base A' (n + m) c' (l ++ l2) ∧ Frm (fun k => some k = rowOf A) w w' ∧ (rowOf A' = rowOf A ∨ rowOf A' = some w.heap.size) := by
  obtain ⟨i, hi, hz, hs, hbb⟩ := o.info
  obtain ⟨hl, ⟨rfl, rfl, rfl⟩ | ⟨x, rfl, hc⟩⟩ := hx
  · obtain rfl : l2 = [] := List.eq_nil_of_length_eq_zero hl
    exact ⟨A, c, w, run_append_owned_none (P := P) (w := w) base TS ty E i 3 o.under hi (.slice A n c) n (cellsT κ l) hown, by rw [List.append_nil]; exact hown, Frm.refl _ _, .inl rfl⟩
  · obtain ⟨v', w', h2, h3, h4, _, h5⟩ := run_append_own_at (P := P) w base TS ty E i _ 3 24 o.under hi hz hs hbb rfl (by omega) (.slice A n c) n (cellsT κ l) hown x m cc (cellsT κ l2) (by rw [cellsT_length, hl]) hc (cellsT_one _) (by simp only [maxLen]; omega) (by omega) hb
    have hf : ∃ A' c', v' = .slice A' (n + m) c' := by
      rcases h3.2 with ⟨rfl, h0⟩ | ⟨g, cap, cur, rfl, _⟩
      · exact ⟨none, 0, by rw [h0]⟩
      · exact ⟨_, _, rfl⟩
    obtain ⟨A', c', rfl⟩ := hf
    rw [own_rowOf] at h4
    rw [own_rowOf, own_rowOf] at h5
    refine ⟨A', c', w', h2, ?_, Frm.of_grown h4, h5⟩
    rw [← cellsT_append] at h3
    exact h3
theorem wpl_appT (o : IsT P E TS κ) {ops : Array Oper} {rest : List Oper} {op : Oper} {a : Act} {Q : Exit → Act → World → Prop} (hgd : op.guard = none) (s x : Operand)
    (ho : op.op = .call { callee := .builtin .append, args := #[s, x], argTypes := #[TS, TS] }) (w : World) (base : Nat) (A : Option Addr) (n c : Nat) (l : List Th) (hs : a.eval s = .slice A n c) (hown : TOwn w E κ base A n c l)
    (X : Option Addr) (m cc : Nat) (l2 : List Th) (hx : a.eval x = .slice X m cc) (hsrc : SrcT w κ X m cc l2) (nm : Nat) (hnm : nm = n + m) (hsm : n + m ≤ 1000000) (hb : base ≤ w.heap.size)
    (h : ∀ A' c' w', TOwn w' E κ base A' nm c' (l ++ l2) → Frm (fun k => some k = rowOf A) w w' → (rowOf A' = rowOf A ∨ rowOf A' = some w.heap.size) → wpList P ops Q rest (a.put op.dst (.slice A' nm c')) w') : wpList P ops Q (op :: rest) a w := by
  subst hnm
  obtain ⟨A', c', w', hrun, h2, h3, h4⟩ := run_appT o op.type w base A n c l hown X m cc l2 hsrc hsm hb
  refine wpList_plain hgd fun _ hK => ?_
  unfold Oper.wp execOp
  simp only [ho, resolve, invoke, builtin, Sem.run_bind, Sem.run_pure, Result.andThen_ok, List.map_toArray, List.map_cons, List.map_nil, hs, hx, hrun]
  exact hK _ _ (h A' c' w' h2 h3 h4)
theorem step_appT (o : IsT P E TS κ) {ops : Array Oper} {op : Oper} {a : Act} {K : Act → World → Prop} {Q : Exit → Act → World → Prop} {D : Prop} (hw : Region.wanted op (yielded ops a.tmps) = true) (s x : Operand)
    (ho : op.op = .call { callee := .builtin .append, args := #[s, x], argTypes := #[TS, TS] }) (w : World) (base : Nat) (A : Option Addr) (n c : Nat) (l : List Th) (hs : a.eval s = .slice A n c) (hown : TOwn w E κ base A n c l)
    (X : Option Addr) (m cc : Nat) (l2 : List Th) (hx : a.eval x = .slice X m cc) (hsrc : SrcT w κ X m cc l2) (nm : Nat) (hnm : nm = n + m) (hsm : n + m ≤ 1000000) (hb : base ≤ w.heap.size)
    (h : ∀ A' c' w', TOwn w' E κ base A' nm c' (l ++ l2) → Frm (fun k => some k = rowOf A) w w' → (rowOf A' = rowOf A ∨ rowOf A' = some w.heap.size) → K (a.put op.dst (.slice A' nm c')) w') : if Region.wanted op (yielded ops a.tmps) = true then Oper.wp P op a w K Q else D := by
  subst hnm
  rw [if_pos hw]
  obtain ⟨A', c', w', hrun, h2, h3, h4⟩ := run_appT o op.type w base A n c l hown X m cc l2 hsrc hsm hb
  unfold Oper.wp execOp
  simp only [ho, resolve, invoke, builtin, Sem.run_bind, Sem.run_pure, Result.andThen_ok, List.map_toArray, List.map_cons, List.map_nil, hs, hx, hrun]
  exact h A' c' w' h2 h3 h4
/-- One thing that was made just now. -/
theorem SrcT.one {w : World} {g : Nat} {t : TypeId} {s : Th} (h : Blk w g t (thC κ s).toArray) : SrcT w κ (some ⟨g, 0, none⟩) 1 1 [s] :=
  ⟨rfl, .inr ⟨_, rfl, fun j u hu => by
    rw [addr_add, h.cell]
    simpa [cellsT, thC] using hu⟩⟩
theorem SrcT.frm0 {w w' : World} {X : Option Addr} {m c : Nat} {l : List Th} (h : SrcT w κ X m c l) (f : Frm (fun _ => False) w w') : SrcT w' κ X m c l := by
  obtain ⟨hl, h0 | ⟨x, rfl, hc⟩⟩ := h
  · exact ⟨hl, .inl h0⟩
  · exact ⟨hl, .inr ⟨x, rfl, fun j u hu => cell_frm f (hc j u hu) (fun h => h)⟩⟩
/-- The first p of a row, and the others. -/
theorem TOwn.src0 (h : TOwn w E κ B A n c L) (p : Nat) (hp : p ≤ n) : SrcT w κ A p c (L.take p) := by
  have hl := h.len
  refine ⟨by rw [List.length_take]; omega, ?_⟩
  rcases h.row with ⟨rfl, rfl, rfl, rfl⟩ | ⟨r, rfl, hB, rest, hb, h1, h2⟩
  · exact .inl ⟨rfl, by omega, rfl⟩
  · refine .inr ⟨_, rfl, fun j u hu => ?_⟩
    rw [← cellsT_take, List.getElem?_take] at hu
    rw [addr_add, hb.cell, List.getElem?_toArray, Nat.zero_add]
    split at hu
    · rw [List.getElem?_append_left (List.getElem?_eq_some_iff.1 hu).1]
      exact hu
    · cases hu
theorem TOwn.src1 (h : TOwn w E κ B A n c L) (p : Nat) (hp : p ≤ n) : SrcT w κ (if c = p then A else A.map (·.add (p * 3))) (n - p) (c - p) (L.drop p) := by
  have hl := h.len
  refine ⟨by rw [List.length_drop]; omega, ?_⟩
  rcases h.row with ⟨rfl, rfl, rfl, rfl⟩ | ⟨r, rfl, hB, rest, hb, h1, h2⟩
  · exact .inl ⟨by split <;> rfl, by omega, by omega⟩
  · have hcell : ∀ j u, (cellsT κ (L.drop p))[j]? = some u → w.cell? ⟨r, p * 3 + j, none⟩ = some u := by
      intro j u hu
      have hj : j < (L.drop p).length * 3 := by have := (List.getElem?_eq_some_iff.1 hu).1; rwa [cellsT_length] at this
      rw [List.length_drop] at hj
      rw [hb.cell, List.getElem?_toArray, List.getElem?_append_left (by rw [cellsT_length]; omega), ← hu, ← cellsT_drop, List.getElem?_drop]
    by_cases hcp : c = p
    · rw [if_pos hcp]
      refine .inr ⟨_, rfl, fun j u hu => ?_⟩
      have hj : j < (L.drop p).length * 3 := by have := (List.getElem?_eq_some_iff.1 hu).1; rwa [cellsT_length] at this
      rw [List.length_drop] at hj
      omega
    · rw [if_neg hcp]
      refine .inr ⟨_, rfl, fun j u hu => ?_⟩
      rw [show ((⟨r, 0, none⟩ : Addr).add (p * 3)).add j = ⟨r, p * 3 + j, none⟩ by rw [addr_add, addr_add, Nat.zero_add]]
      exact hcell j u hu
theorem tcut0 (o : IsT P E TS κ) (A : Option Addr) (n c j : Nat) (hj : j ≤ c) (w : World) : (Instr.sliceAt TS (.slice A n c) none (some (.int .i64 (j : Int))) none).run P w = .ok (.slice A j c) w := by
  have h0 : A.map (·.add 0) = A := by cases A <;> simp [Addr.add]
  obtain ⟨i, hi, _, hs, _⟩ := o.info
  simp [Instr.sliceAt, Instr.slice, run_underlying o.under, Instr.sliceBounds, Instr.sliceBound, asIntOf, sizeOf, typeInfo, hi, hj, h0]
theorem tcut1 (o : IsT P E TS κ) (A : Option Addr) (n c i : Nat) (hi : i ≤ n) (w : World) : (Instr.sliceAt TS (.slice A n c) (some (.int .i64 (i : Int))) none none).run P w = .ok (.slice (if c = i then A else A.map (·.add (i * 3))) (n - i) (c - i)) w := by
  obtain ⟨d, hq, _, hs, _⟩ := o.info
  simp [Instr.sliceAt, Instr.slice, run_underlying o.under, Instr.sliceBounds, Instr.sliceBound, asIntOf, sizeOf, typeInfo, hq, hs, hi]

/-- clear of a row's last thing: it is no longer of the row. -/
theorem wpl_clearT (o : IsT P E TS κ) {ops : Array Oper} {rest : List Oper} {op : Oper} {a : Act} {w : World} {Q : Exit → Act → World → Prop} (hgd : op.guard = none) (s : Operand)
    (ho : op.op = .call { callee := .builtin .clear, args := #[s], argTypes := #[TS] })
    (r k c cc : Nat) (hs : a.eval s = .slice (some ⟨r, k * 3, none⟩) 1 cc) (L : List Th) (hb : RowB w E κ r c L) (hk : L.length = k + 1)
    (h : ∀ w', RowB w' E κ r c (L.set k default) → Frm (fun i => i = r) w w' → wpList P ops Q rest (a.put op.dst (.tuple #[])) w') : wpList P ops Q (op :: rest) a w := by
  refine wpList_plain hgd fun K hK => ?_
  obtain ⟨i, hq, hz, hsz, hby⟩ := o.info
  have hzv : ∀ w, (zeroValue E).run P w = .ok (.agg (thC κ default).toArray) w := by intro w; simp [zeroValue, typeInfo, hq, hz]
  have hzc : (Builtin.zeroCells (Value.agg (thC κ default).toArray).cells 1).toList = thC κ default := by
    simp [Builtin.zeroCells, Value.cells, thC]
    rfl
  obtain ⟨rs, hb1, h1, h2⟩ := id hb
  have hst := run_storeCells_at P r (k * 3) E (thC κ default) 0 (cellsT κ L ++ rs).toArray w hb1 (by rw [List.size_toArray, List.length_append, cellsT_length, thC_length]; omega) (fun v hv => thC_one _ v hv)
  have e := cellsT_splice (κ := κ) L k default rs (by omega)
  have hr : ∀ ty, (Builtin.clear_ #[TS] ty #[.slice (some ⟨r, k * 3, none⟩) 1 cc]).run P w = .ok (.tuple #[]) (w.setRow r (cellsT κ (L.set k default) ++ rs).toArray) := by
    intro ty
    simp only [Nat.add_zero] at hst
    simp [Builtin.clear_, run_underlying o.under, hzv, hzc, hst]
    rw [← e]
    simp [splice]
  unfold Oper.wp execOp
  simp [ho, resolve, invoke, builtin, hs, hr, Result.andThen]
  exact hK _ _ (h _ ⟨rs, hb1.setRow _, by rw [List.length_set]; exact h1, h2⟩ (Frm.setRow _ _ _))
end
end Go.Proofs.Ytjpmicjlbkdcbaa
