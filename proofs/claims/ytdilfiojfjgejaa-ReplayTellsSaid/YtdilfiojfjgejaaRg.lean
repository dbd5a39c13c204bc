/-
  Rows of aggregates of any kind: slices whose elements are structs of some cells. Laws of the walk.
-/
import Derived.Test.YtdilfiojfjgejaaHqG
import Derived.Deep.MidRow
import Derived.Deep.QuietTactic
import Derived.BigQuiet
import Derived.Laws.OwnMore
import Derived.Great.BuildSlice
namespace Go.Proofs.Ytdilfiojfjgejaa
set_option linter.unusedVariables false
set_option linter.unusedSimpArgs false
open Go.RowKit

/-- A kind of elements: their cells, how many, and the zero one. -/
structure Kd (α : Type) where
  C : α → List Value
  wd : Nat
  d : α
  len : ∀ s, (C s).length = wd
  one : ∀ s, ∀ u ∈ C s, u.oneCell' = true
def cellsT {α : Type} (κ : Kd α) : List α → List Value
  | [] => []
  | s :: l => κ.C s ++ cellsT κ l
def at_ {α : Type} (κ : Kd α) (l : List α) (j : Nat) : α := l.getD j κ.d
theorem ix_lt {j n W q : Nat} (h : j < n) (hq : q < W) : j * W + q < n * W := by
  have h1 : (j + 1) * W ≤ n * W := Nat.mul_le_mul_right _ h
  rw [Nat.succ_mul] at h1
  omega
section
variable {α : Type} {κ : Kd α}
theorem at_eq {l : List α} {j : Nat} (h : j < l.length) : at_ κ l j = l[j] := by
  unfold at_
  rw [List.getD_eq_getElem?_getD, List.getElem?_eq_getElem h]
  rfl
theorem cellsT_cons (s : α) (l : List α) : cellsT κ (s :: l) = κ.C s ++ cellsT κ l := rfl
theorem cellsT_length : ∀ l : List α, (cellsT κ l).length = l.length * κ.wd
  | [] => by simp [cellsT]
  | s :: l => by rw [cellsT_cons, List.length_append, κ.len, cellsT_length l, List.length_cons, Nat.succ_mul, Nat.add_comm]
theorem cellsT_append : ∀ l m : List α, cellsT κ (l ++ m) = cellsT κ l ++ cellsT κ m
  | [], m => rfl
  | s :: l, m => by simp [cellsT, cellsT_append l m]
theorem cellsT_one : ∀ l : List α, ∀ u ∈ cellsT κ l, u.oneCell' = true
  | [], u, h => by cases h
  | s :: l, u, h => by
    rw [cellsT_cons] at h
    rcases List.mem_append.1 h with h | h
    · exact κ.one s u h
    · exact cellsT_one l u h
theorem cellsT_take : ∀ (l : List α) (k : Nat), (cellsT κ l).take (k * κ.wd) = cellsT κ (l.take k)
  | [], k => by simp [cellsT]
  | s :: l, 0 => by simp [cellsT]
  | s :: l, k + 1 => by
    rw [cellsT_cons, show (k + 1) * κ.wd = (κ.C s).length + k * κ.wd by rw [κ.len, Nat.succ_mul, Nat.add_comm], List.take_length_add_append, cellsT_take l k]
    rfl
theorem cellsT_drop : ∀ (l : List α) (k : Nat), (cellsT κ l).drop (k * κ.wd) = cellsT κ (l.drop k)
  | [], k => by simp [cellsT]
  | s :: l, 0 => by simp [cellsT]
  | s :: l, k + 1 => by
    rw [cellsT_cons, show (k + 1) * κ.wd = (κ.C s).length + k * κ.wd by rw [κ.len, Nat.succ_mul, Nat.add_comm], List.drop_length_add_append, cellsT_drop l k]
    rfl
theorem cellsT_at : ∀ (l : List α) (j q : Nat), j < l.length → q < κ.wd → (cellsT κ l)[j * κ.wd + q]? = (κ.C (at_ κ l j))[q]?
  | [], j, q, h, _ => by simp at h
  | s :: l, 0, q, h, hq => by
    rw [cellsT_cons, Nat.zero_mul, Nat.zero_add, List.getElem?_append_left (by rw [κ.len]; exact hq)]
    rfl
  | s :: l, j + 1, q, h, hq => by
    have := cellsT_at l j q (by simpa using h) hq
    rw [cellsT_cons, List.getElem?_append_right (by rw [κ.len, Nat.succ_mul]; omega), κ.len, show (j + 1) * κ.wd + q - κ.wd = j * κ.wd + q by rw [Nat.succ_mul]; omega, this]
    rfl
theorem cellsT_mid (l : List α) (j : Nat) (rest : List Value) (h : j < l.length) : ((cellsT κ l ++ rest).drop (j * κ.wd)).take κ.wd = κ.C (at_ κ l j) := by
  rw [List.drop_append_of_le_length (by rw [cellsT_length]; exact Nat.mul_le_mul_right _ (by omega)), cellsT_drop, List.drop_eq_getElem_cons h, ← at_eq (κ := κ) h, cellsT_cons, List.append_assoc]
  exact List.take_left' (κ.len _)
end

/-- A block that holds a row, with room. -/
def RowB {α : Type} (w : World) (E : TypeId) (κ : Kd α) (r c : Nat) (L : List α) : Prop := ∃ rest : List Value, Blk w r E (cellsT κ L ++ rest).toArray ∧ L.length * κ.wd + rest.length = c * κ.wd ∧ L.length ≤ c ∧ c ≤ maxLen
section
variable {α : Type} {w w' : World} {E : TypeId} {κ : Kd α} {r c : Nat} {L : List α}
theorem RowB.lt (h : RowB w E κ r c L) : r < w.heap.size := by obtain ⟨rest, hb, _⟩ := h; exact hb.lt
theorem RowB.frm {S : Nat → Prop} (h : RowB w E κ r c L) (f : Frm S w w') (hS : ¬ S r) : RowB w' E κ r c L := by
  obtain ⟨rest, hb, hr⟩ := h
  exact ⟨rest, hb.frm f hS, hr⟩
theorem RowB.frm0 (h : RowB w E κ r c L) (f : Frm (fun _ => False) w w') : RowB w' E κ r c L := h.frm f (fun h => h)
theorem RowB.cell (h : RowB w E κ r c L) (j q : Nat) (hj : j < L.length) (hq : q < κ.wd) : w.cell? ⟨r, j * κ.wd + q, none⟩ = (κ.C (at_ κ L j))[q]? := by
  obtain ⟨rest, hb, hr⟩ := h
  rw [hb.cell, List.getElem?_toArray, List.getElem?_append_left (by rw [cellsT_length]; exact ix_lt hj hq), cellsT_at L j q hj hq]
theorem RowB.cap (h : RowB w E κ r c L) : L.length ≤ c ∧ c ≤ maxLen := by
  obtain ⟨rest, hb, h1, h2, h3⟩ := h
  exact ⟨h2, h3⟩
theorem RowB.ne {g : Nat} {t : TypeId} {cs : Array Value} (h : RowB w E κ r c L) (hb : Blk w g t cs) (hne : E ≠ t) : r ≠ g := by
  obtain ⟨rest, hb', _⟩ := h
  exact hb'.ne hb hne
end

/-- What a row's element type is. -/
structure IsT {α : Type} (P : Program) (E TS : TypeId) (κ : Kd α) : Prop where
  agg : Agg P E κ.wd
  under : P.underlying TS = some (.slice E)
  pos : 0 < κ.wd
  top : κ.wd ≤ 100000
  info : ∃ i, P.info? E = some i ∧ i.zero = some (.agg (κ.C κ.d).toArray) ∧ i.size = κ.wd ∧ i.bytes ≤ 100000
theorem IsT.of {α : Type} {P : Program} {E TS : TypeId} {κ : Kd α} (by_ : Nat) (h0 : 0 < κ.wd) (h9 : κ.wd ≤ 100000) (h1 : (P.underlying E).map isAggD = some true) (h2 : P.underlying TS = some (.slice E)) (h3 : (P.info? E).map (fun i => (i.zero, i.size, i.bytes)) = some (some (.agg (κ.C κ.d).toArray), κ.wd, by_)) (h4 : by_ ≤ 100000) : IsT P E TS κ := by
  cases hq : P.info? E with
  | none => simp [hq] at h3
  | some i =>
    simp [hq] at h3
    obtain ⟨h5, h6, h7⟩ := h3
    exact ⟨Agg.of h1 (by simp [hq, h6]), h2, h0, h9, i, hq, h5, h6, by omega⟩

section
variable {α : Type} {P : Program} {E TS : TypeId} {κ : Kd α}
/-- An element of a row, read. -/
theorem held_loadT (o : IsT P E TS κ) {op : Oper} {a : Act} {w : World} (x : Operand) (ho : op.op = .load E x) (r j c off : Nat) (L : List α) (hx : a.eval x = .pointer (some ⟨r, off, none⟩)) (hoff : off = j * κ.wd) (hb : RowB w E κ r c L) (hj : j < L.length) :
    (execOp a.eval op).run P w = .ok (.value (.agg (κ.C (at_ κ L j)).toArray)) w := by
  subst hoff
  obtain ⟨rest, hb, h1, h2⟩ := hb
  have hpos := o.pos
  have hix : j * κ.wd + (κ.wd - 1) < L.length * κ.wd := ix_lt hj (by omega)
  have hl := run_load_agg o.agg w r (j * κ.wd) E (cellsT κ L ++ rest) (κ.C (at_ κ L j)) hb (cellsT_mid L j rest hj) (by rw [List.length_append, cellsT_length]; omega)
  unfold execOp
  simp only [ho, hx, Instr.loadAt, Instr.sureAddr, Sem.run_bind, Sem.run_pure, Result.andThen_ok, hl]
theorem wpl_loadT (o : IsT P E TS κ) {ops : Array Oper} {rest : List Oper} {op : Oper} {a : Act} {w : World} {Q : Exit → Act → World → Prop} (hgd : op.guard = none) (x : Operand) (ho : op.op = .load E x)
    (r j c off : Nat) (L : List α) (hx : a.eval x = .pointer (some ⟨r, off, none⟩)) (hoff : off = j * κ.wd) (hb : RowB w E κ r c L) (hj : j < L.length)
    (h : wpList P ops Q rest (a.put op.dst (.agg (κ.C (at_ κ L j)).toArray)) w) : wpList P ops Q (op :: rest) a w := by
  refine wpList_plain hgd fun K hK => ?_
  unfold Oper.wp
  rw [held_loadT o x ho r j c off L hx hoff hb hj]
  exact hK _ _ h

/-! A row of one's own, empty or not. -/
def TOwn (w : World) (E : TypeId) (κ : Kd α) (B : Nat) (A : Option Addr) (n c : Nat) (L : List α) : Prop := L.length = n ∧ w.ownsRow B E κ.wd (.slice A n c) n (cellsT κ L)
variable {w w' : World} {B n c : Nat} {A : Option Addr} {L : List α}
theorem TOwn.len (h : TOwn w E κ B A n c L) : L.length = n := h.1
theorem TOwn.nil (w : World) (B : Nat) : TOwn w E κ B none 0 0 [] := ⟨rfl, by simp [cellsT], .inl ⟨rfl, rfl⟩⟩
theorem TOwn.row (h : TOwn w E κ B A n c L) : (A = none ∧ n = 0 ∧ c = 0 ∧ L = []) ∨ ∃ r, A = some ⟨r, 0, none⟩ ∧ B ≤ r ∧ RowB w E κ r c L := by
  obtain ⟨hl, h0, h⟩ := h
  rcases h with ⟨hv, h0⟩ | ⟨g, cap, cur, hv, hb, hg, h1, h2, h3, h4⟩
  · injection hv with h1 h2 h3
    exact .inl ⟨h1, h0, h3, List.eq_nil_of_length_eq_zero (by omega)⟩
  · injection hv with hA _ hc
    subst hA hc
    refine .inr ⟨g, rfl, hb, cur.toList.drop (n * κ.wd), ?_, ?_, by omega, h2⟩
    · rw [← h4, List.take_append_drop]
      exact hg
    · rw [List.length_drop, hl]
      have h5 : cur.toList.length = c * κ.wd := by rw [Array.length_toList]; exact h3
      have h6 : n * κ.wd ≤ c * κ.wd := Nat.mul_le_mul_right _ h1
      omega
theorem RowB.own {r : Nat} (h : RowB w E κ r c L) (hB : B ≤ r) (hn : L.length = n) : TOwn w E κ B (some ⟨r, 0, none⟩) n c L := by
  subst hn
  obtain ⟨rest, hb, h1, h2, h3⟩ := h
  exact ⟨rfl, cellsT_length L, .inr ⟨r, c, _, rfl, hB, hb, h2, h3, by rw [List.size_toArray, List.length_append, cellsT_length]; exact h1, by
    rw [List.toList_toArray]
    exact List.take_left' (cellsT_length L)⟩⟩
/-- The row's block. -/
def rowOf : Option Addr → Option Nat := fun A => A.map (·.block)
theorem own_rowOf (A : Option Addr) (n c : Nat) : (Value.slice A n c).ownBlock = rowOf A := by cases A <;> rfl
theorem TOwn.frm {S : Nat → Prop} (h : TOwn w E κ B A n c L) (f : Frm S w w') (hS : ∀ k, rowOf A = some k → ¬ S k) : TOwn w' E κ B A n c L := by
  rcases h.row with ⟨rfl, rfl, rfl, rfl⟩ | ⟨r, rfl, hB, hr⟩
  · exact TOwn.nil _ _
  · exact (hr.frm f (hS r rfl)).own hB h.len
theorem TOwn.frm0 (h : TOwn w E κ B A n c L) (f : Frm (fun _ => False) w w') : TOwn w' E κ B A n c L := h.frm f (fun _ _ h => h)
theorem TOwn.ge (h : TOwn w E κ B A n c L) : ∀ k, rowOf A = some k → B ≤ k ∧ k < w.heap.size := by
  intro k hk
  rcases h.row with ⟨rfl, rfl, rfl, rfl⟩ | ⟨r, rfl, hB, hr⟩
  · cases hk
  · have : r = k := Option.some.inj hk
    subst this
    exact ⟨hB, hr.lt⟩
theorem TOwn.ne {g : Nat} {t : TypeId} {cs : Array Value} (h : TOwn w E κ B A n c L) (hb : Blk w g t cs) (hne : E ≠ t) : rowOf A ≠ some g := by
  rcases h.row with ⟨rfl, rfl, rfl, rfl⟩ | ⟨r, rfl, hB, hr⟩
  · intro h; cases h
  · intro h
    exact hr.ne hb hne (Option.some.inj h)
theorem TOwn.base {B' : Nat} (h : TOwn w E κ B A n c L) (hB : B' ≤ B) : TOwn w E κ B' A n c L := by
  rcases h.row with ⟨rfl, rfl, rfl, rfl⟩ | ⟨r, rfl, hBr, hr⟩
  · exact TOwn.nil _ _
  · exact hr.own (Nat.le_trans hB hBr) h.len
theorem TOwn.cap (h : TOwn w E κ B A n c L) : n ≤ c ∧ c ≤ maxLen := by
  rcases h.row with ⟨rfl, rfl, rfl, rfl⟩ | ⟨r, rfl, hB, hr⟩
  · simp
  · rw [← h.len]
    exact hr.cap

/-- Where a row may be read. -/
def SrcT (w : World) (κ : Kd α) (A : Option Addr) (m : Nat) (c : Nat) (l : List α) : Prop := l.length = m ∧ ((A = none ∧ m = 0 ∧ c = 0) ∨ ∃ x, A = some x ∧ ∀ j u, (cellsT κ l)[j]? = some u → w.cell? (x.add j) = some u)
theorem run_appT (o : IsT P E TS κ) (ty : TypeId) (w : World) (base : Nat) (A : Option Addr) (n c : Nat) (l : List α) (hown : TOwn w E κ base A n c l) (X : Option Addr) (m cc : Nat) (l2 : List α) (hx : SrcT w κ X m cc l2) (hsm : n + m ≤ 1000000) (hb : base ≤ w.heap.size) :
    ∃ A' c' w', (Builtin.append_ #[TS, TS] ty #[.slice A n c, .slice X m cc]).run P w = .ok (.slice A' (n + m) c') w' ∧ TOwn w' E κ base A' (n + m) c' (l ++ l2) ∧ Frm (fun k => some k = rowOf A) w w' ∧ (rowOf A' = rowOf A ∨ rowOf A' = some w.heap.size) := by
  obtain ⟨i, hi, hz, hs, hbb⟩ := o.info
  obtain ⟨hl, ⟨rfl, rfl, rfl⟩ | ⟨x, rfl, hc⟩⟩ := hx
  · obtain rfl : l2 = [] := List.eq_nil_of_length_eq_zero hl
    exact ⟨A, c, w, run_append_owned_none (P := P) (w := w) base TS ty E i κ.wd o.under hi (.slice A n c) n (cellsT κ l) hown.2, by rw [List.append_nil]; exact hown, Frm.refl _ _, .inl rfl⟩
  · have hby : (n + m) * i.bytes ≤ 140737488355328 := by
      have : (n + m) * i.bytes ≤ 1000000 * 100000 := Nat.mul_le_mul hsm hbb
      omega
    obtain ⟨v', w', h2, h3, h4, _, h5⟩ := run_append_own_at (P := P) w base TS ty E i _ κ.wd i.bytes o.under hi hz hs rfl (by simp [Value.cells, κ.len]) o.pos (.slice A n c) n (cellsT κ l) hown.2 x m cc (cellsT κ l2) (by rw [cellsT_length, hl]) hc (cellsT_one _) (by simp only [maxLen]; omega) hby hb
    have hf : ∃ A' c', v' = .slice A' (n + m) c' := by
      rcases h3.2 with ⟨rfl, h0⟩ | ⟨g, cap, cur, rfl, _⟩
      · exact ⟨none, 0, by rw [h0]⟩
      · exact ⟨_, _, rfl⟩
    obtain ⟨A', c', rfl⟩ := hf
    rw [own_rowOf] at h4
    rw [own_rowOf, own_rowOf] at h5
    refine ⟨A', c', w', h2, ⟨?_, ?_⟩, Frm.of_grown h4, h5⟩
    · rw [List.length_append, hown.1, hl]
    · rw [← cellsT_append] at h3
      exact h3
theorem wpl_appT (o : IsT P E TS κ) {ops : Array Oper} {rest : List Oper} {op : Oper} {a : Act} {Q : Exit → Act → World → Prop} (hgd : op.guard = none) (s x : Operand)
    (ho : op.op = .call { callee := .builtin .append, args := #[s, x], argTypes := #[TS, TS] }) (w : World) (base : Nat) (A : Option Addr) (n c : Nat) (l : List α) (hs : a.eval s = .slice A n c) (hown : TOwn w E κ base A n c l)
    (X : Option Addr) (m cc : Nat) (l2 : List α) (hx : a.eval x = .slice X m cc) (hsrc : SrcT w κ X m cc l2) (nm : Nat) (hnm : nm = n + m) (hsm : n + m ≤ 1000000) (hb : base ≤ w.heap.size)
    (h : ∀ A' c' w', TOwn w' E κ base A' nm c' (l ++ l2) → Frm (fun k => some k = rowOf A) w w' → (rowOf A' = rowOf A ∨ rowOf A' = some w.heap.size) → wpList P ops Q rest (a.put op.dst (.slice A' nm c')) w') : wpList P ops Q (op :: rest) a w := by
  subst hnm
  obtain ⟨A', c', w', hrun, h2, h3, h4⟩ := run_appT o op.type w base A n c l hown X m cc l2 hsrc hsm hb
  refine wpList_plain hgd fun _ hK => ?_
  unfold Oper.wp execOp
  simp only [ho, resolve, invoke, builtin, Sem.run_bind, Sem.run_pure, Result.andThen_ok, List.map_toArray, List.map_cons, List.map_nil, hs, hx, hrun]
  exact hK _ _ (h A' c' w' h2 h3 h4)
theorem step_appT (o : IsT P E TS κ) {ops : Array Oper} {op : Oper} {a : Act} {K : Act → World → Prop} {Q : Exit → Act → World → Prop} {D : Prop} (hw : Region.wanted op (yielded ops a.tmps) = true) (s x : Operand)
    (ho : op.op = .call { callee := .builtin .append, args := #[s, x], argTypes := #[TS, TS] }) (w : World) (base : Nat) (A : Option Addr) (n c : Nat) (l : List α) (hs : a.eval s = .slice A n c) (hown : TOwn w E κ base A n c l)
    (X : Option Addr) (m cc : Nat) (l2 : List α) (hx : a.eval x = .slice X m cc) (hsrc : SrcT w κ X m cc l2) (nm : Nat) (hnm : nm = n + m) (hsm : n + m ≤ 1000000) (hb : base ≤ w.heap.size)
    (h : ∀ A' c' w', TOwn w' E κ base A' nm c' (l ++ l2) → Frm (fun k => some k = rowOf A) w w' → (rowOf A' = rowOf A ∨ rowOf A' = some w.heap.size) → K (a.put op.dst (.slice A' nm c')) w') : if Region.wanted op (yielded ops a.tmps) = true then Oper.wp P op a w K Q else D := by
  subst hnm
  rw [if_pos hw]
  obtain ⟨A', c', w', hrun, h2, h3, h4⟩ := run_appT o op.type w base A n c l hown X m cc l2 hsrc hsm hb
  unfold Oper.wp execOp
  simp only [ho, resolve, invoke, builtin, Sem.run_bind, Sem.run_pure, Result.andThen_ok, List.map_toArray, List.map_cons, List.map_nil, hs, hx, hrun]
  exact h A' c' w' h2 h3 h4
/-- One that was made just now. -/
theorem SrcT.one {w : World} {g : Nat} {t : TypeId} {s : α} (h : Blk w g t (κ.C s).toArray) : SrcT w κ (some ⟨g, 0, none⟩) 1 1 [s] :=
  ⟨rfl, .inr ⟨_, rfl, fun j u hu => by
    rw [addr_add, h.cell]
    simpa [cellsT] using hu⟩⟩
theorem SrcT.frm0 {w w' : World} {X : Option Addr} {m c : Nat} {l : List α} (h : SrcT w κ X m c l) (f : Frm (fun _ => False) w w') : SrcT w' κ X m c l := by
  obtain ⟨hl, h0 | ⟨x, rfl, hc⟩⟩ := h
  · exact ⟨hl, .inl h0⟩
  · exact ⟨hl, .inr ⟨x, rfl, fun j u hu => cell_frm f (hc j u hu) (fun h => h)⟩⟩
/-- A row of one's own, read whole. -/
theorem TOwn.src (h : TOwn w E κ B A n c L) : SrcT w κ A n c L := by
  refine ⟨h.len, ?_⟩
  rcases h.row with ⟨rfl, rfl, rfl, rfl⟩ | ⟨r, rfl, hB, rest, hb, h1, h2⟩
  · exact .inl ⟨rfl, rfl, rfl⟩
  · refine .inr ⟨_, rfl, fun j u hu => ?_⟩
    rw [addr_add, hb.cell, List.getElem?_toArray, Nat.zero_add, List.getElem?_append_left (List.getElem?_eq_some_iff.1 hu).1]
    exact hu
end

section
variable {α : Type} {P : Program} {E TS : TypeId} {κ : Kd α}
/-- Rows made of nothing, and of one. -/
theorem run_made0 (o : IsT P E TS κ) (w : World) : (Instr.buildSlice TS 0 #[]).run P w = .ok (.slice (some ⟨w.heap.size, 0, none⟩) 0 0) (w.alloc (.cells #[] E)) := by
  obtain ⟨i, hi, hz, hs, hb⟩ := o.info
  simp [Instr.buildSlice, run_underlying o.under, sizeOf, typeInfo, hi, hs, Instr.fill, newRow]
  exact congrArg (fun c => w.alloc (.cells c E)) (by apply Array.eq_empty_of_size_eq_zero; simp)
theorem run_made1 (o : IsT P E TS κ) (w : World) (s : α) : (Instr.buildSlice TS 1 #[(0, .agg (κ.C s).toArray)]).run P w = .ok (.slice (some ⟨w.heap.size, 0, none⟩) 1 1) (w.alloc (.cells (κ.C s).toArray E)) := by
  obtain ⟨i, hi, hz, hs, hbb⟩ := o.info
  have hpos := o.pos
  have hf := Go.Great.fill_whole (s := κ.wd) hpos [.agg (κ.C s).toArray] ((Array.range (1 * κ.wd)).map ((Value.agg (κ.C κ.d).toArray).cells[· % (Value.agg (κ.C κ.d).toArray).cells.size]!)) (by simp [Value.cells, κ.len]) (by simp)
  refine run_buildSlice w _ _ 1 _ (κ.C s).toArray i _ o.under hi hz (by rw [hs]; have := o.top; simp [Value.cells, κ.len]; omega) (by rw [hs]; omega) ?_
  rw [hs]
  refine hf.trans ?_
  simp [Value.cells]
theorem wp_made0 (o : IsT P E TS κ) {op : Oper} {a : Act} {w : World} {K : Act → World → Prop} {Q : Exit → Act → World → Prop} (ho : op.op = .buildSlice TS 0 #[])
    (h : K (a.put op.dst (.slice (some ⟨w.heap.size, 0, none⟩) 0 0)) (w.alloc (.cells #[] E))) : op.wp P a w K Q := by
  unfold Oper.wp execOp
  simp only [ho, List.map_toArray, List.map_nil, Sem.run_bind, run_made0 o w, Result.andThen_ok, Sem.run_pure]
  exact h
theorem wp_made1 (o : IsT P E TS κ) {op : Oper} {a : Act} {w : World} {K : Act → World → Prop} {Q : Exit → Act → World → Prop} (x : Operand) (ho : op.op = .buildSlice TS 1 #[(0, x)]) (s : α) (hx : a.eval x = .agg (κ.C s).toArray)
    (h : K (a.put op.dst (.slice (some ⟨w.heap.size, 0, none⟩) 1 1)) (w.alloc (.cells (κ.C s).toArray E))) : op.wp P a w K Q := by
  unfold Oper.wp execOp
  simp only [ho, List.map_toArray, List.map_cons, List.map_nil, hx, Sem.run_bind, run_made1 o w s, Result.andThen_ok, Sem.run_pure]
  exact h
theorem wpl_made1 (o : IsT P E TS κ) {ops : Array Oper} {rest : List Oper} {op : Oper} {a : Act} {w : World} {Q : Exit → Act → World → Prop} (hgd : op.guard = none) (x : Operand) (ho : op.op = .buildSlice TS 1 #[(0, x)]) (s : α) (hx : a.eval x = .agg (κ.C s).toArray)
    (h : ∀ g w', Blk w' g E (κ.C s).toArray → w.heap.size ≤ g → Frm (fun _ => False) w w' → wpList P ops Q rest (a.put op.dst (.slice (some ⟨g, 0, none⟩) 1 1)) w') : wpList P ops Q (op :: rest) a w :=
  wpList_plain hgd fun _ hK => wp_made1 o x ho s hx (hK _ _ (h _ _ (Blk.new _ _ _) (Nat.le_refl _) (Frm.alloc _ _ _)))
end

/-! Aggregates in variables of their own; values told, guarded or not. -/
theorem wpl_boxa {P : Program} {ops : Array Oper} {rest : List Oper} {op : Oper} {a : Act} {w : World} {Q : Exit → Act → World → Prop} (hgd : op.guard = none) (t : TypeId) (x : Operand) (ho : op.op = .box t x)
    (cs : List Value) (hx : a.eval x = .agg cs.toArray)
    (h : ∀ g w', Blk w' g t cs.toArray → w.heap.size ≤ g → Frm (fun _ => False) w w' → wpList P ops Q rest (a.put op.dst (.pointer (some ⟨g, 0, none⟩))) w') : wpList P ops Q (op :: rest) a w := by
  refine wpList_plain hgd fun K hK => ?_
  unfold Oper.wp execOp
  simp [ho, hx, Instr.box, newVar, newRow, Value.cells, Oper.upon, Result.andThen]
  exact hK _ _ (h _ _ (Blk.new _ _ _) (Nat.le_refl _) (Frm.alloc _ _ _))
theorem wpl_held {P : Program} {ops : Array Oper} {rest : List Oper} {op : Oper} {a : Act} {w : World} {Q : Exit → Act → World → Prop} (v : Value) (hv : (execOp a.eval op).run P w = .ok (.value v) w) (hw : Region.wanted op (yielded ops a.tmps) = true)
    (h : wpList P ops Q rest (a.put op.dst v) w) : wpList P ops Q (op :: rest) a w := by
  refine wpList_step fun K hK => ?_
  rw [if_pos hw]
  unfold Oper.wp
  rw [hv]
  exact hK _ _ h
theorem held_loada {P : Program} {ty : TypeId} {n : Nat} (hA : Agg P ty n) {o : Oper} {a : Act} {w : World} (x : Operand) (ho : o.op = .load ty x) (g off : Nat) (hx : a.eval x = .pointer (some ⟨g, off, none⟩)) (t : TypeId) (cs xs : List Value) (hb : Blk w g t cs.toArray) (hxs : (cs.drop off).take n = xs) (hn : off + n ≤ cs.length) :
    (execOp a.eval o).run P w = .ok (.value (.agg xs.toArray)) w := by
  unfold execOp
  simp only [ho, hx, Instr.loadAt, Instr.sureAddr, Sem.run_bind, Sem.run_pure, Result.andThen_ok, run_load_agg hA w g off t cs xs hb hxs hn]
/-- Cells that stand behind an address, read whole. -/
theorem run_loadc {P : Program} {ty : TypeId} {n : Nat} (hA : Agg P ty n) (w : World) (ad : Addr) (cs : List Value) (hn : cs.length = n) (hc : ∀ q u, cs[q]? = some u → w.cell? (ad.add q) = some u) : (loadVar ty ad).run P w = .ok (.agg cs.toArray) w := by
  obtain ⟨⟨d, hu, hd⟩, hi⟩ := hA
  have h1 : (loadCells ad cs.length).run P w = .ok cs.toArray w := run_loadCells_list (P := P) w ad cs (fun j v hv => hc j v hv)
  cases hq : P.info? ty with
  | none => simp [hq] at hi
  | some i =>
    have hs : i.size = n := by simpa [hq] using hi
    have hagg : (isAgg ty).run P w = .ok true w := by
      unfold isAgg
      rw [Sem.run_bind, run_underlying hu w]
      cases d <;> simp_all [isAggD]
    rw [hn] at h1
    simp [loadVar, Sem.run_bind, hagg, sizeOf, typeInfo, hq, hs, h1]
theorem held_loadc {P : Program} {ty : TypeId} {n : Nat} (hA : Agg P ty n) {op : Oper} {a : Act} {w : World} (x : Operand) (ho : op.op = .load ty x)
    (ad : Addr) (hx : a.eval x = .pointer (some ad)) (cs : List Value) (hn : cs.length = n) (hc : ∀ q u, cs[q]? = some u → w.cell? (ad.add q) = some u) : (execOp a.eval op).run P w = .ok (.value (.agg cs.toArray)) w := by
  unfold execOp
  simp only [ho, hx, Instr.loadAt, Instr.sureAddr, Sem.run_bind, Sem.run_pure, Result.andThen_ok, run_loadc hA w ad cs hn hc]
theorem wpl_loadc {P : Program} {ty : TypeId} {n : Nat} (hA : Agg P ty n) {ops : Array Oper} {rest : List Oper} {op : Oper} {a : Act} {w : World} {Q : Exit → Act → World → Prop} (hgd : op.guard = none) (x : Operand) (ho : op.op = .load ty x)
    (ad : Addr) (hx : a.eval x = .pointer (some ad)) (cs : List Value) (hn : cs.length = n) (hc : ∀ q u, cs[q]? = some u → w.cell? (ad.add q) = some u)
    (h : wpList P ops Q rest (a.put op.dst (.agg cs.toArray)) w) : wpList P ops Q (op :: rest) a w := by
  refine wpList_plain hgd fun _ hK => ?_
  unfold Oper.wp
  rw [held_loadc hA x ho ad hx cs hn hc]
  exact hK _ _ h
theorem held_lookv {P : Program} {op : Oper} {a : Act} {w : World} (t : TypeId) (m k : Operand) (c : Bool) (ho : op.op = .lookup t m k c) (mv kv v : Value) (hm : a.eval m = mv) (hk : a.eval k = kv) (hr : (Instr.lookup t mv kv c).run P w = .ok v w) : (execOp a.eval op).run P w = .ok (.value v) w := by
  unfold execOp
  simp [ho, hm, hk, hr, Result.andThen]
theorem held_build {P : Program} {o : Oper} {a : Act} {w : World} (t : TypeId) (parts : Array (Nat × Operand)) (ho : o.op = .build t parts) (vs : List (Nat × Value)) (cs : List Value)
    (hr : (Instr.build t vs.toArray).run P w = .ok (.agg cs.toArray) w) (hv : (parts.toList.map fun (i, x) => (i, a.eval x)) = vs) : (execOp a.eval o).run P w = .ok (.value (.agg cs.toArray)) w := by
  have e : (parts.map fun (i, x) => (i, a.eval x)) = vs.toArray := by
    subst hv
    apply Array.ext'
    simp
  unfold execOp
  simp only [ho, e, hr, Sem.run_bind, Result.andThen_ok, Sem.run_pure]
theorem held_eql {P : Program} {o : Oper} {a : Act} {w : World} (t u : TypeId) (x y : Operand) (ho : o.op = .binOp .eql t x y u) (xs ys : List Value) (hx : a.eval x = .agg xs.toArray) (hy : a.eval y = .agg ys.toArray) (b : Bool)
    (hb : (Op.equalIn 10000 t (.agg xs.toArray) (.agg ys.toArray)).run P w = .ok b w) (hg : P.eqGuardType P.depth t = false) : (execOp a.eval o).run P w = .ok (.value (.bool b)) w := by
  unfold execOp
  simp only [ho, hx, hy, Sem.run_bind, run_eqGuard_agg w _ t x y _ _ hg, run_eql_struct, hb, Result.andThen_ok, Sem.run_pure]
end Go.Proofs.Ytdilfiojfjgejaa
