/-
  Rows of the document's own records, and its directory: a block that holds such a row.
-/
import Derived.Test.YtjicnfkodieaaaaDoorDrP
import Derived.Test.YtjicnfkodieaaaaDoorDr10
namespace Go.Proofs.YtjicnfkodieaaaaDoor
set_option linter.unusedVariables false
set_option linter.unusedSimpArgs false
open Go.RowKit Go.Sort

theorem underQ : Tryd.prog.underlying 30 = some (.slice 40) := Tryd.underlying30
theorem infoQ : (Tryd.prog.info? 40).map (fun i => (i.zero, i.size, i.bytes)) = some (some (recV default), 4, 16) := by kernel_rfl
theorem aggQ : Agg Tryd.prog 40 4 := Agg.of (by kernel_rfl) (by kernel_rfl)
theorem zeroQ : (Tryd.prog.info? 40).map (fun i => i.zero) = some (some (.agg (recC default).toArray)) := by kernel_rfl

def QOwn (w : World) (B : Nat) (A : Option Addr) (n c : Nat) (l : List Rec) : Prop := w.ownsRow B 40 4 (.slice A n c) n (cellsR l)
section
variable {w w' : World} {B n c : Nat} {A : Option Addr} {l : List Rec}
theorem QOwn.len (h : QOwn w B A n c l) : l.length = n := by have := h.1; rw [cellsR_length] at this; omega
theorem QOwn.block (h : QOwn w B A n c l) : (A = none ∧ n = 0 ∧ c = 0) ∨ ∃ g cur, A = some ⟨g, 0, none⟩ ∧ B ≤ g ∧ w.heap[g]? = some (.cells cur 40 (0, 0)) ∧ n ≤ c ∧ c ≤ maxLen ∧ cur.size = c * 4 ∧ cur.toList.take (n * 4) = cellsR l := by
  rcases h.2 with ⟨hv, h0⟩ | ⟨g, cap, cur, hv, hb, hg, h1, h2, h3, h4⟩
  · injection hv with h1 h2 h3
    exact .inl ⟨h1, h0, h3⟩
  · injection hv with hA _ hc
    subst hA hc
    exact .inr ⟨g, cur, rfl, hb, hg, h1, h2, h3, h4⟩
theorem QOwn.cap (h : QOwn w B A n c l) : n ≤ c := by
  rcases h.block with ⟨_, h0, h1⟩ | ⟨_, _, _, _, _, h1, _⟩
  · omega
  · exact h1
theorem QOwn.frm {S : Nat → Prop} (h : QOwn w B A n c l) (f : Frm S w w') (hS : ∀ k, (Value.slice A n c).ownBlock = some k → ¬ S k) : QOwn w' B A n c l := by
  refine ⟨h.1, ?_⟩
  rcases h.2 with h0 | ⟨g', cap, cur, hv, hbs, hg, hr⟩
  · exact .inl h0
  · exact .inr ⟨g', cap, cur, hv, hbs, Blk.frm (t := 40) hg f (hS g' (by rw [hv]; rfl)), hr⟩
theorem QOwn.frm0 (h : QOwn w B A n c l) (f : Frm (fun _ => False) w w') : QOwn w' B A n c l := h.frm f (fun _ _ h => h)
theorem QOwn.ge (h : QOwn w B A n c l) : ∀ k, (Value.slice A n c).ownBlock = some k → B ≤ k ∧ k < w.heap.size := by
  intro k hk
  rcases h.block with ⟨rfl, _⟩ | ⟨g, cur, rfl, hb, hg, _⟩
  · cases hk
  · have : g = k := by simpa [Value.ownBlock] using hk
    subst this
    exact ⟨hb, (Array.getElem?_eq_some_iff.1 hg).1⟩
theorem QOwn.ne {g : Nat} {t : TypeId} {cs : Array Value} (h : QOwn w B A n c l) (hb : Blk w g t cs) (hne : 40 ≠ t) : (Value.slice A n c).ownBlock ≠ some g := by
  rcases h.block with ⟨rfl, _⟩ | ⟨g', cur, rfl, _, hg, _⟩
  · intro h; cases h
  · intro h
    have : g' = g := by simpa [Value.ownBlock] using h
    exact Blk.ne (t := 40) hg hb hne this
theorem QOwn.neMap {b : Nat} {D : List Rec} (h : QOwn w B A n c l) (hm : MapAt w b D) : (Value.slice A n c).ownBlock ≠ some b := by
  rcases h.block with ⟨rfl, _⟩ | ⟨g', cur, rfl, _, hg, _⟩
  · intro h; cases h
  · intro h
    have : g' = b := by simpa [Value.ownBlock] using h
    exact hm.ne (t := 40) (cs := cur) hg this.symm
theorem QOwn.base {B' : Nat} (h : QOwn w B A n c l) (hB : B' ≤ B) : QOwn w B' A n c l := by
  refine ⟨h.1, ?_⟩
  rcases h.2 with h0 | ⟨g', cap, cur, hv, hbs, hr⟩
  · exact .inl h0
  · exact .inr ⟨g', cap, cur, hv, Nat.le_trans hB hbs, hr⟩
theorem QOwn.nil (w : World) (B : Nat) : QOwn w B none 0 0 [] := ⟨rfl, .inl ⟨rfl, rfl⟩⟩
theorem QOwn.drewN (h : QOwn w B A n c l) (k : Nat) : QOwn (w.drewN k) B A n c l := h
theorem QOwn.cells (h : QOwn w B A n c l) (hn : 0 < n) : ∃ g, A = some ⟨g, 0, none⟩ ∧ B ≤ g ∧ g < w.heap.size ∧ ∀ j q, j < n → q < 4 → w.cell? ⟨g, j * 4 + q, none⟩ = (recC (l.getD j default))[q]? := by
  have hl := h.len
  rcases h.block with ⟨rfl, h0, _⟩ | ⟨g, cur, rfl, hb, hg, h1, h2, h3, h4⟩
  · omega
  · have hB : Blk w g 40 cur := hg
    refine ⟨g, rfl, hb, hB.lt, fun j q hj hq => ?_⟩
    rw [hB.cell, ← cellsR_at l j q (by omega) hq, ← h4, List.getElem?_take, if_pos (by omega)]
    simp
/-- An empty row that was made just now. -/
theorem QOwn.made (w : World) : QOwn (w.alloc (.cells #[] 40)) w.heap.size (some ⟨w.heap.size, 0, none⟩) 0 0 [] :=
  ⟨rfl, .inr ⟨w.heap.size, 0, #[], rfl, Nat.le_refl _, Blk.new w _ _, Nat.le_refl _, by simp [maxLen], rfl, rfl⟩⟩
end

/-- append of a row that lies somewhere: its cells are told. -/
theorem run_appQ (ty : TypeId) (w : World) (base : Nat) (A : Option Addr) (n c : Nat) (l : List Rec) (hown : QOwn w base A n c l) (x : Addr) (m cc : Nat) (l2 : List Rec) (hm : l2.length = m)
    (hx : ∀ j u, (cellsR l2)[j]? = some u → w.cell? (x.add j) = some u) (hsm : n + m ≤ 1000000) (hb : base ≤ w.heap.size) :
    ∃ A' c' w', (Builtin.append_ #[30, 30] ty #[.slice A n c, .slice (some x) m cc]).run Tryd.prog w = .ok (.slice A' (n + m) c') w' ∧ QOwn w' base A' (n + m) c' (l ++ l2) ∧ Frm (fun k => some k = (Value.slice A n c).ownBlock) w w' ∧ ((Value.slice A' (n + m) c').ownBlock = (Value.slice A n c).ownBlock ∨ (Value.slice A' (n + m) c').ownBlock = some w.heap.size) := by
  obtain ⟨i, hi, hz, hs, hbb⟩ := info_split infoQ
  obtain ⟨v', w', h2, h3, h4, _, h5⟩ := run_append_own_at (P := Tryd.prog) w base 30 ty 40 i (recV default) 4 16 underQ hi hz hs hbb rfl (by omega) (.slice A n c) n (cellsR l) hown x m cc (cellsR l2) (by rw [cellsR_length, hm]) hx (cellsR_one _) (by simp only [maxLen]; omega) (by omega) hb
  have hf : ∃ A' c', v' = .slice A' (n + m) c' := by
    rcases h3.2 with ⟨rfl, h0⟩ | ⟨g, cap, cur, rfl, _⟩
    · exact ⟨none, 0, by rw [h0]⟩
    · exact ⟨_, _, rfl⟩
  obtain ⟨A', c', rfl⟩ := hf
  refine ⟨A', c', w', h2, ?_, Frm.of_grown h4, h5⟩
  rw [← cellsR_append] at h3
  exact h3

/-- Where a row of its records may be read. -/
def SrcQ (w : World) (A : Option Addr) (m c : Nat) (l : List Rec) : Prop := l.length = m ∧ ((A = none ∧ m = 0 ∧ c = 0) ∨ ∃ x, A = some x ∧ ∀ j u, (cellsR l)[j]? = some u → w.cell? (x.add j) = some u)
theorem run_appS (ty : TypeId) (w : World) (base : Nat) (A : Option Addr) (n c : Nat) (l : List Rec) (hown : QOwn w base A n c l) (X : Option Addr) (m cc : Nat) (l2 : List Rec) (hx : SrcQ w X m cc l2) (hsm : n + m ≤ 1000000) (hb : base ≤ w.heap.size) :
    ∃ A' c' w', (Builtin.append_ #[30, 30] ty #[.slice A n c, .slice X m cc]).run Tryd.prog w = .ok (.slice A' (n + m) c') w' ∧ QOwn w' base A' (n + m) c' (l ++ l2) ∧ Frm (fun k => some k = (Value.slice A n c).ownBlock) w w' ∧ ((Value.slice A' (n + m) c').ownBlock = (Value.slice A n c).ownBlock ∨ (Value.slice A' (n + m) c').ownBlock = some w.heap.size) := by
  obtain ⟨hl, ⟨rfl, rfl, rfl⟩ | ⟨x, rfl, hc⟩⟩ := hx
  · obtain ⟨i, hi, hz, hs, hbb⟩ := info_split infoQ
    obtain rfl : l2 = [] := List.eq_nil_of_length_eq_zero hl
    exact ⟨A, c, w, run_append_owned_none (P := Tryd.prog) (w := w) base 30 ty 40 i 4 underQ hi (.slice A n c) n (cellsR l) hown, by rw [List.append_nil]; exact hown, Frm.refl _ _, .inl rfl⟩
  · exact run_appQ ty w base A n c l hown x m cc l2 hl hc hsm hb
theorem wpl_appS {ops : Array Oper} {rest : List Oper} {op : Oper} {a : Act} {Q : Exit → Act → World → Prop} (hgd : op.guard = none) (s x : Operand)
    (ho : op.op = .call { callee := .builtin .append, args := #[s, x], argTypes := #[30, 30] }) (w : World) (base : Nat) (A : Option Addr) (n c : Nat) (l : List Rec) (hs : a.eval s = .slice A n c) (hown : QOwn w base A n c l)
    (X : Option Addr) (m cc : Nat) (l2 : List Rec) (hx : a.eval x = .slice X m cc) (hsrc : SrcQ w X m cc l2) (nm : Nat) (hnm : nm = n + m) (hsm : n + m ≤ 1000000) (hb : base ≤ w.heap.size)
    (h : ∀ A' c' w', QOwn w' base A' nm c' (l ++ l2) → Frm (fun k => some k = (Value.slice A n c).ownBlock) w w' → ((Value.slice A' nm c').ownBlock = (Value.slice A n c).ownBlock ∨ (Value.slice A' nm c').ownBlock = some w.heap.size) → wpList Tryd.prog ops Q rest (a.put op.dst (.slice A' nm c')) w') : wpList Tryd.prog ops Q (op :: rest) a w := by
  subst hnm
  obtain ⟨A', c', w', hrun, h2, h3, h4⟩ := run_appS op.type w base A n c l hown X m cc l2 hsrc hsm hb
  refine wpList_plain hgd fun _ hK => ?_
  unfold Oper.wp execOp
  simp only [ho, resolve, invoke, builtin, Sem.run_bind, Sem.run_pure, Result.andThen_ok, List.map_toArray, List.map_cons, List.map_nil, hs, hx, hrun]
  exact hK _ _ (h A' c' w' h2 h3 h4)
/-- One record that was made just now. -/
theorem SrcQ.one {w : World} {g : Nat} {r : Rec} (h : Blk w g 40 (recC r).toArray) : SrcQ w (some ⟨g, 0, none⟩) 1 1 [r] :=
  ⟨rfl, .inr ⟨_, rfl, fun j u hu => by
    rw [addr_add, h.cell]
    simpa [cellsR, recC] using hu⟩⟩
theorem SrcQ.frm0 {w w' : World} {X : Option Addr} {m c : Nat} {l : List Rec} (h : SrcQ w X m c l) (f : Frm (fun _ => False) w w') : SrcQ w' X m c l := by
  obtain ⟨hl, h0 | ⟨x, rfl, hc⟩⟩ := h
  · exact ⟨hl, .inl h0⟩
  · exact ⟨hl, .inr ⟨x, rfl, fun j u hu => cell_frm f (hc j u hu) (fun h => h)⟩⟩
/-- The first p of a row, and the others. -/
theorem QOwn.src0 {w : World} {B n c : Nat} {A : Option Addr} {l : List Rec} (h : QOwn w B A n c l) (p : Nat) (hp : p ≤ n) : SrcQ w A p c (l.take p) := by
  have hl := h.len
  refine ⟨by rw [List.length_take]; omega, ?_⟩
  rcases h.block with ⟨rfl, h0, h1⟩ | ⟨g, cur, rfl, hb, hg, h1, h2, h3, h4⟩
  · exact .inl ⟨rfl, by omega, h1⟩
  · have hB : Blk w g 40 cur := hg
    refine .inr ⟨_, rfl, fun j u hu => ?_⟩
    rw [← cellsR_take, ← h4, List.take_take, List.getElem?_take] at hu
    rw [addr_add, hB.cell]
    split at hu
    · simpa using hu
    · cases hu
theorem QOwn.src1 {w : World} {B n c : Nat} {A : Option Addr} {l : List Rec} (h : QOwn w B A n c l) (p : Nat) (hp : p ≤ n) : SrcQ w (if c = p then A else A.map (·.add (p * 4))) (n - p) (c - p) (l.drop p) := by
  have hl := h.len
  refine ⟨by rw [List.length_drop]; omega, ?_⟩
  rcases h.block with ⟨rfl, h0, h1⟩ | ⟨g, cur, rfl, hb, hg, h1, h2, h3, h4⟩
  · exact .inl ⟨by split <;> rfl, by omega, by omega⟩
  · have hB : Blk w g 40 cur := hg
    have hcell : ∀ j u, (cellsR (l.drop p))[j]? = some u → w.cell? ⟨g, p * 4 + j, none⟩ = some u := by
      intro j u hu
      have hj : j < (l.drop p).length * 4 := by have := (List.getElem?_eq_some_iff.1 hu).1; rwa [cellsR_length] at this
      have e : cellsR l = cellsR (l.take p) ++ cellsR (l.drop p) := by rw [← cellsR_append, List.take_append_drop]
      have hlt : (cellsR (l.take p)).length = p * 4 := by rw [cellsR_length, List.length_take]; congr 1; omega
      rw [List.length_drop] at hj
      have e2 : (cellsR l)[p * 4 + j]? = some u := by rw [e, List.getElem?_append_right (by omega), hlt, Nat.add_sub_cancel_left]; exact hu
      rw [hB.cell]
      rw [← h4, List.getElem?_take, if_pos (by omega)] at e2
      simpa using e2
    by_cases hcp : c = p
    · rw [if_pos hcp]
      refine .inr ⟨_, rfl, fun j u hu => ?_⟩
      have hj : j < (l.drop p).length * 4 := by have := (List.getElem?_eq_some_iff.1 hu).1; rwa [cellsR_length] at this
      rw [List.length_drop] at hj
      omega
    · rw [if_neg hcp]
      refine .inr ⟨_, rfl, fun j u hu => ?_⟩
      have h5 := hcell j u hu
      have e : ((⟨g, 0, none⟩ : Addr).add (p * 4)).add j = ⟨g, p * 4 + j, none⟩ := by
        rw [addr_add, Addr.add_mid, Nat.zero_add]
      rw [e]
      exact h5
theorem qcut0 (A : Option Addr) (n c j : Nat) (hj : j ≤ c) (w : World) : (Instr.sliceAt 30 (.slice A n c) none (some (.int .i64 (j : Int))) none).run Tryd.prog w = .ok (.slice A j c) w := by
  have h0 : A.map (·.add 0) = A := by cases A <;> simp [Addr.add]
  obtain ⟨i, hi, _, hs, _⟩ := info_split infoQ
  simp [Instr.sliceAt, Instr.slice, run_underlying underQ, Instr.sliceBounds, Instr.sliceBound, asIntOf, sizeOf, typeInfo, hi, hj, h0]
theorem qcut1 (A : Option Addr) (n c i : Nat) (hi : i ≤ n) (w : World) : (Instr.sliceAt 30 (.slice A n c) (some (.int .i64 (i : Int))) none none).run Tryd.prog w = .ok (.slice (if c = i then A else A.map (·.add (i * 4))) (n - i) (c - i)) w := by
  obtain ⟨d, hq, _, hs, _⟩ := info_split infoQ
  simp [Instr.sliceAt, Instr.slice, run_underlying underQ, Instr.sliceBounds, Instr.sliceBound, asIntOf, sizeOf, typeInfo, hq, hs, hi]

/-- The document's directory: block g holds a row of its records. -/
def RDir (w0 w : World) (g : Nat) (D : List Rec) : Prop := w0.heap.size ≤ g ∧ DirOk D ∧ ∃ A n c, Blk w g 32 #[.slice A n c] ∧ QOwn w w0.heap.size A n c D
theorem RDir.frm0 {w0 w w' : World} {g : Nat} {D : List Rec} (h : RDir w0 w g D) (f : Frm (fun _ => False) w w') : RDir w0 w' g D := by
  obtain ⟨hl, ho, A, n, c, hb, hq⟩ := h
  exact ⟨hl, ho, A, n, c, hb.frm f (fun h => h), hq.frm0 f⟩
/-- .. under a call that turns the map of the program's own. -/
theorem RDir.frmMap {w0 w w' : World} {g bm : Nat} {D E : List Rec} (h : RDir w0 w g D) (hm : MapAt w bm E) (f : Frm (fun k => k = bm) w w') : RDir w0 w' g D := by
  obtain ⟨hl, ho, A, n, c, hb, hq⟩ := h
  refine ⟨hl, ho, A, n, c, hb.frm f (fun e => hm.ne hb e.symm), hq.frm f fun k hk e => hq.neMap hm (by rw [← e]; exact hk)⟩
/-- The program's own directory under a call that turns the document's. -/
theorem Liv.frmQ {w0 w w' : World} {g bm gw : Nat} {D E : List Rec} (h : Liv w0 w g bm D) (hq : RDir w0 w gw E) (f : Frm (fun k => k = gw) w w') : Liv w0 w' g bm D := by
  obtain ⟨hl, _, A, n, c, hb, _⟩ := hq
  exact h.frm f (fun e => Blk.ne h.dir.blk hb (by decide) e) (fun e => h.dir.map.ne hb e) (fun k hk => by rw [hk]; exact hl)
end Go.Proofs.YtjicnfkodieaaaaDoor
