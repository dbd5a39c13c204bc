import Derived.Test.YtdilfiojfjgejaaRows
import Derived.WalkKit
import Derived.WalkSpells
import Derived.WalkLawsBesides
import Derived.Maps.AppendAt
import Derived.Deep.AppendLies
import Derived.Deep.Draws
import Derived.Laws.BytesArg
namespace Go.Proofs.Ytdilfiojfjgejaa
set_option linter.unusedVariables false
open Go.RowKit

theorem hide {p : Prop} (h : p) : Hid p := h

/-- Only blocks of S may have turned; new ones may have come. -/
structure Frm (S : Nat → Prop) (w w' : World) : Prop where
  os : w'.os = w.os
  tape : w'.tape = w.tape
  output : w'.output = w.output
  size : w.heap.size ≤ w'.heap.size
  block : ∀ k, k < w.heap.size → ¬ S k → w'.heap[k]? = w.heap[k]?

section
variable {S T : Nat → Prop} {w w' w'' : World}
theorem Frm.refl (S : Nat → Prop) (w : World) : Frm S w w := ⟨rfl, rfl, rfl, Nat.le_refl _, fun _ _ _ => rfl⟩
theorem Frm.trans (h : Frm S w w') (k : Frm T w' w'') (hT : ∀ i, i < w.heap.size → T i → S i) : Frm S w w'' :=
  ⟨k.os.trans h.os, k.tape.trans h.tape, k.output.trans h.output, Nat.le_trans h.size k.size, fun i hi hS =>
    (k.block i (Nat.lt_of_lt_of_le hi h.size) (fun t => hS (hT i hi t))).trans (h.block i hi hS)⟩
theorem Frm.mono (h : Frm S w w') (hT : ∀ i, i < w.heap.size → S i → T i) : Frm T w w' := (Frm.refl T w).trans h hT
theorem Frm.of_below (h : Below w.heap.size w w') : Frm S w w' := ⟨h.os, h.tape, h.output, h.size, fun k hk _ => h.block k hk⟩
theorem Frm.below (h : Frm S w w') {B : Nat} (hB : B ≤ w.heap.size) (hS : ∀ k, S k → B ≤ k) : Below B w w' :=
  ⟨h.os, h.tape, h.output, h.size, fun k hk => h.block k (by omega) (fun s => by have := hS k s; omega)⟩
theorem Frm.of_grown {row : Option Nat} (h : w.grownBy w' row) : Frm (fun k => some k = row) w w' := ⟨h.os, h.tape, h.output, h.size, h.block⟩
theorem Frm.alloc (w : World) (o : Obj) (S : Nat → Prop) : Frm S w (w.alloc o) := ⟨rfl, rfl, rfl, by simp, fun k hk _ => Below.heap_alloc _ _ _ hk⟩
theorem Frm.setCell (w : World) (a : Addr) (u : Value) (S : Nat → Prop) (h : S a.block) : Frm S w (w.setCell a u) :=
  ⟨rfl, rfl, rfl, by simp [World.setCell], fun k _ hk => Below.heap_setCell _ _ _ _ (fun e => hk (e ▸ h))⟩
theorem Frm.drewN (h : Frm S w w') (n : Nat) : Frm S w (w'.drewN n) := ⟨h.os, h.tape, h.output, h.size, h.block⟩
theorem Frm.drew (h : Frm S w w') : Frm S w w'.drew := ⟨h.os, h.tape, h.output, h.size, h.block⟩
theorem Frm.drewL {n : Nat} (h : Frm S (w.drewN n) w') : Frm S w w' := ⟨h.os, h.tape, h.output, h.size, h.block⟩
end

/-- The cells of bytes. -/
def cellsB (l : List UInt8) : List Value := l.map fun b => .int .u8 (b.toNat : Int)
theorem cellsB_length (l : List UInt8) : (cellsB l).length = l.length := by simp [cellsB]
theorem cellsB_append (l m : List UInt8) : cellsB (l ++ m) = cellsB l ++ cellsB m := by simp [cellsB]
theorem cellsB_one (l : List UInt8) : ∀ u ∈ cellsB l, u.oneCell' = true := by
  intro u hu
  obtain ⟨_, _, rfl⟩ := List.mem_map.1 hu
  rfl
theorem cellsB_get (l : List UInt8) (j : Nat) : (cellsB l)[j]? = (l[j]?).map fun b => .int .u8 (b.toNat : Int) := by simp [cellsB]

/-- The slice at A, of n one-celled elements, reads as xs. -/
def Rds (w : World) (A : Option Addr) (n : Nat) (xs : List Value) : Prop :=
  xs.length = n ∧ (0 < n → ∃ a, A = some a ∧ ∀ j u, xs[j]? = some u → w.cell? (a.add j) = some u)

theorem Rds.below {w w' : World} {A : Option Addr} {n : Nat} {xs : List Value} (h : Rds w A n xs) (hb : Below w.heap.size w w') : Rds w' A n xs := by
  refine ⟨h.1, fun hn => ?_⟩
  obtain ⟨a, rfl, hc⟩ := h.2 hn
  refine ⟨a, rfl, fun j u hu => ?_⟩
  have h1 := hc j u hu
  rw [hb.cell (World.block_lt_of_cell? w _ h1)]
  exact h1

/-- A block of cells, known whole, nothing of it frozen. -/
def Blk (w : World) (g : Nat) (t : TypeId) (cs : Array Value) : Prop := w.heap[g]? = some (.cells cs t (0, 0))
section
variable {w w' : World} {g : Nat} {t : TypeId} {cs : Array Value}
theorem Blk.lt (h : Blk w g t cs) : g < w.heap.size := (Array.getElem?_eq_some_iff.1 h).1
theorem Blk.cell (h : Blk w g t cs) (i : Nat) : w.cell? ⟨g, i, none⟩ = cs[i]? := cell_of_row w g i cs t (0, 0) h
theorem Blk.frozen (h : Blk w g t cs) (i : Nat) : w.frozen? ⟨g, i, none⟩ = false := by
  unfold Blk at h
  simp [World.frozen?, h]
theorem Blk.frm {S : Nat → Prop} (h : Blk w g t cs) (f : Frm S w w') (hS : ¬ S g) : Blk w' g t cs := (f.block g h.lt hS).trans h
theorem Blk.set (h : Blk w g t cs) (i : Nat) (u : Value) : Blk (w.setCell ⟨g, i, none⟩ u) g t (cs.setIfInBounds i u) := by
  unfold Blk at h ⊢
  simp [World.setCell, Array.getElem?_modify, h]
theorem Blk.new (w : World) (t : TypeId) (cs : Array Value) : Blk (w.alloc (.cells cs t)) w.heap.size t cs := heap_alloc_new w _
theorem Blk.ne {g' : Nat} {t' : TypeId} {cs' : Array Value} (h : Blk w g t cs) (h' : Blk w g' t' cs') (hne : t ≠ t') : g ≠ g' := by
  rintro rfl
  unfold Blk at h h'
  rw [h] at h'
  injection h' with h'
  injection h' with _ ht
  exact hne ht
end

/-- v is a slice of one-celled elements in a block of its own kind, which may begin behind the block's head; d: its block. -/
def Seg (w : World) (e : TypeId) (v : Value) (d : Option Nat) (xs : List Value) : Prop :=
  ∃ A c, v = .slice A xs.length c ∧ xs.length ≤ c ∧ c ≤ maxLen ∧
    ((A = none ∧ c = 0) ∨ ∃ g off cur, A = some ⟨g, off, none⟩ ∧ d = some g ∧ Blk w g e cur ∧ off + c ≤ cur.size ∧ (cur.toList.drop off).take xs.length = xs)

theorem Seg.rds {w : World} {e : TypeId} {A : Option Addr} {n c : Nat} {d : Option Nat} {xs : List Value} (h : Seg w e (.slice A n c) d xs) : Rds w A n xs := by
  obtain ⟨A', c', hv, hn, hc, hh⟩ := h
  injection hv with h1 h2 h3
  subst h1 h2 h3
  refine ⟨rfl, fun hpos => ?_⟩
  rcases hh with ⟨_, rfl⟩ | ⟨g, off, cur, rfl, _, hb, hs, ht⟩
  · omega
  · refine ⟨_, rfl, fun j u hu => ?_⟩
    have hadd : (⟨g, off, none⟩ : Addr).add j = ⟨g, off + j, none⟩ := by unfold Addr.add; split <;> simp_all
    rw [hadd, hb.cell]
    rw [← ht, List.getElem?_take] at hu
    split at hu
    · rw [List.getElem?_drop] at hu
      simpa using hu
    · cases hu

theorem Seg.of_own {w : World} {e : TypeId} {v : Value} {n base : Nat} {xs : List Value} (h : w.ownsRow base e 1 v n xs) : Seg w e v v.ownBlock xs := by
  obtain ⟨hl, h⟩ := h
  simp only [Nat.mul_one] at hl
  subst hl
  rcases h with ⟨rfl, h0⟩ | ⟨g, cap, cur, rfl, _, hg, h1, h2, h3, h4⟩
  · exact ⟨none, 0, by rw [h0], by omega, by simp [maxLen], .inl ⟨rfl, rfl⟩⟩
  · refine ⟨_, cap, rfl, h1, h2, .inr ⟨g, 0, cur, rfl, rfl, hg, by omega, ?_⟩⟩
    simpa using h4

theorem Seg.frm {S : Nat → Prop} {w w' : World} {e : TypeId} {v : Value} {d : Option Nat} {xs : List Value} (h : Seg w e v d xs) (f : Frm S w w') (hS : ∀ k, d = some k → ¬ S k) : Seg w' e v d xs := by
  obtain ⟨A, c, hv, hn, hc, hh⟩ := h
  refine ⟨A, c, hv, hn, hc, ?_⟩
  rcases hh with h0 | ⟨g, off, cur, hA, hd, hb, hs, ht⟩
  · exact .inl h0
  · exact .inr ⟨g, off, cur, hA, hd, hb.frm f (hS g hd), hs, ht⟩

/-- What the element type must be for the laws of append on one-celled elements. -/
structure One (P : Program) (t e : TypeId) (z : Value) (bytes : Nat) : Prop where
  slice : P.underlying t = some (.slice e)
  info : ∃ i, P.info? e = some i ∧ i.zero = some z ∧ i.size = 1 ∧ i.bytes = bytes
  cell : z.cells.size = 1

theorem One.of {P : Program} {t e : TypeId} {z : Value} {bytes : Nat} (h : P.underlying t = some (.slice e)) (hi : (P.info? e).map (fun i => (i.zero, i.size, i.bytes)) = some (some z, 1, bytes)) (hz : z.cells.size = 1) : One P t e z bytes :=
  ⟨h, info_parts hi, hz⟩

theorem own_form {w : World} {base : Nat} {e : TypeId} {v : Value} {n : Nat} {xs : List Value} (h : w.ownsRow base e 1 v n xs) : ∃ A c, v = .slice A n c := by
  rcases h.2 with ⟨rfl, rfl⟩ | ⟨g, cap, cur, rfl, _⟩
  · exact ⟨_, _, rfl⟩
  · exact ⟨_, _, rfl⟩

/-- append onto a row of one's own, of whatever slice. -/
theorem run_app {P : Program} {t e : TypeId} {z : Value} {bytes : Nat} (o : One P t e z bytes) (ty : TypeId) (w : World) (base : Nat) (v : Value) (n : Nat) (xs : List Value) (hown : w.ownsRow base e 1 v n xs)
    (A : Option Addr) (m c : Nat) (news : List Value) (hr : Rds w A m news) (h1 : ∀ u ∈ news, u.oneCell' = true) (hsm : (n + m) * bytes ≤ 140737488355328) (hsl : n + m ≤ 140737488355328) (hb : base ≤ w.heap.size) :
    ∃ v' w', (Builtin.append_ #[t, t] ty #[v, .slice A m c]).run P w = .ok v' w' ∧ w'.ownsRow base e 1 v' (n + m) (xs ++ news) ∧ w.grownBy w' v.ownBlock ∧ (v'.ownBlock = v.ownBlock ∨ v'.ownBlock = some w.heap.size) := by
  obtain ⟨i, hi, hz, hs, hby⟩ := o.info
  have h63 : n + m ≤ maxLen := by simp only [maxLen]; omega
  rcases A with _ | a
  · have hm : m = 0 := by
      rcases Nat.eq_zero_or_pos m with h | h
      · exact h
      · obtain ⟨a, h, _⟩ := hr.2 h; cases h
    subst hm
    have hn : news = [] := List.eq_nil_of_length_eq_zero hr.1
    subst hn
    refine ⟨v, w, ?_, by simpa using hown, World.grownBy.refl w _, .inl rfl⟩
    rcases hown.2 with ⟨rfl, rfl⟩ | ⟨g, cap, cur, rfl, _, _, hnc, _⟩
    · simp [Builtin.append_, run_underlying o.slice, sizeOf, typeInfo, hi, Builtin.lenOf, Builtin.firstCells]
    · simp [Builtin.append_, run_underlying o.slice, sizeOf, typeInfo, hi, Builtin.lenOf, Builtin.firstCells, hnc, storeCells]
  · have hc : ∀ j u, news[j]? = some u → w.cell? (a.add j) = some u := by
      intro j u hu
      rcases Nat.eq_zero_or_pos m with h | h
      · have hn : news = [] := List.eq_nil_of_length_eq_zero (hr.1.trans h)
        subst hn
        simp at hu
      · obtain ⟨a', h, h2⟩ := hr.2 h
        injection h with h
        subst h
        exact h2 j u hu
    obtain ⟨v', w', h2, h3, h4, _, h5⟩ := run_append_own_at (P := P) w base t ty e i z 1 bytes o.slice hi hz hs hby o.cell (by omega) v n xs hown a m c news (by rw [hr.1, Nat.mul_one]) hc h1 h63 hsm hb
    exact ⟨v', w', h2, h3, h4, h5⟩

theorem wp_app {P : Program} {t e : TypeId} {z : Value} {bytes : Nat} (o : One P t e z bytes) {op : Oper} {a : Act} {K : Act → World → Prop} {Q : Exit → Act → World → Prop} (s x : Operand)
    (ho : op.op = .call { callee := .builtin .append, args := #[s, x], argTypes := #[t, t] }) (w : World) (base : Nat) (v : Value) (n : Nat) (xs : List Value) (hs : a.eval s = v) (hown : w.ownsRow base e 1 v n xs)
    (A : Option Addr) (m c : Nat) (news : List Value) (hx : a.eval x = .slice A m c) (hr : Rds w A m news) (h1 : ∀ u ∈ news, u.oneCell' = true) (hsm : (n + m) * bytes ≤ 140737488355328) (hsl : n + m ≤ 140737488355328) (hb : base ≤ w.heap.size)
    (h : ∀ A' c' w', w'.ownsRow base e 1 (.slice A' (n + m) c') (n + m) (xs ++ news) → w.grownBy w' v.ownBlock → ((Value.slice A' (n + m) c').ownBlock = v.ownBlock ∨ (Value.slice A' (n + m) c').ownBlock = some w.heap.size) → K (a.put op.dst (.slice A' (n + m) c')) w') : op.wp P a w K Q := by
  obtain ⟨v', w', hrun, h2, h3, h4⟩ := run_app o op.type w base v n xs hown A m c news hr h1 hsm hsl hb
  obtain ⟨A', c', rfl⟩ := own_form h2
  unfold Oper.wp execOp
  simp only [ho, resolve, invoke, builtin, Sem.run_bind, Sem.run_pure, Result.andThen_ok, List.map_toArray, List.map_cons, List.map_nil, hs, hx, hrun]
  exact h A' c' w' h2 h3 h4

theorem wpl_app {P : Program} {t e : TypeId} {z : Value} {bytes : Nat} (o : One P t e z bytes) {ops : Array Oper} {rest : List Oper} {op : Oper} {a : Act} {Q : Exit → Act → World → Prop} (hgd : op.guard = none) (s x : Operand)
    (ho : op.op = .call { callee := .builtin .append, args := #[s, x], argTypes := #[t, t] }) (w : World) (base : Nat) (v : Value) (n : Nat) (xs : List Value) (hs : a.eval s = v) (hown : w.ownsRow base e 1 v n xs)
    (A : Option Addr) (m c : Nat) (news : List Value) (hx : a.eval x = .slice A m c) (hr : Rds w A m news) (h1 : ∀ u ∈ news, u.oneCell' = true) (hsm : (n + m) * bytes ≤ 140737488355328) (hsl : n + m ≤ 140737488355328) (hb : base ≤ w.heap.size)
    (h : ∀ A' c' w', w'.ownsRow base e 1 (.slice A' (n + m) c') (n + m) (xs ++ news) → w.grownBy w' v.ownBlock → ((Value.slice A' (n + m) c').ownBlock = v.ownBlock ∨ (Value.slice A' (n + m) c').ownBlock = some w.heap.size) → wpList P ops Q rest (a.put op.dst (.slice A' (n + m) c')) w') : wpList P ops Q (op :: rest) a w :=
  wpList_plain hgd fun _ hK => wp_app o s x ho w base v n xs hs hown A m c news hx hr h1 hsm hsl hb fun A' c' w' h2 h3 h4 => hK _ _ (h A' c' w' h2 h3 h4)

/-- A slice that the call made: in a block from B on, with all of it. -/
def New (B : Nat) (e : TypeId) (xs : List Value) (w : World) (en : Ending) (w' : World) : Prop :=
  ∃ A c, en = .returned (.slice A xs.length c) ∧ w'.ownsRow B e 1 (.slice A xs.length c) xs.length xs ∧ Below w.heap.size w w'

theorem Seg.cut {w : World} {e : TypeId} {A : Option Addr} {n c : Nat} {d : Option Nat} {xs : List Value} (h : Seg w e (.slice A n c) d xs) (k : Nat) (hk : k ≤ n) :
    Seg w e (.slice (if c = k then A else A.map (·.add k)) (n - k) (c - k)) d (xs.drop k) := by
  obtain ⟨A', c', hv, hn, hc, hh⟩ := h
  injection hv with h1 h2 h3
  subst h1 h2 h3
  refine ⟨_, _, by rw [List.length_drop], by rw [List.length_drop]; omega, by omega, ?_⟩
  rcases hh with ⟨rfl, rfl⟩ | ⟨g, off, cur, rfl, hd, hb, hs, ht⟩
  · exact .inl ⟨by simp, by omega⟩
  · right
    by_cases hck : c = k
    · subst hck
      have h0 : xs.length = c := by omega
      refine ⟨g, off, cur, by simp, hd, hb, by omega, ?_⟩
      rw [List.drop_eq_nil_of_le (by omega)]
      simp
    · refine ⟨g, off + k, cur, ?_, hd, hb, by omega, ?_⟩
      · rw [if_neg hck]
        simp only [Option.map_some, Addr.add]
        split <;> simp_all
      · rw [← List.drop_drop, List.length_drop]
        conv => rhs; rw [← ht]
        rw [List.drop_take]

theorem Rds.take {w : World} {A : Option Addr} {n : Nat} {xs : List Value} (h : Rds w A n xs) (k : Nat) (hk : k ≤ n) : Rds w A k (xs.take k) := by
  refine ⟨by rw [List.length_take, h.1]; omega, fun hp => ?_⟩
  obtain ⟨a, rfl, hc⟩ := h.2 (by omega)
  refine ⟨a, rfl, fun j u hu => hc j u ?_⟩
  rw [List.getElem?_take] at hu
  split at hu
  · exact hu
  · cases hu

theorem Seg.set {w : World} {e t : TypeId} {v : Value} {d : Option Nat} {xs : List Value} {g : Nat} {cs : Array Value} (h : Seg w e v d xs) (hb : Blk w g t cs) (hne : e ≠ t) (i : Nat) (u : Value) : Seg (w.setCell ⟨g, i, none⟩ u) e v d xs := by
  obtain ⟨A, c, hv, hn, hc, hh⟩ := h
  refine ⟨A, c, hv, hn, hc, ?_⟩
  rcases hh with h0 | ⟨g', off, cur, hA, hd, hb', hs, ht⟩
  · exact .inl h0
  · exact .inr ⟨g', off, cur, hA, hd, hb'.frm (Frm.setCell _ _ _ (fun k => k = g) rfl) (hb'.ne hb hne), hs, ht⟩

theorem own_set {w : World} {base n : Nat} {e t : TypeId} {v : Value} {xs : List Value} {g : Nat} {cs : Array Value} (h : w.ownsRow base e 1 v n xs) (hb : Blk w g t cs) (hne : e ≠ t) (i : Nat) (u : Value) : (w.setCell ⟨g, i, none⟩ u).ownsRow base e 1 v n xs := by
  refine ⟨h.1, ?_⟩
  rcases h.2 with h0 | ⟨g', cap, cur, hv, hbs, hg, hr⟩
  · exact .inl h0
  · exact .inr ⟨g', cap, cur, hv, hbs, Blk.frm (t := e) hg (Frm.setCell _ _ _ (fun k => k = g) rfl) (Blk.ne (t := e) hg hb hne), hr⟩

theorem own_frm {S : Nat → Prop} {w w' : World} {base n : Nat} {e : TypeId} {v : Value} {xs : List Value} (h : w.ownsRow base e 1 v n xs) (f : Frm S w w') (hS : ∀ k, v.ownBlock = some k → ¬ S k) : w'.ownsRow base e 1 v n xs := by
  refine ⟨h.1, ?_⟩
  rcases h.2 with h0 | ⟨g', cap, cur, rfl, hbs, hg, hr⟩
  · exact .inl h0
  · exact .inr ⟨g', cap, cur, rfl, hbs, Blk.frm (t := e) hg f (hS g' rfl), hr⟩

theorem step_app {P : Program} {t e : TypeId} {z : Value} {bytes : Nat} (o : One P t e z bytes) {ops : Array Oper} {op : Oper} {a : Act} {K : Act → World → Prop} {Q : Exit → Act → World → Prop} {E : Prop} (hgd : op.guard = none) (s x : Operand)
    (ho : op.op = .call { callee := .builtin .append, args := #[s, x], argTypes := #[t, t] }) (w : World) (base : Nat) (v : Value) (n : Nat) (xs : List Value) (hs : a.eval s = v) (hown : w.ownsRow base e 1 v n xs)
    (A : Option Addr) (m c : Nat) (news : List Value) (hx : a.eval x = .slice A m c) (hr : Rds w A m news) (h1 : ∀ u ∈ news, u.oneCell' = true) (hsm : (n + m) * bytes ≤ 140737488355328) (hsl : n + m ≤ 140737488355328) (hb : base ≤ w.heap.size)
    (h : ∀ A' c' w', w'.ownsRow base e 1 (.slice A' (n + m) c') (n + m) (xs ++ news) → w.grownBy w' v.ownBlock → ((Value.slice A' (n + m) c').ownBlock = v.ownBlock ∨ (Value.slice A' (n + m) c').ownBlock = some w.heap.size) → K (a.put op.dst (.slice A' (n + m) c')) w') :
    if Region.wanted op (yielded ops a.tmps) = true then Oper.wp P op a w K Q else E := by
  have hw : Region.wanted op (yielded ops a.tmps) = true := by simp [Region.wanted, hgd]
  rw [if_pos hw]
  exact wp_app o s x ho w base v n xs hs hown A m c news hx hr h1 hsm hsl hb h

theorem own_drewN {w : World} {base n k : Nat} {e : TypeId} {v : Value} {xs : List Value} (h : w.ownsRow base e 1 v n xs) : (w.drewN k).ownsRow base e 1 v n xs := h

/-- A row of one cell that was made just now. -/
theorem Rds.new1 (w : World) (e : TypeId) (u : Value) : Rds (w.alloc (.cells #[u] e)) (some ⟨w.heap.size, 0, none⟩) 1 [u] := by
  refine ⟨rfl, fun _ => ⟨_, rfl, fun j x hx => ?_⟩⟩
  obtain rfl : j = 0 := by
    rcases j with _ | j
    · rfl
    · simp at hx
  have h : x = u := by simpa using hx.symm
  subst h
  exact (Blk.new w e #[x]).cell 0

/-- A block of another kind stays while a row of one's own grows. -/
theorem Blk.grown {w w1 : World} {g : Nat} {t e : TypeId} {cs : Array Value} {base n : Nat} {v : Value} {xs : List Value} (hb : Blk w g t cs) (hown : w.ownsRow base e 1 v n xs) (hne : e ≠ t) (hg : w.grownBy w1 v.ownBlock) : Blk w1 g t cs := by
  refine (hg.block g hb.lt ?_).trans hb
  rcases hown.2 with ⟨rfl, _⟩ | ⟨g', cap, cur, rfl, _, hh, _⟩
  · simp [Value.ownBlock]
  · intro h
    have h : g = g' := by simpa [Value.ownBlock] using h
    exact Blk.ne (t := e) hh hb hne h.symm

theorem one1 (k : IntKind) (x : Int) : ∀ u ∈ [Value.int k x], u.oneCell' = true := by
  intro u hu
  simp at hu
  subst hu
  rfl

theorem nums_cells (l : List UInt8) : (l.map fun b => (b.toNat : Int)).map (Value.int .u8) = cellsB l := by simp [cellsB]
theorem nums_str (l : List UInt8) : strOfNums (l.map fun b => (b.toNat : Int)) = ⟨l.toArray⟩ := by
  unfold strOfNums
  rw [List.map_map]
  congr 2
  conv => rhs; rw [← List.map_id l]
  apply List.map_congr_left
  intro b _
  simp

/-- A slice of bytes as a string. -/
theorem conv_rds {P : Program} (w : World) (src dst e : TypeId) (hs : P.underlying src = some (.slice e)) (he : P.underlying e = some (.int .u8)) (hd : P.underlying dst = some .string) (A : Option Addr) (n c : Nat) (l : List UInt8) (hr : Rds w A n (cellsB l)) :
    (convert src dst (.slice A n c)).run P w = .ok (.string ⟨l.toArray⟩) w := by
  rcases A with _ | a
  · have h0 : n = 0 := by
      rcases Nat.eq_zero_or_pos n with h | h
      · exact h
      · obtain ⟨a, h, _⟩ := hr.2 h; cases h
    have hl : l = [] := by have := hr.1; rw [cellsB_length, h0] at this; exact List.eq_nil_of_length_eq_zero this
    subst hl
    exact run_convert_bytes_nil w src e hs he n c dst hd
  · have hc : ∀ j u, (cellsB l)[j]? = some u → w.cell? (a.add j) = some u := by
      intro j u hu
      rcases Nat.eq_zero_or_pos n with h | h
      · have hn : cellsB l = [] := List.eq_nil_of_length_eq_zero (hr.1.trans h)
        rw [hn] at hu
        simp at hu
      · obtain ⟨a', h, h2⟩ := hr.2 h
        injection h with h
        subst h
        exact h2 j u hu
    have h1 := run_loadCells_list (P := P) w a (cellsB l) hc
    rw [hr.1] at h1
    rw [run_convert_bytes_string w src dst e _ n c hs he hd, run_bytesToString w _ n c (l.map fun b => (b.toNat : Int)) (by rw [nums_cells]; exact h1), foldl_push_bytes]
    refine congrArg (fun s => Result.ok (Value.string s) w) ?_
    show (⟨#[] ++ _⟩ : ByteArray) = _
    rw [Array.empty_append]
    exact nums_str l

theorem below_frm {S : Nat → Prop} {B : Nat} {w w1 w2 : World} (h : Below B w w1) (f : Frm S w1 w2) (hB : B ≤ w1.heap.size) (hS : ∀ k, S k → B ≤ k) : Below B w w2 := h.trans (f.below hB hS)

end Go.Proofs.Ytdilfiojfjgejaa
