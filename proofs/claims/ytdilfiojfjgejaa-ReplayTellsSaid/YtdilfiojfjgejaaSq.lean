/-
  Rows of numbers of any kind; laws of the walk for slices of one-celled elements of any type. They speak of no function of the program.
-/
import Derived.Test.YtdilfiojfjgejaaMem
import Derived.Test.YtdilfiojfjgejaaLaws
import Derived.Deep.QuietTactic
import Derived.BigQuiet
import Derived.Laws.BitsAllLaws
import Derived.IntWalk
import Derived.Laws.CopyOwn
import Derived.Deep.WholeRow
import Derived.Deep.RegionLaw
import Derived.Deep.RegionHeld3
import Derived.Laws.OwnMore
import Derived.StillTailTactics
namespace Go.Proofs.Ytdilfiojfjgejaa
set_option linter.unusedVariables false
open Go.RowKit

/-- The cells of numbers of a kind. -/
def cellsI (k : IntKind) (l : List Nat) : List Value := l.map fun n : Nat => .int k (n : Int)
section
variable {k : IntKind}
theorem cellsI_length (l : List Nat) : (cellsI k l).length = l.length := by simp [cellsI]
theorem cellsI_append (l m : List Nat) : cellsI k (l ++ m) = cellsI k l ++ cellsI k m := by simp [cellsI]
theorem cellsI_one (l : List Nat) : ∀ u ∈ cellsI k l, u.oneCell' = true := by
  intro u hu
  obtain ⟨_, _, rfl⟩ := List.mem_map.1 hu
  rfl
theorem cellsI_get (l : List Nat) (j : Nat) : (cellsI k l)[j]? = (l[j]?).map fun n : Nat => .int k (n : Int) := by simp [cellsI]
theorem cellsI_at (l : List Nat) (j : Nat) (h : j < l.length) : (cellsI k l)[j]? = some (.int k ((l.getD j 0 : Nat) : Int)) := by
  rw [cellsI_get, List.getD_eq_getElem?_getD, List.getElem?_eq_getElem h]; rfl
theorem cellsI_take (l : List Nat) (n : Nat) : (cellsI k l).take n = cellsI k (l.take n) := by simp [cellsI, List.map_take]
theorem cellsI_drop (l : List Nat) (n : Nat) : (cellsI k l).drop n = cellsI k (l.drop n) := by simp [cellsI, List.map_drop]
theorem cellsI_set (l : List Nat) (j x : Nat) : (cellsI k l).set j (.int k (x : Int)) = cellsI k (l.set j x) := by simp [cellsI, List.map_set]
theorem cellsI_inj {l m : List Nat} (h : cellsI k l = cellsI k m) : l = m := by
  apply List.ext_getElem?
  intro j
  have := congrArg (fun x : List Value => x[j]?) h
  simp only [cellsI_get] at this
  cases hl : l[j]? <;> cases hm : m[j]? <;> simp_all
  omega
end

theorem addr_add (g off j : Nat) : (⟨g, off, none⟩ : Addr).add j = ⟨g, off + j, none⟩ := by unfold Addr.add; split <;> simp_all
theorem add_block (a : Addr) (j : Nat) : (a.add j).block = a.block := by unfold Addr.add; split <;> rfl
theorem add_add (a : Addr) (i j : Nat) : (a.add i).add j = a.add (i + j) := by
  unfold Addr.add
  split
  · subst_vars; simp
  · split
    · subst_vars; simp_all
    · split
      · omega
      · simp; omega
theorem cell_frm {S : Nat → Prop} {w w' : World} (f : Frm S w w') {a : Addr} {v : Value} (h : w.cell? a = some v) (hS : ¬ S a.block) : w'.cell? a = some v := by
  have := f.block a.block (World.block_lt_of_cell? w _ h) hS
  rw [← h]
  simp only [World.cell?, this]
theorem cell_set_ne (w : World) (g i j : Nat) (v : Value) (h : i ≠ j) : (w.setCell ⟨g, i, none⟩ v).cell? ⟨g, j, none⟩ = w.cell? ⟨g, j, none⟩ := by
  simp only [World.setCell, World.cell?, Array.getElem?_modify]
  cases hq : w.heap[g]? with
  | none => simp
  | some o => cases o <;> simp [h]
theorem below_drewN {B : Nat} {w w' : World} (h : Below B w w') (n : Nat) : Below B w (w'.drewN n) := ⟨h.os, h.tape, h.output, h.size, h.block⟩

theorem Rds.frm {S : Nat → Prop} {w w' : World} {A : Option Addr} {n : Nat} {xs : List Value} (h : Rds w A n xs) (f : Frm S w w') (hS : 0 < n → ∀ a, A = some a → ¬ S a.block) : Rds w' A n xs := by
  refine ⟨h.1, fun hn => ?_⟩
  obtain ⟨a, rfl, hc⟩ := h.2 hn
  exact ⟨a, rfl, fun j u hu => cell_frm f (hc j u hu) (by rw [add_block]; exact hS hn a rfl)⟩
theorem Rds.frm0 {w w' : World} {A : Option Addr} {n : Nat} {xs : List Value} (h : Rds w A n xs) (f : Frm (fun _ => False) w w') : Rds w' A n xs := h.frm f (fun _ _ _ h => h)
theorem Rds.cut {w : World} {A : Option Addr} {n : Nat} {xs : List Value} (h : Rds w A n xs) (c k : Nat) (hk : k ≤ n) (hc : n ≤ c) : Rds w (if c = k then A else A.map (·.add k)) (n - k) (xs.drop k) := by
  refine ⟨by rw [List.length_drop, h.1], fun hn => ?_⟩
  obtain ⟨a, rfl, hcell⟩ := h.2 (by omega)
  rw [if_neg (by omega)]
  refine ⟨a.add k, rfl, fun j u hu => ?_⟩
  rw [add_add]
  exact hcell _ u (by rwa [List.getElem?_drop] at hu)
theorem Rds.nil (w : World) (A : Option Addr) : Rds w A 0 [] := ⟨rfl, fun h => absurd h (by decide)⟩
theorem Blk.rds {w : World} {g : Nat} {t : TypeId} {xs : List Value} (h : Blk w g t xs.toArray) : Rds w (some ⟨g, 0, none⟩) xs.length xs := by
  refine ⟨rfl, fun _ => ⟨_, rfl, fun j u hu => ?_⟩⟩
  rw [addr_add, h.cell]
  simpa using hu
theorem own_rds {w : World} {base n c : Nat} {e : TypeId} {A : Option Addr} {xs : List Value} (h : w.ownsRow base e 1 (.slice A n c) n xs) : Rds w A n xs := by
  have hl : xs.length = n := by have := h.1; omega
  have h1 := Seg.of_own h
  rw [← hl] at h1 ⊢
  exact h1.rds
theorem own_base {w : World} {B B' n : Nat} {e : TypeId} {v : Value} {xs : List Value} (h : w.ownsRow B e 1 v n xs) (hB : B' ≤ B) : w.ownsRow B' e 1 v n xs := by
  refine ⟨h.1, ?_⟩
  rcases h.2 with h0 | ⟨g, cap, cur, hv, hb, hr⟩
  · exact .inl h0
  · exact .inr ⟨g, cap, cur, hv, Nat.le_trans hB hb, hr⟩
theorem own_ge {w : World} {B n : Nat} {e : TypeId} {v : Value} {xs : List Value} (h : w.ownsRow B e 1 v n xs) : ∀ k, v.ownBlock = some k → B ≤ k ∧ k < w.heap.size := by
  intro k hk
  rcases h.2 with ⟨rfl, _⟩ | ⟨g, cap, cur, rfl, hb, hg, _⟩
  · cases hk
  · have : g = k := by simpa [Value.ownBlock] using hk
    subst this
    exact ⟨hb, (Array.getElem?_eq_some_iff.1 hg).1⟩
theorem own_ne {w : World} {B n g : Nat} {e t : TypeId} {v : Value} {xs : List Value} {cs : Array Value} (h : w.ownsRow B e 1 v n xs) (hb : Blk w g t cs) (hne : e ≠ t) : v.ownBlock ≠ some g := by
  rcases h.2 with ⟨rfl, _⟩ | ⟨g', cap, cur, rfl, _, hg, _⟩
  · intro h; cases h
  · intro h
    have : g' = g := by simpa [Value.ownBlock] using h
    exact Blk.ne (t := e) hg hb hne this

section
variable {P : Program} {t e : TypeId} {z : Value} {bytes : Nat}
theorem One.size (o : One P t e z bytes) : (P.info? e).map (·.size) = some 1 := by
  obtain ⟨i, hi, _, hs, _⟩ := o.info
  simp [hi, hs]

/-! Cuts. -/
theorem run_cutQ0 (o : One P t e z bytes) (A : Option Addr) (n c j : Nat) (hj : j ≤ c) (w : World) :
    (Instr.sliceAt t (.slice A n c) none (some (.int .i64 (j : Int))) none).run P w = .ok (.slice A j c) w := by
  have h0 : A.map (·.add 0) = A := by cases A <;> simp [Addr.add]
  obtain ⟨i, hi, _, hs, _⟩ := o.info
  simp [Instr.sliceAt, Instr.slice, run_underlying o.slice, Instr.sliceBounds, Instr.sliceBound, asIntOf, sizeOf, typeInfo, hi, hj, h0]
theorem run_cutQ1 (o : One P t e z bytes) (A : Option Addr) (n c i : Nat) (hi : i ≤ n) (w : World) :
    (Instr.sliceAt t (.slice A n c) (some (.int .i64 (i : Int))) none none).run P w = .ok (.slice (if c = i then A else A.map (·.add i)) (n - i) (c - i)) w := by
  obtain ⟨d, hq, _, hs, _⟩ := o.info
  simp [Instr.sliceAt, Instr.slice, run_underlying o.slice, Instr.sliceBounds, Instr.sliceBound, asIntOf, sizeOf, typeInfo, hq, hs, hi]
theorem run_cutQ2 (o : One P t e z bytes) (A : Option Addr) (n c i j : Nat) (hij : i ≤ j) (hj : j ≤ c) (w : World) :
    (Instr.sliceAt t (.slice A n c) (some (.int .i64 (i : Int))) (some (.int .i64 (j : Int))) none).run P w = .ok (.slice (if c = i then A else A.map (·.add i)) (j - i) (c - i)) w := by
  obtain ⟨d, hq, _, hs, _⟩ := o.info
  simp [Instr.sliceAt, Instr.slice, run_underlying o.slice, Instr.sliceBounds, Instr.sliceBound, asIntOf, sizeOf, typeInfo, hq, hs, hij, hj]
theorem run_cutQ3 (o : One P t e z bytes) (A : Option Addr) (n c i j m : Nat) (hij : i ≤ j) (hjm : j ≤ m) (hm : m ≤ c) (w : World) :
    (Instr.sliceAt t (.slice A n c) (some (.int .i64 (i : Int))) (some (.int .i64 (j : Int))) (some (.int .i64 (m : Int)))).run P w = .ok (.slice (if m = i then A else A.map (·.add i)) (j - i) (m - i)) w := by
  obtain ⟨d, hq, _, hs, _⟩ := o.info
  simp [Instr.sliceAt, Instr.slice, run_underlying o.slice, Instr.sliceBounds, Instr.sliceBound, asIntOf, sizeOf, typeInfo, hq, hs, hij, hjm, hm]

theorem wpl_cutQ0 (o : One P t e z bytes) {ops : Array Oper} {rest : List Oper} {op : Oper} {a : Act} {w : World} {Q : Exit → Act → World → Prop} (hgd : op.guard = none) (x hi : Operand)
    (ho : op.op = .slice t x none (some hi) none) (A : Option Addr) (n c j : Nat) (J : Int) (hx : a.eval x = .slice A n c) (hh : a.eval hi = .int .i64 J) (hJ : J = (j : Int)) (hj : j ≤ c)
    (h : wpList P ops Q rest (a.put op.dst (.slice A j c)) w) : wpList P ops Q (op :: rest) a w := by
  subst hJ
  refine wpList_plain hgd fun K hK => ?_
  unfold Oper.wp execOp
  simp only [ho, Option.map_some, Option.map_none, hx, hh, run_cutQ0 o A n c j hj, Sem.run_bind, Result.andThen_ok]
  exact hK _ _ h
theorem wpl_cutQ1 (o : One P t e z bytes) {ops : Array Oper} {rest : List Oper} {op : Oper} {a : Act} {w : World} {Q : Exit → Act → World → Prop} (hgd : op.guard = none) (x lo : Operand)
    (ho : op.op = .slice t x (some lo) none none) (A A' : Option Addr) (n c i m : Nat) (I : Int) (hx : a.eval x = .slice A n c) (hl : a.eval lo = .int .i64 I) (hI : I = (i : Int)) (hi : i ≤ n) (hm : m = n - i)
    (hA : A' = if c = i then A else A.map (·.add i)) (h : wpList P ops Q rest (a.put op.dst (.slice A' m (c - i))) w) : wpList P ops Q (op :: rest) a w := by
  subst hI hA hm
  refine wpList_plain hgd fun K hK => ?_
  unfold Oper.wp execOp
  simp only [ho, Option.map_some, Option.map_none, hx, hl, run_cutQ1 o A n c i hi, Sem.run_bind, Result.andThen_ok]
  exact hK _ _ h
theorem wpl_cutQ2 (o : One P t e z bytes) {ops : Array Oper} {rest : List Oper} {op : Oper} {a : Act} {w : World} {Q : Exit → Act → World → Prop} (hgd : op.guard = none) (x lo hi : Operand)
    (ho : op.op = .slice t x (some lo) (some hi) none) (A A' : Option Addr) (n c i j m : Nat) (I J : Int) (hx : a.eval x = .slice A n c) (hl : a.eval lo = .int .i64 I) (hh : a.eval hi = .int .i64 J) (hI : I = (i : Int)) (hJ : J = (j : Int)) (hij : i ≤ j) (hj : j ≤ c) (hm : m = j - i)
    (hA : A' = if c = i then A else A.map (·.add i)) (h : wpList P ops Q rest (a.put op.dst (.slice A' m (c - i))) w) : wpList P ops Q (op :: rest) a w := by
  subst hI hJ hA hm
  refine wpList_plain hgd fun K hK => ?_
  unfold Oper.wp execOp
  simp only [ho, Option.map_some, Option.map_none, hx, hl, hh, run_cutQ2 o A n c i j hij hj, Sem.run_bind, Result.andThen_ok]
  exact hK _ _ h
theorem wpl_cutQ3 (o : One P t e z bytes) {ops : Array Oper} {rest : List Oper} {op : Oper} {a : Act} {w : World} {Q : Exit → Act → World → Prop} (hgd : op.guard = none) (x lo hi mx : Operand)
    (ho : op.op = .slice t x (some lo) (some hi) (some mx)) (A : Option Addr) (n c i j m : Nat) (hx : a.eval x = .slice A n c) (hl : a.eval lo = .int .i64 (i : Int)) (hh : a.eval hi = .int .i64 (j : Int)) (hmx : a.eval mx = .int .i64 (m : Int)) (hij : i ≤ j) (hjm : j ≤ m) (hm : m ≤ c)
    (h : ∀ A' n' c', wpList P ops Q rest (a.put op.dst (.slice A' n' c')) w) : wpList P ops Q (op :: rest) a w := by
  refine wpList_plain hgd fun K hK => ?_
  unfold Oper.wp execOp
  simp only [ho, Option.map_some, hx, hl, hh, hmx, run_cutQ3 o A n c i j m hij hjm hm, Sem.run_bind, Result.andThen_ok]
  exact hK _ _ (h _ _ _)

/-! A row of one's own, made with room. -/
theorem wpl_make0 (o : One P t e z bytes) {ops : Array Oper} {rest : List Oper} {op : Oper} {a : Act} {w : World} {Q : Exit → Act → World → Prop} (hgd : op.guard = none) (x y : Operand) (ho : op.op = .makeSlice t x y)
    (C : Int) (c : Nat) (hx : a.eval x = .int .i64 0) (hy : a.eval y = .int .i64 C) (hC : C = (c : Int)) (hc : c ≤ 1000000) (hb : bytes ≤ 64)
    (h : ∀ g w', w'.ownsRow w.heap.size e 1 (.slice (some ⟨g, 0, none⟩) 0 c) 0 [] → w.heap.size ≤ g → Frm (fun _ => False) w w' → wpList P ops Q rest (a.put op.dst (.slice (some ⟨g, 0, none⟩) 0 c)) w') : wpList P ops Q (op :: rest) a w := by
  subst hC
  refine wpList_plain hgd fun K hK => ?_
  obtain ⟨i, hq, hz, hs, hby⟩ := o.info
  have h1 : (i.bytes : Int) * (c : Int) ≤ 281474976710656 := by
    rw [hby]
    have : bytes * c ≤ 64 * 1000000 := Nat.mul_le_mul hb hc
    have e : ((bytes : Int) * (c : Int)) = ((bytes * c : Nat) : Int) := (Int.natCast_mul _ _).symm
    rw [e]
    omega
  have hr := run_make (P := P) w t e i z o.slice hq hz .i64 .i64 0 (c : Int) (by omega) (by omega) h1 (by omega)
  rw [hs] at hr
  simp only [Int.toNat_natCast, Nat.mul_one, Int.toNat_zero] at hr
  have hown := World.ownsRow_made (base := w.heap.size) (e := e) (size := 1) w (madeCells z.cells c) c (Nat.le_refl _) (by simp only [maxLen]; omega) (by simp [madeCells])
  unfold Oper.wp execOp
  simp [ho, hx, hy, hr, Oper.upon, Result.andThen]
  exact hK _ _ (h _ _ hown (Nat.le_refl _) (Frm.alloc _ _ _))
theorem Frm.setRow (w : World) (g : Nat) (cs : Array Value) : Frm (fun k => k = g) w (w.setRow g cs) :=
  ⟨rfl, rfl, rfl, by simp [World.setRow], fun k _ hk => setRow_other w g k cs (fun e => hk e)⟩
theorem Blk.setRow {w : World} {g : Nat} {t : TypeId} {old : Array Value} (h : Blk w g t old) (cs : Array Value) : Blk (w.setRow g cs) g t cs := setRow_heap w g _ _ t _ h

/-- clear of a part of a block that is known whole. -/
theorem wpl_clearQ (o : One P t e z bytes) (hz1 : z.cells = #[z]) (hz2 : z.oneCell' = true) {ops : Array Oper} {rest : List Oper} {op : Oper} {a : Act} {w : World} {Q : Exit → Act → World → Prop} (hgd : op.guard = none) (s : Operand)
    (ho : op.op = .call { callee := .builtin .clear, args := #[s], argTypes := #[t] })
    (g off n c : Nat) (hs : a.eval s = .slice (some ⟨g, off, none⟩) n c) (hn : 0 < n) (cur : List Value) (t' : TypeId) (hg : Blk w g t' cur.toArray) (hfit : off + n ≤ cur.length)
    (h : ∀ w', Blk w' g t' (splice cur off (List.replicate n z)).toArray → Frm (fun k => k = g) w w' → wpList P ops Q rest (a.put op.dst (.tuple #[])) w') : wpList P ops Q (op :: rest) a w := by
  refine wpList_plain hgd fun K hK => ?_
  obtain ⟨i, hq, hz, hsz, hby⟩ := o.info
  have hzv : ∀ w, (zeroValue e).run P w = .ok z w := by intro w; simp [zeroValue, typeInfo, hq, hz]
  have hzc : (Builtin.zeroCells z.cells n).toList = List.replicate n z := by
    rw [hz1]
    simp [Builtin.zeroCells]
    apply List.ext_getElem
    · simp
    · intro i h1 h2
      simp [Nat.mod_one]
  have hst := run_storeCells_at P g off t' (List.replicate n z) 0 cur.toArray w hg (by simpa using hfit) (fun v hv => by rw [List.eq_of_mem_replicate hv]; exact hz2)
  obtain ⟨m, rfl⟩ : ∃ m, n = m + 1 := ⟨n - 1, by omega⟩
  have hr : ∀ ty, (Builtin.clear_ #[t] ty #[.slice (some ⟨g, off, none⟩) (m + 1) c]).run P w = .ok (.tuple #[]) (w.setRow g (splice cur off (List.replicate (m + 1) z)).toArray) := by
    intro ty
    simp only [Nat.add_zero] at hst
    simp [Builtin.clear_, run_underlying o.slice, hzv, hzc, hst, splice]
  unfold Oper.wp execOp
  simp [ho, resolve, invoke, builtin, hs, hr, Result.andThen]
  exact hK _ _ (h _ (Blk.setRow hg _) (Frm.setRow _ _ _))

/-- append onto a row of one's own where there is room, of whatever lies where it lies: as one step of a region. -/
theorem step_fits (o : One P t e z bytes) {ops : Array Oper} {op : Oper} {a : Act} {K : Act → World → Prop} {Q : Exit → Act → World → Prop} {E : Prop} (hgd : op.guard = none) (s x : Operand)
    (ho : op.op = .call { callee := .builtin .append, args := #[s, x], argTypes := #[t, t] }) (w : World) (base g n cap : Nat) (xs : List Value) (hs : a.eval s = .slice (some ⟨g, 0, none⟩) n cap) (hown : w.ownsRow base e 1 (.slice (some ⟨g, 0, none⟩) n cap) n xs)
    (A : Option Addr) (ad : Addr) (hA : A = some ad) (m c : Nat) (news : List Value) (hx : a.eval x = .slice A m c) (hr : Rds w A m news) (h1 : ∀ u ∈ news, u.oneCell' = true) (hroom : n + m ≤ cap) (nm : Nat) (hnm : nm = n + m)
    (h : ∀ w', w'.ownsRow base e 1 (.slice (some ⟨g, 0, none⟩) nm cap) nm (xs ++ news) → Frm (fun k => k = g) w w' → K (a.put op.dst (.slice (some ⟨g, 0, none⟩) nm cap)) w') :
    if Region.wanted op (yielded ops a.tmps) = true then Oper.wp P op a w K Q else E := by
  have hw : Region.wanted op (yielded ops a.tmps) = true := by simp [Region.wanted, hgd]
  rw [if_pos hw]
  subst hA hnm
  obtain ⟨i, hq, hz, hsz, hby⟩ := o.info
  obtain ⟨w', hrun, h2, h3⟩ := run_append_fits (P := P) w base t op.type e i 1 o.slice hq hsz g n cap xs hown ad m c news (by rw [hr.1, Nat.mul_one]) (fun j u hu => by
    obtain ⟨a', e1, hc⟩ := hr.2 (by have := (List.getElem?_eq_some_iff.1 hu).1; rw [hr.1] at this; omega)
    injection e1 with e1
    subst e1
    exact hc j u hu) h1 hroom
  unfold Oper.wp execOp
  simp only [ho, resolve, invoke, builtin, Sem.run_bind, Sem.run_pure, Result.andThen_ok, List.map_toArray, List.map_cons, List.map_nil, hs, hx, hrun]
  exact h w' h2 ((Frm.of_grown h3).mono (fun k _ hk => Option.some.inj hk))
end

/-- A row of one's own, cut short. -/
theorem own_short {w : World} {base g n c j : Nat} {e : TypeId} {xs : List Value} (h : w.ownsRow base e 1 (.slice (some ⟨g, 0, none⟩) n c) n xs) (hj : j ≤ n) : w.ownsRow base e 1 (.slice (some ⟨g, 0, none⟩) j c) j (xs.take j) := by
  obtain ⟨hl, h⟩ := h
  simp only [Nat.mul_one] at hl
  rcases h with ⟨h, _⟩ | ⟨g', cap, cur, hv, hb, hg, h1, h2, h3, h4⟩
  · cases h
  · injection hv with hA _ hc
    injection hA with hA
    injection hA with hA
    subst hA hc
    simp only [Nat.mul_one] at h3 h4
    refine ⟨by rw [List.length_take, hl]; omega, .inr ⟨g, c, cur, rfl, hb, hg, by omega, h2, by omega, ?_⟩⟩
    rw [Nat.mul_one, ← h4, List.take_take]
    congr 1
    omega
/-- The block of a row of one's own, whole. -/
theorem own_blk {w : World} {base g n c : Nat} {e : TypeId} {xs : List Value} (h : w.ownsRow base e 1 (.slice (some ⟨g, 0, none⟩) n c) n xs) : ∃ cur : List Value, Blk w g e cur.toArray ∧ cur.length = c ∧ cur.take n = xs ∧ n ≤ c ∧ c ≤ maxLen ∧ base ≤ g := by
  obtain ⟨hl, h⟩ := h
  rcases h with ⟨h, _⟩ | ⟨g', cap, cur, hv, hb, hg, h1, h2, h3, h4⟩
  · cases h
  · injection hv with hA _ hc
    injection hA with hA
    injection hA with hA
    subst hA hc
    simp only [Nat.mul_one] at h3 h4
    exact ⟨cur.toList, hg, by simpa using h3, h4, h1, h2, hb⟩
theorem own_of {w : World} {base g n c : Nat} {e : TypeId} {cur : List Value} (hg : Blk w g e cur.toArray) (hl : cur.length = c) (hn : n ≤ c) (hc : c ≤ maxLen) (hb : base ≤ g) : w.ownsRow base e 1 (.slice (some ⟨g, 0, none⟩) n c) n (cur.take n) :=
  ⟨by rw [List.length_take]; omega, .inr ⟨g, c, cur.toArray, rfl, hb, hg, hn, hc, by simpa using hl, by simp⟩⟩
/-- A row of one's own that is not empty, by its block. -/
theorem own_some {w : World} {base n c : Nat} {e : TypeId} {A : Option Addr} {xs : List Value} (h : w.ownsRow base e 1 (.slice A n c) n xs) (hn : 0 < n) : ∃ g, A = some ⟨g, 0, none⟩ := by
  rcases h.2 with ⟨hv, h0⟩ | ⟨g', cap, cur, hv, _⟩
  · omega
  · injection hv with hA
    exact ⟨g', hA⟩
theorem own_nil (w : World) (base : Nat) (e : TypeId) : w.ownsRow base e 1 (.slice none 0 0) 0 [] := ⟨rfl, .inl ⟨rfl, rfl⟩⟩

theorem min_int (a b : Nat) : (Nat.min a b : Int) = if (b : Int) < (a : Int) then (b : Int) else (a : Int) := by
  show ((min a b : Nat) : Int) = _
  rw [Nat.min_def]
  split <;> split <;> omega
theorem nat_min (a b : Nat) : ∃ m : Nat, Hid ((m : Int) = if (b : Int) < (a : Int) then (b : Int) else (a : Int)) ∧ m ≤ a ∧ m ≤ b ∧ m = Nat.min a b :=
  ⟨Nat.min a b, min_int a b, Nat.min_le_left _ _, Nat.min_le_right _ _, rfl⟩
end Go.Proofs.Ytdilfiojfjgejaa
