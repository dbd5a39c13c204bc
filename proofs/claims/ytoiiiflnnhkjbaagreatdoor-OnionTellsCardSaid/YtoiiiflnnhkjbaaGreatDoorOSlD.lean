/-
  A list of blocks.
-/
import Derived.Test.YtoiiiflnnhkjbaaGreatDoorOSlC
namespace Go.Proofs.YtoiiiflnnhkjbaaGreatDoor
set_option linter.unusedVariables false
set_option linter.unusedSimpArgs false
open Go.RowKit

structure At (w : World) (l : List (Nat × TypeId × List Value)) (W : World) : Prop where
  has : ∀ x ∈ l, Blk W x.1 x.2.1 x.2.2.toArray
  low : ∀ x ∈ l, w.heap.size ≤ x.1
  nd : (l.map (·.1)).Nodup
  bel : Below w.heap.size w W
section
variable {w W W1 W2 : World} {l : List (Nat × TypeId × List Value)} {g : Nat} {t : TypeId} {cs cs' : List Value} {old : Array Value}
theorem At.start (w : World) : At w [] w := ⟨(fun _ h => by cases h), (fun _ h => by cases h), List.nodup_nil, Below.refl _ _⟩
theorem At.get (h : At w l W) (i : Nat) (hi : l[i]? = some (g, t, cs)) : Blk W g t cs.toArray := h.has _ (List.mem_of_getElem? hi)
theorem At.ge (h : At w l W) (i : Nat) (hi : l[i]? = some (g, t, cs)) : w.heap.size ≤ g := h.low _ (List.mem_of_getElem? hi)
theorem At.frm (h : At w l W) (f : Frm (fun _ => False) W W1) : At w l W1 :=
  ⟨fun x hx => (h.has x hx).frm f (fun h => h), h.low, h.nd, below_frm h.bel f h.bel.size (fun _ h => h.elim)⟩
theorem At.call (h : At w l W) (b : Below W.heap.size W W1) : At w l W1 := h.frm (Frm.of_below b)
theorem At.drew (h : At w l W) : At w l W.drew := h.frm ((Frm.refl _ _).drew)
theorem At.drewN (h : At w l W) (n : Nat) : At w l (W.drewN n) := h.frm ((Frm.refl _ _).drewN n)
theorem At.fresh (h : At w l W) (hg : W.heap.size ≤ g) : ∀ x ∈ l, x.1 ≠ g := fun x hx e => by have := (h.has x hx).lt; omega
theorem At.var (h : At w l W) (hg : W.heap.size ≤ g) (f1 : Frm (fun _ => False) W W1) (f2 : Frm (fun k => k = g) W1 W2) (hb : Blk W2 g t cs.toArray) : At w (l ++ [(g, t, cs)]) W2 := by
  have hf := h.fresh hg
  have hb1 := below_frm h.bel f1 h.bel.size (fun _ h => h.elim)
  have hwg : w.heap.size ≤ g := Nat.le_trans h.bel.size hg
  refine ⟨fun x hx => ?_, fun x hx => ?_, ?_, below_frm hb1 f2 hb1.size (fun k hk => by rw [hk]; exact hwg)⟩
  · rcases List.mem_append.1 hx with hx | hx
    · exact ((h.has x hx).frm f1 (fun h => h)).frm f2 (hf x hx)
    · rw [List.mem_singleton] at hx; subst hx; exact hb
  · rcases List.mem_append.1 hx with hx | hx
    · exact h.low x hx
    · rw [List.mem_singleton] at hx; subst hx; exact hwg
  · rw [List.map_append, List.nodup_append]
    refine ⟨h.nd, by simp, fun a ha b hb' => ?_⟩
    obtain ⟨x, hx, rfl⟩ := List.mem_map.1 ha
    have : b = g := by simpa using hb'
    subst this
    exact hf x hx
theorem At.box (h : At w l W) (hg : W.heap.size ≤ g) (f1 : Frm (fun _ => False) W W1) (hb : Blk W1 g t cs.toArray) : At w (l ++ [(g, t, cs)]) W1 := h.var hg f1 (Frm.refl _ _) hb
theorem At.other (h : At w l W) (i j : Nat) {g2 : Nat} {t2 : TypeId} {cs2 : List Value} (hi : l[i]? = some (g, t, cs)) (hj : l[j]? = some (g2, t2, cs2)) (hne : i ≠ j) : g ≠ g2 := by
  intro e
  have h1 : (l.map (·.1))[i]? = some g := by rw [List.getElem?_map, hi]; rfl
  have h2 : (l.map (·.1))[j]? = some g := by rw [List.getElem?_map, hj]; simp [e]
  obtain ⟨hi', h1⟩ := List.getElem?_eq_some_iff.1 h1
  obtain ⟨hj', h2⟩ := List.getElem?_eq_some_iff.1 h2
  rcases Nat.lt_or_gt_of_ne hne with hlt | hlt
  · exact List.pairwise_iff_getElem.1 h.nd i j hi' hj' hlt (h1.trans h2.symm)
  · exact List.pairwise_iff_getElem.1 h.nd j i hj' hi' hlt (h2.trans h1.symm)
/-- A store into one of them. -/
theorem At.store (h : At w l W) (i : Nat) (hi : l[i]? = some (g, t, cs)) (f : Frm (fun k => k = g) W W1) (hb : Blk W1 g t cs'.toArray) : At w (l.set i (g, t, cs')) W1 := by
  have hil := (List.getElem?_eq_some_iff.1 hi).1
  have hmap : (l.set i (g, t, cs')).map (·.1) = l.map (·.1) := by
    rw [List.map_set]
    apply List.ext_getElem?
    intro j
    rw [List.getElem?_set]
    split
    · rename_i e
      subst e
      rw [if_pos (by simpa using hil), List.getElem?_map, hi]
      rfl
    · rfl
  refine ⟨fun x hx => ?_, fun x hx => ?_, by rw [hmap]; exact h.nd, below_frm h.bel f h.bel.size (fun k hk => by rw [hk]; exact h.ge i hi)⟩
  · obtain ⟨j, hj⟩ := List.mem_iff_getElem?.1 hx
    rw [List.getElem?_set] at hj
    split at hj
    · rename_i e
      subst e
      try rw [if_pos hil] at hj
      injection hj with hj
      subst hj
      exact hb
    · rename_i e
      obtain ⟨xg, xt, xc⟩ := x
      exact (h.get j hj).frm f (fun e2 => h.other i j hi hj e (by show g = xg; exact e2.symm))
  · rcases List.mem_or_eq_of_mem_set hx with hx | hx
    · exact h.low x hx
    · subst hx; exact h.ge i hi
end
theorem at_op {P : Program} {ops : Array Oper} {rest : List Oper} {op : Oper} {a : Act} {w : World} {Q : Exit → Act → World → Prop} (h : wpList P ops Q (op :: rest) a w) : wpList P ops Q (op :: rest) a w := h
theorem full_take {cs : List Value} {n : Nat} (h : cs.length = n) : (cs.drop 0).take n = cs := by rw [List.drop_zero, List.take_of_length_le (by rw [h]; exact Nat.le_refl _)]
theorem held_loadf {P : Program} {ty : TypeId} {n : Nat} (hA : Agg P ty n) {o : Oper} {a : Act} {w : World} (x : Operand) (ho : o.op = .load ty x) (g : Nat) (hx : a.eval x = .pointer (some ⟨g, 0, none⟩)) (t : TypeId) (cs : List Value) (hb : Blk w g t cs.toArray) (hl : cs.length = n) :
    (execOp a.eval o).run P w = .ok (.value (.agg cs.toArray)) w := held_loada hA x ho g 0 hx t cs cs hb (full_take hl) (by omega)
theorem held_load1 {P : Program} {ty : TypeId} {d : TypeDesc} (hu : P.underlying ty = some d) (hd : isAggD d = false) (hi : (P.info? ty).map (·.size) = some 1) {o : Oper} {a : Act} {w : World} (x : Operand) (ho : o.op = .load ty x) (g off : Nat) (hx : a.eval x = .pointer (some ⟨g, off, none⟩)) (t : TypeId) (cs : List Value) (v : Value) (hb : Blk w g t cs.toArray) (hv : cs[off]? = some v) :
    (execOp a.eval o).run P w = .ok (.value v) w := by
  have hc : w.cell? ⟨g, off, none⟩ = some v := by rw [hb.cell, List.getElem?_toArray]; exact hv
  have hagg : (isAgg ty).run P w = .ok false w := by
    unfold isAgg
    rw [Sem.run_bind, run_underlying hu w]
    cases d <;> simp_all [isAggD]
  unfold execOp
  simp [ho, hx, Instr.loadAt, Instr.sureAddr, loadVar, hagg, run_load, hc]
theorem run_storeAt1 {P : Program} {ty : TypeId} (hi : (P.info? ty).map (·.size) = some 1) (w : World) (g off : Nat) (v : Value) (t : TypeId) (cs : List Value) (hv : v.oneCell' = true) (hb : Blk w g t cs.toArray) (hfit : off < cs.length) :
    (Instr.storeAt ty (.pointer (some ⟨g, off, none⟩)) v).run P w = .ok () (w.setCell ⟨g, off, none⟩ v) := by
  have hcs : v.cells = #[v] := by cases v <;> first | rfl | (simp [Value.oneCell'] at hv)
  have hc : w.cell? ⟨g, off, none⟩ = some (cs[off]'hfit) := by rw [hb.cell, List.getElem?_toArray, List.getElem?_eq_getElem hfit]
  cases hq : P.info? ty with
  | none => simp [hq] at hi
  | some i =>
    have hs : i.size = 1 := by simpa [hq] using hi
    have hr := run_store P w ⟨g, off, none⟩ v .plain hv
    rw [hc, hb.frozen] at hr
    simp at hr
    have h0 : (⟨g, off, none⟩ : Addr).add 0 = ⟨g, off, none⟩ := by rw [addr_add, Nat.add_zero]
    simp [Instr.storeAt, Instr.sureAddr, storeVar, sizeOf, typeInfo, hq, hs, hcs, storeCells, h0, hr]
theorem wpl_store1 {P : Program} {ty : TypeId} (hi : (P.info? ty).map (·.size) = some 1) {ops : Array Oper} {rest : List Oper} {op : Oper} {a : Act} {w : World} {Q : Exit → Act → World → Prop} (hgd : op.guard = none) (x y : Operand) (ho : op.op = .store ty x y)
    (g off : Nat) (v : Value) (cs cs' : List Value) (hx : a.eval x = .pointer (some ⟨g, off, none⟩)) (hy : a.eval y = v) (hv : v.oneCell' = true) (t : TypeId) (hb : Blk w g t cs.toArray) (hfit : off < cs.length) (hc : cs.set off v = cs')
    (h : ∀ w', Blk w' g t cs'.toArray → Frm (fun k => k = g) w w' → wpList P ops Q rest (a.put op.dst undef) w') : wpList P ops Q (op :: rest) a w := by
  refine wpList_plain hgd fun K hK => ?_
  subst hy hc
  have hr := run_storeAt1 (P := P) hi w g off (a.eval y) t cs hv hb hfit
  unfold Oper.wp execOp
  simp only [ho, hx, Sem.run_bind, hr, Result.andThen_ok, Sem.run_pure]
  exact hK _ _ (h _ (hb.setL off _) (Frm.setCell _ ⟨g, off, none⟩ _ (fun k => k = g) rfl))
theorem one8 : (Tryz.prog.info? 5).map (·.size) = some 1 := size8
theorem one16w : (Tryz.prog.info? 27).map (·.size) = some 1 := by kernel_rfl
theorem one16a : (Tryz.prog.info? 48).map (·.size) = some 1 := by kernel_rfl
theorem one16b : (Tryz.prog.info? 39).map (·.size) = some 1 := by kernel_rfl
theorem one32 : (Tryz.prog.info? 28).map (·.size) = some 1 := by kernel_rfl
theorem one64 : (Tryz.prog.info? 49).map (·.size) = some 1 := by kernel_rfl
end Go.Proofs.YtoiiiflnnhkjbaaGreatDoor
