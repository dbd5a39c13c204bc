/-
  Build.
-/
import Derived.Test.YtoiiiflnnhkjbaaGreatDoorOnW
import Derived.Test.YtoiiiflnnhkjbaaGreatDoorOnL
import Derived.Test.YtoiiiflnnhkjbaaGreatDoorOnR
import Derived.Great.FillDense
namespace Go.Proofs.YtoiiiflnnhkjbaaGreatDoor
set_option linter.unusedVariables false
set_option linter.unusedSimpArgs false
open Go.RowKit

theorem OAt.own {w : World} {l : List (Nat × TypeId × List Value)} {W W' : World} {row : Option Nat} {B : Nat} (h : OAt w l W) (hB : w.heap.size ≤ B) (hg : W.grownBy W' row) (hr : ∀ r, row = some r → B ≤ r ∧ ∃ o : Obj, W.heap[r]? = some o ∧ o.isCells = false) : OAt w l W' := by
  have hF := Frm.of_grown hg
  refine ⟨⟨fun x hx => (h.at0.has x hx).frm hF (fun e => ?_), h.at0.low, h.at0.nd, below_frm h.bel hF h.bel.size (fun k hk => by have := (hr k hk.symm).1; omega)⟩, h.tb.frm hF (fun k hk => by have := (hr k hk.symm).1; have := h.four; omega), h.four⟩
  obtain ⟨_, o, ho, hc⟩ := hr _ e.symm
  have hb : W.heap[x.1]? = _ := h.at0.has x hx
  rw [hb] at ho
  injection ho with ho
  subst ho
  cases hc
/-- What a round has turned, beside what lies. -/
structure RAt (w : World) (l : List (Nat × TypeId × List Value)) (S : Nat → Prop) (W0 W : World) : Prop where
  at' : OAt w l W
  fr : Frm S W0 W
section
variable {w W0 W W1 W2 : World} {l : List (Nat × TypeId × List Value)} {S : Nat → Prop} {g : Nat} {t : TypeId} {cs cs' : List Value} {old : Array Value}
theorem RAt.start (h : OAt w l W) : RAt w l S W W := ⟨h, Frm.refl _ _⟩
theorem RAt.get (h : RAt w l S W0 W) (i : Nat) (hi : l[i]? = some (g, t, cs)) : Blk W g t cs.toArray := h.at'.get i hi
theorem RAt.tb (h : RAt w l S W0 W) : Tb W := h.at'.tb
theorem RAt.bel (h : RAt w l S W0 W) : Below w.heap.size w W := h.at'.bel
theorem RAt.frm (h : RAt w l S W0 W) (f : Frm (fun _ => False) W W1) : RAt w l S W0 W1 := ⟨h.at'.frm f, h.fr.trans f (fun _ _ h => h.elim)⟩
theorem RAt.call (h : RAt w l S W0 W) (b : Below W.heap.size W W1) : RAt w l S W0 W1 := h.frm (Frm.of_below b)
theorem RAt.drew (h : RAt w l S W0 W) : RAt w l S W0 W.drew := h.frm ((Frm.refl _ _).drew)
theorem RAt.store (h : RAt w l S W0 W) (i : Nat) (hi : l[i]? = some (g, t, cs)) (f : Frm (fun k => k = g) W W1) (hb : Blk W1 g t cs'.toArray) (hS : S g) : RAt w (l.set i (g, t, cs')) S W0 W1 :=
  ⟨h.at'.store i hi f hb, h.fr.trans f (fun i _ hi => by rw [hi]; exact hS)⟩
theorem OAt.add (h : OAt w l W) (hb : Blk W g t cs.toArray) (hl : w.heap.size ≤ g) (hne : ∀ x ∈ l, x.1 ≠ g) : OAt w (l ++ [(g, t, cs)]) W := by
  refine ⟨⟨fun x hx => ?_, fun x hx => ?_, ?_, h.bel⟩, h.tb, h.four⟩
  · rcases List.mem_append.1 hx with hx | hx
    · exact h.at0.has x hx
    · rw [List.mem_singleton.1 hx]; exact hb
  · rcases List.mem_append.1 hx with hx | hx
    · exact h.at0.low x hx
    · rw [List.mem_singleton.1 hx]; exact hl
  · rw [List.map_append, List.nodup_append]
    refine ⟨h.at0.nd, by simp, ?_⟩
    intro a ha b hb' e
    obtain ⟨x, hx, rfl⟩ := List.mem_map.1 ha
    simp at hb'
    exact hne x hx (e.trans hb')
theorem Blk.own (h : Blk W g t cs.toArray) {row : Option Nat} {B : Nat} (hg : W.grownBy W1 row) (hr : ∀ r, row = some r → B ≤ r ∧ ∃ o : Obj, W.heap[r]? = some o ∧ o.isCells = false) : Blk W1 g t cs.toArray := by
  refine h.frm (Frm.of_grown hg) (fun e => ?_)
  obtain ⟨_, o, ho, hc⟩ := hr _ e.symm
  have hb : W.heap[g]? = _ := h
  rw [hb] at ho
  injection ho with ho
  subst ho
  cases hc
theorem RAt.box (h : RAt w l S W0 W) (hg : W.heap.size ≤ g) (f1 : Frm (fun _ => False) W W1) (hb : Blk W1 g t cs.toArray) : RAt w (l ++ [(g, t, cs)]) S W0 W1 := ⟨h.at'.box hg f1 hb, h.fr.trans f1 (fun _ _ h => h.elim)⟩
end
theorem step_alloca {P : Program} {ops : Array Oper} {op : Oper} {a : Act} {w : World} {K : Act → World → Prop} {Q : Exit → Act → World → Prop} {E : Prop} (hgd : op.guard = none) (t : TypeId) (ho : op.op = .alloc t)
    (cs : List Value) (hz : (P.info? t).map (fun i => i.zero) = some (some (.agg cs.toArray)))
    (h : ∀ g w', Blk w' g t cs.toArray → w.heap.size ≤ g → Frm (fun _ => False) w w' → K (a.put op.dst (.pointer (some ⟨g, 0, none⟩))) w') : if Region.wanted op (yielded ops a.tmps) = true then Oper.wp P op a w K Q else E := by
  have hw : Region.wanted op (yielded ops a.tmps) = true := by simp [Region.wanted, hgd]
  rw [if_pos hw]
  have hzv : ∀ w, (zeroValue t).run P w = .ok (.agg cs.toArray) w := by
    intro w
    cases hq : P.info? t with
    | none => simp [hq] at hz
    | some i => simp [hq] at hz; simp [zeroValue, typeInfo, hq, hz]
  unfold Oper.wp execOp
  simp [ho, Instr.alloc, hzv, newVar, newRow, Value.cells, Oper.upon, Result.andThen]
  exact h _ _ (Blk.new _ _ _) (Nat.le_refl _) (Frm.alloc _ _ _)
theorem step_store1 {P : Program} {ty : TypeId} (hi : (P.info? ty).map (·.size) = some 1) {ops : Array Oper} {op : Oper} {a : Act} {w : World} {K : Act → World → Prop} {Q : Exit → Act → World → Prop} {E : Prop} (hgd : op.guard = none) (x y : Operand) (ho : op.op = .store ty x y)
    (g off : Nat) (v : Value) (cs cs' : List Value) (hx : a.eval x = .pointer (some ⟨g, off, none⟩)) (hy : a.eval y = v) (hv : v.oneCell' = true) (t : TypeId) (hb : Blk w g t cs.toArray) (hfit : off < cs.length) (hc : cs.set off v = cs')
    (h : ∀ w', Blk w' g t cs'.toArray → Frm (fun k => k = g) w w' → K (a.put op.dst undef) w') : if Region.wanted op (yielded ops a.tmps) = true then Oper.wp P op a w K Q else E := by
  have hw : Region.wanted op (yielded ops a.tmps) = true := by simp [Region.wanted, hgd]
  rw [if_pos hw]
  subst hy hc
  have hr := run_storeAt1 (P := P) hi w g off (a.eval y) t cs hv hb hfit
  unfold Oper.wp execOp
  simp only [ho, hx, Sem.run_bind, hr, Result.andThen_ok, Sem.run_pure]
  exact h _ (hb.setL off _) (Frm.setCell _ ⟨g, off, none⟩ _ (fun k => k = g) rfl)
theorem bldR_foldr (x : Pkt × Slot) (l : List HopL) : bldR x l = l.foldr stepB x := by
  induction l with
  | nil => rfl
  | cons h t ih => rw [bldR, ih]; rfl
/-- What waits when these have been wrapped. -/
def stB (x : Pkt × Slot) (pre : List Item) : Pkt × Slot := (pre.map (fun i => i.1.2)).foldl (fun x h => stepB h x) x
theorem stB_snoc (x : Pkt × Slot) (pre : List Item) (i : Item) : stB x (pre ++ [i]) = stepB i.1.2 (stB x pre) := by simp [stB]
theorem stB_all (x : Pkt × Slot) (hs : List HopL) (hok : ∀ h ∈ hs, h.ok) (n : Nat) (hn : hs.length = n) : stB x (backU hs hok n) = bldR x hs := by
  subst hn
  rw [stB, backU_all, List.foldl_reverse, bldR_foldr]
theorem stB_ok {x : Pkt × Slot} (h1 : x.1.ok) (h2 : x.2.ok) : ∀ pre : List Item, (stB x pre).1.ok ∧ (stB x pre).2.ok := by
  intro pre
  unfold stB
  generalize hL : pre.map (fun i => i.1.2) = L
  have hok : ∀ h ∈ L, h.ok := by
    intro h hh
    rw [← hL] at hh
    obtain ⟨i, _, rfl⟩ := List.mem_map.1 hh
    exact i.2
  clear hL
  induction L generalizing x with
  | nil => exact ⟨h1, h2⟩
  | cons a t ih =>
    have k := hok a (List.mem_cons_self ..)
    have hw := wrapL_ok k (inSlot_ok k h2) h1
    exact ih (x := stepB a x) hw (ofHop_ok k hw.mac) (fun h hh => hok h (List.mem_cons_of_mem _ hh))
theorem fold_splice (off : Nat) (l cs : List Value) (h : off + l.length ≤ cs.length) : (l.toArray.zipIdx).foldl (fun cs (x : Value × Nat) => cs.setIfInBounds (off + x.2) x.1) cs.toArray = (splice cs off l).toArray := by
  have e : (l.toArray.zipIdx).foldl (fun cs (x : Value × Nat) => cs.setIfInBounds (off + x.2) x.1) cs.toArray = (l.zipIdx 0).foldl (fun cs (x : Value × Nat) => cs.setIfInBounds (off + x.2) x.1) cs.toArray := by
    simp
  rw [e]
  obtain ⟨h1, h2⟩ := Go.Great.foldl_set off l 0 cs.toArray
  apply Array.ext_getElem?
  intro k
  rw [h2 k]
  simp only [List.getElem?_toArray, List.size_toArray, Nat.add_zero]
  unfold splice
  by_cases hk : off ≤ k
  · by_cases hk2 : k < off + l.length
    · rw [if_pos ⟨hk, hk2, by omega⟩, List.getElem?_append_right (by rw [List.length_take]; omega), List.length_take, Nat.min_eq_left (by omega), List.getElem?_append_left (by omega)]
    · rw [if_neg (by omega), List.getElem?_append_right (by rw [List.length_take]; omega), List.length_take, Nat.min_eq_left (by omega), List.getElem?_append_right (by omega), List.getElem?_drop]
      congr 1
      omega
  · rw [if_neg (by omega), List.getElem?_append_left (by rw [List.length_take]; omega), List.getElem?_take, if_pos (by omega)]
def placesOf (P : Program) (t : TypeId) : Option (List (Nat × Nat)) := match P.underlying t with
  | some (.struct fields) => fields.toList.mapM (fun f => (P.info? f.type).map fun i => (f.offset, i.size))
  | _ => none
theorem built_struct {P : Program} {t : TypeId} {places : List (Nat × Nat)} {z : List Value} (hz : (P.info? t).map (fun i => i.zero) = some (some (.agg z.toArray))) (hp : placesOf P t = some places) (parts : List (Nat × Value)) (cells : Array Value) (h : Instr.fill (places.toArray[·]?) z.toArray parts = some cells) : P.built t parts = some cells := by
  unfold placesOf at hp
  unfold Program.built
  cases hi : P.info? t with
  | none => rw [hi] at hz; cases hz
  | some it =>
    rw [hi] at hz
    have hz' : it.zero = some (.agg z.toArray) := by simpa using hz
    cases hu : P.underlying t with
    | none => rw [hu] at hp; cases hp
    | some d =>
      cases d <;> rw [hu] at hp <;> try (cases hp; done)
      simp only [hz', hp]
      exact h
theorem fill_two {pl : Nat → Option (Nat × Nat)} {z l1 l2 : List Value} {i1 i2 o1 o2 : Nat} (h1 : pl i1 = some (o1, l1.length)) (h2 : pl i2 = some (o2, l2.length)) (f1 : o1 + l1.length ≤ z.length) (f2 : o2 + l2.length ≤ z.length) :
    Instr.fill pl z.toArray [(i1, .agg l1.toArray), (i2, .agg l2.toArray)] = some (splice (splice z o1 l1) o2 l2).toArray := by
  have hs : (splice z o1 l1).length = z.length := by simp [splice]; omega
  have e1 := fold_splice o1 l1 z f1
  have e2 := fold_splice o2 l2 (splice z o1 l1) (by rw [hs]; exact f2)
  have n1 : ¬ ((decide (l1.length ≠ l1.length) || decide (o1 + l1.length > z.length)) = true) := by simp; omega
  have n2 : ¬ ((decide (l2.length ≠ l2.length) || decide (o2 + l2.length > z.length)) = true) := by simp; omega
  simp only [Instr.fill, h1, h2, Value.cells, List.size_toArray]
  rw [if_neg n1, e1]
  simp only [List.size_toArray, hs]
  rw [if_neg n2, e2]
theorem build_pktHB (hd body : List UInt8) (hh : hd.length = 320) (hb : body.length = 256) (w : World) : Sem.run Tryz.prog (Instr.build 34 #[(4, .agg (cellsB hd).toArray), (5, .agg (cellsB body).toArray)]) w = .ok (.agg (pktC ⟨0, 0, Z16, Z16, hd, body⟩).toArray) w := by
  have hp : placesOf Tryz.prog 34 = some [(0, 1), (1, 1), (2, 16), (18, 16), (34, 320), (354, 256)] := by kernel_rfl
  have hok : ({ pkt0 with head := hd } : Pkt).ok := ⟨pkt0_ok.who, pkt0_ok.epoch, pkt0_ok.nonce, pkt0_ok.mac, hh, pkt0_ok.body⟩
  have hx : splice (splice (pktC pkt0) 34 (cellsB hd)) 354 (cellsB body) = pktC ⟨0, 0, Z16, Z16, hd, body⟩ := by rw [pktC_shead pkt0_ok hd hh, pktC_sbody hok body hb]; rfl
  have h1 : (cellsB hd).length = 320 := cl hh
  have h2 : (cellsB body).length = 256 := cl hb
  rw [← hx]
  refine run_build w _ _ _ (built_struct zeroP hp _ _ (fill_two (i1 := 4) (i2 := 5) (by rw [h1]; rfl) (by rw [h2]; rfl) (by rw [h1, pktC_length pkt0_ok]; decide) (by rw [h2, pktC_length pkt0_ok]; decide)))
theorem build_slotLB (box : Nat) (w : World) : Sem.run Tryz.prog (Instr.build 51 #[(0, .bool true), (2, .int .u16 (box : Int))]) w = .ok (.agg (slotC { slot0 with last := true, box := box }).toArray) w := run_build w _ _ _ (by kernel_rfl)
theorem build_slotH (addr who epoch : Nat) (nonce mac : List UInt8) (hn : nonce.length = 16) (hm : mac.length = 16) (w : World) : Sem.run Tryz.prog (Instr.build 51 #[(1, .int .u16 (addr : Int)), (3, .int .u16 (who : Int)), (4, .int .u32 (epoch : Int)), (5, .agg (cellsB nonce).toArray), (6, .agg (cellsB mac).toArray)]) w = .ok (.agg (slotC ⟨false, addr, 0, who, epoch, nonce, mac, 0, 0, 0⟩).toArray) w :=
  match nonce, hn, mac, hm with
  | [_, _, _, _, _, _, _, _, _, _, _, _, _, _, _, _], _, [_, _, _, _, _, _, _, _, _, _, _, _, _, _, _, _], _ => run_build w _ _ _ (by kernel_rfl)
end Go.Proofs.YtoiiiflnnhkjbaaGreatDoor
