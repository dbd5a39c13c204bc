/-
  Whole slots, packets and arrays of bytes: made, loaded, stored (whole or into the middle), compared.
-/
import Derived.Test.YtedodbejbkdplaaSlM
import Derived.Deep.MidRow
namespace Go.Proofs.Ytedodbejbkdplaa
set_option linter.unusedVariables false
set_option linter.unusedSimpArgs false
open Go.RowKit

theorem aggS : Agg Try.prog 32 40 := Agg.of (by kernel_rfl) (by kernel_rfl)
theorem aggP : Agg Try.prog 50 610 := Agg.of (by kernel_rfl) (by kernel_rfl)
theorem aggN : Agg Try.prog 28 16 := Agg.of (by kernel_rfl) (by kernel_rfl)
theorem aggM : Agg Try.prog 29 16 := Agg.of (by kernel_rfl) (by kernel_rfl)
theorem agg16 : Agg Try.prog 27 16 := Agg.of (by kernel_rfl) (by kernel_rfl)
theorem agg320 : Agg Try.prog 47 320 := Agg.of (by kernel_rfl) (by kernel_rfl)
theorem agg256 : Agg Try.prog 48 256 := Agg.of (by kernel_rfl) (by kernel_rfl)
theorem zeroS : (Try.prog.info? 32).map (fun i => i.zero) = some (some (.agg (slotC slot0).toArray)) := by kernel_rfl
theorem zeroP : (Try.prog.info? 50).map (fun i => i.zero) = some (some (.agg (pktC pkt0).toArray)) := by kernel_rfl
theorem zeroN : (Try.prog.info? 28).map (fun i => i.zero) = some (some (.agg (cellsB Z16).toArray)) := by kernel_rfl
theorem zeroM : (Try.prog.info? 29).map (fun i => i.zero) = some (some (.agg (cellsB Z16).toArray)) := by kernel_rfl
theorem zero16 : (Try.prog.info? 27).map (fun i => i.zero) = some (some (.agg (cellsB Z16).toArray)) := by kernel_rfl
theorem zero64 : (Try.prog.info? 33).map (fun i => i.zero) = some (some (.agg (cellsB (zeros 64)).toArray)) := by kernel_rfl
theorem zeroW : (Try.prog.info? 78).map (fun i => i.zero) = some (some (.agg [Value.slice none 0 0].toArray)) := by kernel_rfl
theorem slot0_len : (slotC slot0).toArray.size = 40 := rfl
theorem pkt0_len : (pktC pkt0).toArray.size = 610 := by rw [List.size_toArray, pktC_length pkt0_ok]
theorem Z16_len : (cellsB Z16).toArray.size = 16 := rfl
theorem z64_len : (cellsB (zeros 64)).toArray.size = 64 := by rw [List.size_toArray, cellsB_length, zeros_length]
theorem underN : Try.prog.underlying 28 = some (.array 16 5) := by kernel_rfl
theorem underM : Try.prog.underlying 29 = some (.array 16 5) := by kernel_rfl
theorem under16a : Try.prog.underlying 27 = some (.array 16 5) := by kernel_rfl
theorem under320 : Try.prog.underlying 47 = some (.array 320 5) := by kernel_rfl
theorem under256 : Try.prog.underlying 48 = some (.array 256 5) := by kernel_rfl

/-- A value put into a variable of its own. -/
theorem wpl_boxa {P : Program} {ops : Array Oper} {rest : List Oper} {op : Oper} {a : Act} {w : World} {Q : Exit → Act → World → Prop} (hgd : op.guard = none) (t : TypeId) (x : Operand) (ho : op.op = .box t x)
    (cs : List Value) (hx : a.eval x = .agg cs.toArray)
    (h : ∀ g w', Blk w' g t cs.toArray → w.heap.size ≤ g → Frm (fun _ => False) w w' → wpList P ops Q rest (a.put op.dst (.pointer (some ⟨g, 0, none⟩))) w') : wpList P ops Q (op :: rest) a w := by
  refine wpList_plain hgd fun K hK => ?_
  unfold Oper.wp execOp
  simp [ho, hx, Instr.box, newVar, newRow, Value.cells, Oper.upon, Result.andThen]
  exact hK _ _ (h _ _ (Blk.new _ _ _) (Nat.le_refl _) (Frm.alloc _ _ _))
theorem splice_set {α : Type} (cs : List α) (o : Nat) (v : α) (r : List α) (h : o < cs.length) : splice (cs.set o v) (o + 1) r = splice cs o (v :: r) := by
  unfold splice
  rw [List.take_add_one, List.getElem?_set_self h, List.take_set_of_le (Nat.le_refl _), List.drop_set_of_lt (by omega), List.length_cons, show o + 1 + r.length = o + (r.length + 1) by omega]
  simp
theorem Blk.setL {w : World} {g : Nat} {t : TypeId} {cs : List Value} (h : Blk w g t cs.toArray) (i : Nat) (v : Value) : Blk (w.setCell ⟨g, i, none⟩ v) g t (cs.set i v).toArray := by
  have := h.set i v
  simpa using this
theorem blk_setCellsL {g : Nat} {t : TypeId} : ∀ (vs : List Value) (o : Nat) (w : World) (cs : List Value), Blk w g t cs.toArray → o + vs.length ≤ cs.length → Blk (w.setCells g o vs) g t (splice cs o vs).toArray ∧ Frm (fun k => k = g) w (w.setCells g o vs)
  | [], o, w, cs, h, _ => ⟨by simpa [splice, World.setCells] using h, Frm.refl _ _⟩
  | v :: r, o, w, cs, h, hl => by
    rw [List.length_cons] at hl
    obtain ⟨h1, h3⟩ := blk_setCellsL r (o + 1) (w.setCell ⟨g, o, none⟩ v) _ (h.setL o v) (by rw [List.length_set]; omega)
    rw [splice_set cs o v r (by omega)] at h1
    exact ⟨h1, (Frm.setCell w ⟨g, o, none⟩ v (fun k => k = g) rfl).trans h3 (fun i _ hi => hi)⟩
/-- Cells into the middle of a block. -/
theorem wpl_storem {P : Program} {ty : TypeId} {n : Nat} (hA : Agg P ty n) {ops : Array Oper} {rest : List Oper} {op : Oper} {a : Act} {w : World} {Q : Exit → Act → World → Prop} (hgd : op.guard = none) (x y : Operand) (ho : op.op = .store ty x y)
    (g off : Nat) (vs cs cs' : List Value) (hx : a.eval x = .pointer (some ⟨g, off, none⟩)) (hy : a.eval y = .agg vs.toArray) (t : TypeId) (hb : Blk w g t cs.toArray) (hn : vs.length = n) (hfit : off + n ≤ cs.length) (hc : splice cs off vs = cs') (h1 : ∀ v ∈ vs, v.oneCell' = true)
    (h : ∀ w', Blk w' g t cs'.toArray → Frm (fun k => k = g) w w' → wpList P ops Q rest (a.put op.dst undef) w') : wpList P ops Q (op :: rest) a w := by
  refine wpList_store_mid hgd _ x y ho g off vs.toArray hx hy (fun q hq => ⟨?_, hb.frozen _⟩) ?_ (all_oneCell_toArray h1) ?_
  · have hq4 : q < n := by rw [← hn]; simpa using hq
    rw [hb.cell, Array.getElem?_eq_getElem (by rw [List.size_toArray]; omega)]; rfl
  · rw [hA.2, ← hn]; simp
  · obtain ⟨h2, h3⟩ := blk_setCellsL vs off w cs hb (by omega)
    rw [hc] at h2
    exact h _ h2 h3
/-- An operation that tells a value, guarded or not. -/
theorem wpl_held {P : Program} {ops : Array Oper} {rest : List Oper} {op : Oper} {a : Act} {w : World} {Q : Exit → Act → World → Prop} (v : Value) (hv : (execOp a.eval op).run P w = .ok (.value v) w) (hw : Region.wanted op (yielded ops a.tmps) = true)
    (h : wpList P ops Q rest (a.put op.dst v) w) : wpList P ops Q (op :: rest) a w := by
  refine wpList_step fun K hK => ?_
  rw [if_pos hw]
  unfold Oper.wp
  rw [hv]
  exact hK _ _ h
theorem held_loada {P : Program} {ty : TypeId} {n : Nat} (hA : Agg P ty n) {o : Oper} {a : Act} {w : World} (x : Operand) (ho : o.op = .load ty x) (g off : Nat) (hx : a.eval x = .pointer (some ⟨g, off, none⟩)) (t : TypeId) (cs xs : List Value) (hb : Blk w g t cs.toArray) (hxs : (cs.drop off).take n = xs) (hn : off + n ≤ cs.length) :
    (execOp a.eval o).run P w = .ok (.value (.agg xs.toArray)) w := by
  unfold execOp
  simp only [ho, hx, Instr.loadAt, Instr.sureAddr, Sem.run_bind, Sem.run_pure, Result.andThen_ok, run_load_agg hA w g off t cs xs hb hxs hn]
theorem held_build {P : Program} {o : Oper} {a : Act} {w : World} (t : TypeId) (parts : Array (Nat × Operand)) (ho : o.op = .build t parts) (vs : List (Nat × Value)) (cs : List Value)
    (hr : (Instr.build t vs.toArray).run P w = .ok (.agg cs.toArray) w) (hv : (parts.toList.map fun (i, x) => (i, a.eval x)) = vs) : (execOp a.eval o).run P w = .ok (.value (.agg cs.toArray)) w := by
  have e : (parts.map fun (i, x) => (i, a.eval x)) = vs.toArray := by
    subst hv
    apply Array.ext'
    simp
  unfold execOp
  simp only [ho, e, hr, Sem.run_bind, Result.andThen_ok, Sem.run_pure]
theorem held_eql {P : Program} {o : Oper} {a : Act} {w : World} (t u : TypeId) (x y : Operand) (ho : o.op = .binOp .eql t x y u) (xs ys : List Value) (hx : a.eval x = .agg xs.toArray) (hy : a.eval y = .agg ys.toArray) (b : Bool)
    (hb : (Op.equalIn 10000 t (.agg xs.toArray) (.agg ys.toArray)).run P w = .ok b w) (hg : P.eqGuardType P.depth t = false) : (execOp a.eval o).run P w = .ok (.value (.bool b)) w := by
  unfold execOp
  simp only [ho, hx, hy, Sem.run_bind, run_eqGuard_agg w _ t x y _ _ hg, run_eql_struct, hb, Result.andThen_ok, Sem.run_pure]
theorem held_neq {P : Program} {o : Oper} {a : Act} {w : World} (t u : TypeId) (x y : Operand) (ho : o.op = .binOp .neq t x y u) (xs ys : List Value) (hx : a.eval x = .agg xs.toArray) (hy : a.eval y = .agg ys.toArray) (b : Bool)
    (hb : (Op.equalIn 10000 t (.agg xs.toArray) (.agg ys.toArray)).run P w = .ok b w) (hg : P.eqGuardType P.depth t = false) : (execOp a.eval o).run P w = .ok (.value (.bool (!b))) w := by
  unfold execOp
  simp only [ho, hx, hy, Sem.run_bind, run_eqGuard_agg w _ t x y _ _ hg, run_neq_struct, hb, Result.andThen_ok, Sem.run_pure]

theorem part_one {P : Program} {t : TypeId} {d : TypeDesc} (hu : P.underlying t = some d) (hd : isAggD d = false) (cs : List Value) (off : Nat) (v : Value) (hv : cs[off]? = some v) (w : World) : (part t cs.toArray off).run P w = .ok v w := by
  have hagg : (isAgg t).run P w = .ok false w := by
    unfold isAgg
    rw [Sem.run_bind, run_underlying hu w]
    cases d <;> simp_all [isAggD]
  simp [part, Sem.run_bind, hagg, hv]
theorem part_agg {P : Program} {t : TypeId} {n : Nat} (hA : Agg P t n) (cs xs : List Value) (off : Nat) (hx : (cs.drop off).take n = xs) (w : World) : (part t cs.toArray off).run P w = .ok (.agg xs.toArray) w := by
  obtain ⟨⟨d, hu, hd⟩, hi⟩ := hA
  have hagg : (isAgg t).run P w = .ok true w := by
    unfold isAgg
    rw [Sem.run_bind, run_underlying hu w]
    cases d <;> simp_all [isAggD]
  cases hq : P.info? t with
  | none => simp [hq] at hi
  | some i =>
    have hs : i.size = n := by simpa [hq] using hi
    have e : cs.toArray.extract off (off + n) = xs.toArray := by
      subst hx
      simp [List.extract_eq_take_drop]
    simp only [part, Sem.run_bind, hagg, Result.andThen_ok, if_true, sizeOf, typeInfo]
    simp [hq, hs, ← e]
theorem size8w (w : World) : (sizeOf 5).run Try.prog w = .ok 1 w := by
  have hi := size8
  cases hq : Try.prog.info? 5 with
  | none => simp [hq] at hi
  | some i =>
    have hs : i.size = 1 := by simpa [hq] using hi
    simp [sizeOf, typeInfo, hq, hs]
/-- Arrays of bytes compared. -/
theorem eq_bytes (d : Nat) {t : TypeId} {n : Nat} (hu : Try.prog.underlying t = some (.array n 5)) (xs ys : List UInt8) (hx : xs.length = n) (hy : ys.length = n) (w : World) : (Op.equalIn (d + 2) t (.agg (cellsB xs).toArray) (.agg (cellsB ys).toArray)).run Try.prog w = .ok (xs == ys) w :=
  run_equalIn_bytes w d t 5 n hu under5 size8w xs ys hx hy
def nateq (a b : Nat) : Bool := (a : Int) == (b : Int)
theorem nateq_iff {a b : Nat} : nateq a b = true ↔ a = b := by simp only [nateq, beq_iff_eq]; omega
def slotEq (x y : Slot) : Bool := (x.last == y.last) && (nateq x.next y.next && (nateq x.box y.box && (nateq x.who y.who && (nateq x.epoch y.epoch && ((x.nonce == y.nonce) && ((x.mac == y.mac) && (nateq x.lo y.lo && (nateq x.hi y.hi && nateq x.delay y.delay))))))))
theorem slotEq_iff {x y : Slot} : slotEq x y = true ↔ x = y := by
  constructor
  · intro h
    simp only [slotEq, Bool.and_eq_true, nateq_iff, beq_iff_eq] at h
    obtain ⟨h0, h1, h2, h3, h4, h5, h6, h7, h8, h9⟩ := h
    exact Slot.ext' h0 h1 h2 h3 h4 h5 h6 h7 h8 h9
  · rintro rfl
    simp [slotEq, nateq_iff, nateq]
theorem slotEq_false {x y : Slot} : slotEq x y = false ↔ x ≠ y := by
  rw [← Bool.not_eq_true, slotEq_iff]
def pktEq (x y : Pkt) : Bool := nateq x.who y.who && (nateq x.epoch y.epoch && ((x.nonce == y.nonce) && ((x.mac == y.mac) && ((x.head == y.head) && (x.body == y.body)))))
theorem pktEq_iff {x y : Pkt} : pktEq x y = true ↔ x = y := by
  constructor
  · intro h
    simp only [pktEq, Bool.and_eq_true, nateq_iff, beq_iff_eq] at h
    obtain ⟨h3, h4, h5, h6, h7, h8⟩ := h
    exact Pkt.ext' h3 h4 h5 h6 h7 h8
  · rintro rfl
    simp [pktEq, nateq_iff, nateq]

/-- One field compared, then the others. -/
theorem eqF_one {P : Program} {d : Nat} {xs ys : List Value} {f : Field} {fs : List Field} (hn : f.name ≠ "_") {u v : Value} {b c : Bool} (w : World)
    (h1 : (part f.type xs.toArray f.offset).run P w = .ok u w) (h2 : (part f.type ys.toArray f.offset).run P w = .ok v w) (h3 : (Op.equalIn d f.type u v).run P w = .ok b w)
    (h4 : (Op.eqFields d xs.toArray ys.toArray fs).run P w = .ok c w) : (Op.eqFields d xs.toArray ys.toArray (f :: fs)).run P w = .ok (b && c) w := by
  simp only [Op.eqFields, if_pos hn, Sem.run_bind, h1, h2, h3, Result.andThen_ok]
  cases b
  · simp
  · simp [h4]
theorem eqF_nil {P : Program} {d : Nat} {xs ys : Array Value} (w : World) : (Op.eqFields d xs ys []).run P w = .ok true w := rfl
theorem eq_int (d : Nat) {t : TypeId} {k : IntKind} (h : Try.prog.underlying t = some (.int k)) (a b : Nat) (w : World) : (Op.equalIn (d + 1) t (.int k (a : Int)) (.int k (b : Int))).run Try.prog w = .ok (nateq a b) w :=
  run_equalIn_int w d t k k _ _ h
theorem eq_slot {x y : Slot} (hx : x.ok) (hy : y.ok) (w : World) : (Op.equalIn 10000 32 (.agg (slotC x).toArray) (.agg (slotC y).toArray)).run Try.prog w = .ok (slotEq x y) w := by
  have hu := Try.underlying32
  rw [run_equalIn_agg w 9999 32 _ _ (by simp only [Program.fieldsOf, hu]) Try.stoodInHeld32]
  simp only [Program.fieldsOf, hu]
  have e : slotEq x y = ((x.last == y.last) && (nateq x.next y.next && (nateq x.box y.box && (nateq x.who y.who && (nateq x.epoch y.epoch && ((x.nonce == y.nonce) && ((x.mac == y.mac) && (nateq x.lo y.lo && (nateq x.hi y.hi && (nateq x.delay y.delay && true)))))))))) := by
    rw [Bool.and_true]; rfl
  rw [e]
  refine eqF_one (by decide) w (part_one Try.underlying4 rfl _ _ (.bool x.last) rfl w) (part_one Try.underlying4 rfl _ _ (.bool y.last) rfl w) (run_equalIn_bool' w _ _ _ _ Try.underlying4) ?_
  refine eqF_one (by decide) w (part_one Try.underlying23 rfl _ _ (.int .u16 (x.next : Int)) rfl w) (part_one Try.underlying23 rfl _ _ (.int .u16 (y.next : Int)) rfl w) (eq_int _ Try.underlying23 _ _ w) ?_
  refine eqF_one (by decide) w (part_one Try.underlying24 rfl _ _ (.int .u16 (x.box : Int)) rfl w) (part_one Try.underlying24 rfl _ _ (.int .u16 (y.box : Int)) rfl w) (eq_int _ Try.underlying24 _ _ w) ?_
  refine eqF_one (by decide) w (part_one Try.underlying25 rfl _ _ (.int .u16 (x.who : Int)) rfl w) (part_one Try.underlying25 rfl _ _ (.int .u16 (y.who : Int)) rfl w) (eq_int _ Try.underlying25 _ _ w) ?_
  refine eqF_one (by decide) w (part_one Try.underlying26 rfl _ _ (.int .u32 (x.epoch : Int)) rfl w) (part_one Try.underlying26 rfl _ _ (.int .u32 (y.epoch : Int)) rfl w) (eq_int _ Try.underlying26 _ _ w) ?_
  refine eqF_one (by decide) w (part_agg aggN _ _ _ (slotC_nonce hx.nonce) w) (part_agg aggN _ _ _ (slotC_nonce hy.nonce) w) (eq_bytes _ underN _ _ hx.nonce hy.nonce w) ?_
  refine eqF_one (by decide) w (part_agg aggM _ _ _ (slotC_mac hx.nonce hx.mac) w) (part_agg aggM _ _ _ (slotC_mac hy.nonce hy.mac) w) (eq_bytes _ underM _ _ hx.mac hy.mac w) ?_
  refine eqF_one (by decide) w (part_one Try.underlying30 rfl _ _ _ (slotC_lo hx.nonce hx.mac) w) (part_one Try.underlying30 rfl _ _ _ (slotC_lo hy.nonce hy.mac) w) (eq_int _ Try.underlying30 _ _ w) ?_
  refine eqF_one (by decide) w (part_one Try.underlying30 rfl _ _ _ (slotC_hi hx.nonce hx.mac) w) (part_one Try.underlying30 rfl _ _ _ (slotC_hi hy.nonce hy.mac) w) (eq_int _ Try.underlying30 _ _ w) ?_
  exact eqF_one (by decide) w (part_one Try.underlying26 rfl _ _ _ (slotC_delay hx.nonce hx.mac) w) (part_one Try.underlying26 rfl _ _ _ (slotC_delay hy.nonce hy.mac) w) (eq_int _ Try.underlying26 _ _ w) (eqF_nil w)
theorem eq_pkt {x y : Pkt} (hx : x.ok) (hy : y.ok) (w : World) : (Op.equalIn 10000 50 (.agg (pktC x).toArray) (.agg (pktC y).toArray)).run Try.prog w = .ok (pktEq x y) w := by
  have hu := Try.underlying50
  rw [run_equalIn_agg w 9999 50 _ _ (by simp only [Program.fieldsOf, hu]) Try.stoodInHeld50]
  simp only [Program.fieldsOf, hu]
  have e : pktEq x y = (nateq x.who y.who && (nateq x.epoch y.epoch && ((x.nonce == y.nonce) && ((x.mac == y.mac) && ((x.head == y.head) && ((x.body == y.body) && true)))))) := by
    rw [Bool.and_true]; rfl
  rw [e]
  refine eqF_one (by decide) w (part_one Try.underlying25 rfl _ _ (.int .u16 (x.who : Int)) rfl w) (part_one Try.underlying25 rfl _ _ (.int .u16 (y.who : Int)) rfl w) (eq_int _ Try.underlying25 _ _ w) ?_
  refine eqF_one (by decide) w (part_one Try.underlying26 rfl _ _ (.int .u32 (x.epoch : Int)) rfl w) (part_one Try.underlying26 rfl _ _ (.int .u32 (y.epoch : Int)) rfl w) (eq_int _ Try.underlying26 _ _ w) ?_
  refine eqF_one (by decide) w (part_agg aggN _ _ _ (pktC_nonce hx) w) (part_agg aggN _ _ _ (pktC_nonce hy) w) (eq_bytes _ underN _ _ hx.nonce hy.nonce w) ?_
  refine eqF_one (by decide) w (part_agg aggM _ _ _ (pktC_mac hx) w) (part_agg aggM _ _ _ (pktC_mac hy) w) (eq_bytes _ underM _ _ hx.mac hy.mac w) ?_
  refine eqF_one (by decide) w (part_agg agg320 _ _ _ (pktC_head hx) w) (part_agg agg320 _ _ _ (pktC_head hy) w) (eq_bytes _ under320 _ _ hx.head hy.head w) ?_
  exact eqF_one (by decide) w (part_agg agg256 _ _ _ (pktC_body hx) w) (part_agg agg256 _ _ _ (pktC_body hy) w) (eq_bytes _ under256 _ _ hx.body hy.body w) (eqF_nil w)

/-- The cells of a slot with one field written. -/
theorem set_splice {α : Type} (l : List α) (i : Nat) (v : α) (h : i < l.length) : l.set i v = splice l i [v] := by
  rw [← splice_set l i v [] h]
  simp [splice]
theorem set_mid (x y z : List Value) (u v : Value) (i : Nat) (h1 : x.length = i) : (x ++ (u :: z)).set i v = x ++ (v :: z) := by
  subst h1
  rw [List.set_append_right _ _ (Nat.le_refl _), Nat.sub_self]
  rfl
section
variable {s : Slot} (h1 : s.nonce.length = 16) (h2 : s.mac.length = 16)
include h1 h2
theorem slotC_slo (n : Nat) : (slotC s).set 37 (.int .u64 (n : Int)) = slotC { s with lo := n } := by
  have := set_mid ([.bool s.last, .int .u16 (s.next : Int), .int .u16 (s.box : Int), .int .u16 (s.who : Int), .int .u32 (s.epoch : Int)] ++ (cellsB s.nonce ++ cellsB s.mac)) [] [.int .u64 (s.hi : Int), .int .u32 (s.delay : Int)] (.int .u64 (s.lo : Int)) (.int .u64 (n : Int)) 37 (by simp [cellsB_length, h1, h2])
  simpa [slotC, List.append_assoc] using this
theorem slotC_shi (n : Nat) : (slotC s).set 38 (.int .u64 (n : Int)) = slotC { s with hi := n } := by
  have := set_mid ([.bool s.last, .int .u16 (s.next : Int), .int .u16 (s.box : Int), .int .u16 (s.who : Int), .int .u32 (s.epoch : Int)] ++ (cellsB s.nonce ++ (cellsB s.mac ++ [.int .u64 (s.lo : Int)]))) [] [.int .u32 (s.delay : Int)] (.int .u64 (s.hi : Int)) (.int .u64 (n : Int)) 38 (by simp [cellsB_length, h1, h2])
  simpa [slotC, List.append_assoc] using this
theorem slotC_sdelay (n : Nat) : (slotC s).set 39 (.int .u32 (n : Int)) = slotC { s with delay := n } := by
  have := set_mid ([.bool s.last, .int .u16 (s.next : Int), .int .u16 (s.box : Int), .int .u16 (s.who : Int), .int .u32 (s.epoch : Int)] ++ (cellsB s.nonce ++ (cellsB s.mac ++ [.int .u64 (s.lo : Int), .int .u64 (s.hi : Int)]))) [] [] (.int .u32 (s.delay : Int)) (.int .u32 (n : Int)) 39 (by simp [cellsB_length, h1, h2])
  simpa [slotC, List.append_assoc] using this
omit h2 in
theorem slotC_snonce (l : List UInt8) (hl : l.length = 16) : splice (slotC s) 5 (cellsB l) = slotC { s with nonce := l } :=
  splice_mid [.bool s.last, .int .u16 (s.next : Int), .int .u16 (s.box : Int), .int .u16 (s.who : Int), .int .u32 (s.epoch : Int)] (cellsB s.nonce) _ (cellsB l) 5 rfl (by rw [cellsB_length, cellsB_length, h1, hl])
theorem slotC_smac (l : List UInt8) (hl : l.length = 16) : splice (slotC s) 21 (cellsB l) = slotC { s with mac := l } := by
  have := splice_mid ([.bool s.last, .int .u16 (s.next : Int), .int .u16 (s.box : Int), .int .u16 (s.who : Int), .int .u32 (s.epoch : Int)] ++ cellsB s.nonce) (cellsB s.mac) [.int .u64 (s.lo : Int), .int .u64 (s.hi : Int), .int .u32 (s.delay : Int)] (cellsB l) 21 (by simp [cellsB_length, h1]) (by rw [cellsB_length, cellsB_length, h2, hl])
  simpa [slotC, List.append_assoc] using this
end
section
variable {p : Pkt} (h : p.ok)
include h
theorem pktC_snonce (l : List UInt8) (hl : l.length = 16) : splice (pktC p) 2 (cellsB l) = pktC { p with nonce := l } :=
  splice_mid [.int .u16 (p.who : Int), .int .u32 (p.epoch : Int)] (cellsB p.nonce) _ (cellsB l) 2 rfl (by rw [cellsB_length, cellsB_length, h.nonce, hl])
theorem pktC_smac (l : List UInt8) (hl : l.length = 16) : splice (pktC p) 18 (cellsB l) = pktC { p with mac := l } := by
  have := splice_mid ([.int .u16 (p.who : Int), .int .u32 (p.epoch : Int)] ++ cellsB p.nonce) (cellsB p.mac) (cellsB p.head ++ cellsB p.body) (cellsB l) 18 (by simp [cellsB_length, h.nonce]) (by rw [cellsB_length, cellsB_length, h.mac, hl])
  simpa [pktC, List.append_assoc] using this
theorem pktC_shead (l : List UInt8) (hl : l.length = 320) : splice (pktC p) 34 (cellsB l) = pktC { p with head := l } := by
  have := splice_mid ([.int .u16 (p.who : Int), .int .u32 (p.epoch : Int)] ++ (cellsB p.nonce ++ cellsB p.mac)) (cellsB p.head) (cellsB p.body) (cellsB l) 34 (by simp [cellsB_length, h.nonce, h.mac]) (by rw [cellsB_length, cellsB_length, h.head, hl])
  simpa [pktC, List.append_assoc] using this
theorem pktC_sbody (l : List UInt8) (hl : l.length = 256) : splice (pktC p) 354 (cellsB l) = pktC { p with body := l } := by
  have := splice_mid ([.int .u16 (p.who : Int), .int .u32 (p.epoch : Int)] ++ (cellsB p.nonce ++ (cellsB p.mac ++ cellsB p.head))) (cellsB p.body) [] (cellsB l) 354 (by simp [cellsB_length, h.nonce, h.mac, h.head]) (by rw [cellsB_length, cellsB_length, h.body, hl])
  simpa [pktC, List.append_assoc] using this
end
/-- An aggregate's slice, and the array behind a slice's pointer. -/
theorem slN (g off : Nat) (w : World) : Sem.run Try.prog (Instr.sliceAt 28 (.pointer (some ⟨g, off, none⟩)) none none none) w = .ok (.slice (some ⟨g, off, none⟩) 16 16) w := run_slice_arr0 (P := Try.prog) (t := 28) (e := 5) (N := 16) underN size8 g off (by omega) w
theorem slM (g off : Nat) (w : World) : Sem.run Try.prog (Instr.sliceAt 29 (.pointer (some ⟨g, off, none⟩)) none none none) w = .ok (.slice (some ⟨g, off, none⟩) 16 16) w := run_slice_arr0 (P := Try.prog) (t := 29) (e := 5) (N := 16) underM size8 g off (by omega) w
theorem sl64 (g off : Nat) (w : World) : Sem.run Try.prog (Instr.sliceAt 33 (.pointer (some ⟨g, off, none⟩)) none none none) w = .ok (.slice (some ⟨g, off, none⟩) 64 64) w := run_slice_arr0 (P := Try.prog) (t := 33) (e := 5) (N := 64) under64b size8 g off (by omega) w
theorem sl320 (g off : Nat) (w : World) : Sem.run Try.prog (Instr.sliceAt 47 (.pointer (some ⟨g, off, none⟩)) none none none) w = .ok (.slice (some ⟨g, off, none⟩) 320 320) w := run_slice_arr0 (P := Try.prog) (t := 47) (e := 5) (N := 320) under320 size8 g off (by omega) w
theorem sl256 (g off : Nat) (w : World) : Sem.run Try.prog (Instr.sliceAt 48 (.pointer (some ⟨g, off, none⟩)) none none none) w = .ok (.slice (some ⟨g, off, none⟩) 256 256) w := run_slice_arr0 (P := Try.prog) (t := 48) (e := 5) (N := 256) under256 size8 g off (by omega) w
theorem run_arr {t : TypeId} {N : Nat} (hu : Try.prog.underlying t = some (.array N 5)) (A : Option Addr) (n c : Nat) (h : N ≤ n) (w : World) : Sem.run Try.prog (Instr.arrayAt t (.slice A n c)) w = .ok (.pointer A) w := by
  have h' : ¬ n < N := by omega
  simp [Instr.arrayAt, run_underlying hu, h']
/-- A part of a block of cells that are bytes reads as these. -/
theorem Blk.mid {w : World} {g : Nat} {t : TypeId} {cs : List Value} (h : Blk w g t cs.toArray) (off n : Nat) (l : List UInt8) (hx : (cs.drop off).take n = cellsB l) (hl : l.length = n) : Rds w (some ⟨g, off, none⟩) n (cellsB l) := by
  refine ⟨by rw [cellsB_length, hl], fun _ => ⟨_, rfl, fun j u hu => ?_⟩⟩
  rw [addr_add, h.cell]
  rw [← hx, List.getElem?_take] at hu
  split at hu
  · rw [List.getElem?_drop] at hu
    simpa using hu
  · cases hu
end Go.Proofs.Ytedodbejbkdplaa
