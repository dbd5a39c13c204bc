/-
  Bytes of a packet turned; rows made of hops.
-/
import Derived.Test.YtoiiiflnnhkjbaaGreatDoorOnS
import Derived.Test.YtoiiiflnnhkjbaaGreatDoorOnE
import Derived.Great.BuildSlice
namespace Go.Proofs.YtoiiiflnnhkjbaaGreatDoor
set_option linter.unusedVariables false
set_option linter.unusedSimpArgs false
open Go.RowKit

theorem set_bytes (a c : List Value) (l : List UInt8) (off j : Nat) (b : UInt8) (ha : a.length = off) (hj : j < l.length) : (a ++ (cellsB l ++ c)).set (off + j) (.int .u8 (b.toNat : Int)) = a ++ (cellsB (l.set j b) ++ c) := by
  subst ha
  rw [List.set_append_right _ _ (by omega), Nat.add_sub_cancel_left, List.set_append_left _ _ (by rw [cellsB_length]; exact hj), cellsB_set]
theorem get_bytes (a c : List Value) (l : List UInt8) (off j : Nat) (ha : a.length = off) (hj : j < l.length) : (a ++ (cellsB l ++ c))[off + j]? = some (.int .u8 ((l.getD j 0).toNat : Int)) := by
  subst ha
  rw [List.getElem?_append_right (by omega), Nat.add_sub_cancel_left, List.getElem?_append_left (by rw [cellsB_length]; exact hj), getD_byte l j hj]
theorem pktC_eqM (p : Pkt) : pktC p = ([.int .u16 (p.who : Int), .int .u32 (p.epoch : Int)] ++ cellsB p.nonce) ++ (cellsB p.mac ++ (cellsB p.head ++ cellsB p.body)) := by simp [pktC]
section
variable {p : Pkt} (h : p.ok) (j : Nat) (b : UInt8)
include h
theorem pktC_setM (hj : j < 16) : (pktC p).set (18 + j) (.int .u8 (b.toNat : Int)) = pktC { p with mac := p.mac.set j b } := by
  rw [pktC_eqM p, set_bytes _ _ _ 18 j b (by simp [cellsB_length, h.nonce]) (by rw [h.mac]; exact hj)]; simp [pktC]
theorem pktC_getM (hj : j < 16) : (pktC p)[18 + j]? = some (.int .u8 ((p.mac.getD j 0).toNat : Int)) := by
  rw [pktC_eqM p]; exact get_bytes _ _ _ 18 j (by simp [cellsB_length, h.nonce]) (by rw [h.mac]; exact hj)
end
theorem Pkt.ok.setM {p : Pkt} (h : p.ok) (j : Nat) (b : UInt8) : ({ p with mac := p.mac.set j b } : Pkt).ok := ⟨h.who, h.epoch, h.nonce, (List.length_set).trans h.mac, h.head, h.body⟩
theorem infoH : (Tryz.prog.info? 63).map (fun i => (i.zero, i.size)) = some (some (.agg (hopC hop0).toArray), 54) := by kernel_rfl
theorem underHs : Tryz.prog.underlying 22 = some (.slice 63) := Tryz.underlying22
/-- A row made of two hops. -/
theorem run_made2 (w : World) (a b : HopL) (ha : a.ok) (hb : b.ok) : ∃ w', (Instr.buildSlice 22 2 #[(0, .agg (hopC a).toArray), (1, .agg (hopC b).toArray)]).run Tryz.prog w = .ok (.slice (some ⟨w.heap.size, 0, none⟩) 2 2) w' ∧ HRow w' (some ⟨w.heap.size, 0, none⟩) 2 [a, b] ∧ Frm (fun _ => False) w w' := by
  have hi0 := infoH
  cases hq : Tryz.prog.info? 63 with
  | none => rw [hq] at hi0; cases hi0
  | some i =>
    rw [hq] at hi0
    simp at hi0
    obtain ⟨hz, hs⟩ := hi0
    have la := hopC_length ha
    have lb := hopC_length hb
    obtain ⟨r, hr, hsz, hk⟩ := Go.Great.fill_dense (s := 54) (by decide) [.agg (hopC a).toArray, .agg (hopC b).toArray] 0 ((Array.range (2 * 54)).map ((Value.agg (hopC hop0).toArray).cells[· % (Value.agg (hopC hop0).toArray).cells.size]!)) (by
      intro v hv
      simp at hv
      rcases hv with rfl | rfl
      · simp [Value.cells, la]
      · simp [Value.cells, lb]) (by simp)
    have hrun : (Instr.buildSlice 22 2 #[(0, .agg (hopC a).toArray), (1, .agg (hopC b).toArray)]).run Tryz.prog w = .ok (.slice (some ⟨w.heap.size, 0, none⟩) 2 2) (w.alloc (.cells r 63)) := by
      refine run_buildSlice w _ _ 2 _ r i _ underHs hq hz (by rw [hs]; decide) (by rw [hs]; decide) ?_
      rw [hs]
      exact hr
    refine ⟨_, hrun, ⟨rfl, fun h hh => ?_, fun _ => ⟨_, rfl, fun k hkk q v hv => ?_⟩⟩, Frm.alloc _ _ _⟩
    · simp at hh
      rcases hh with rfl | rfl
      · exact ha
      · exact hb
    · rw [addr_add, Nat.zero_add, (Blk.new w 63 r).cell, hk]
      have hq54 : q < 54 := by
        have := (List.getElem?_eq_some_iff.1 hv).1
        rcases k with _ | _ | k
        · have e : hopC ([a, b].getD 0 hop0) = hopC a := rfl
          rw [e, la] at this; exact this
        · have e : hopC ([a, b].getD 1 hop0) = hopC b := rfl
          rw [e, lb] at this; exact this
        · omega
      rw [if_pos (by simp; omega)]
      have e1 : (k * 54 + q) / 54 = k := by omega
      have e2 : (k * 54 + q) % 54 = q := by omega
      rw [e1, e2]
      rcases k with _ | _ | k
      · show (hopC a).toArray[q]? = some v
        rw [List.getElem?_toArray]; exact hv
      · show (hopC b).toArray[q]? = some v
        rw [List.getElem?_toArray]; exact hv
      · omega
theorem wpl_made2 {ops : Array Oper} {rest : List Oper} {op : Oper} {a : Act} {w : World} {Q : Exit → Act → World → Prop} (hgd : op.guard = none) (x y : Operand) (ho : op.op = .buildSlice 22 2 #[(0, x), (1, y)]) (h1 h2 : HopL) (k1 : h1.ok) (k2 : h2.ok) (hx : a.eval x = .agg (hopC h1).toArray) (hy : a.eval y = .agg (hopC h2).toArray)
    (h : ∀ g w', HRow w' (some ⟨g, 0, none⟩) 2 [h1, h2] → Frm (fun _ => False) w w' → wpList Tryz.prog ops Q rest (a.put op.dst (.slice (some ⟨g, 0, none⟩) 2 2)) w') : wpList Tryz.prog ops Q (op :: rest) a w := by
  obtain ⟨w', hr, h3, h4⟩ := run_made2 w h1 h2 k1 k2
  refine wpList_plain hgd fun K hK => ?_
  unfold Oper.wp execOp
  simp only [ho, List.map_toArray, List.map_cons, List.map_nil, hx, hy, Sem.run_bind, hr, Result.andThen_ok, Sem.run_pure]
  exact hK _ _ (h _ _ h3 h4)
theorem peelE_four (key : List UInt8) (p : Pkt) : peelE key p = 4 ↔ macO key p ≠ p.mac := by
  unfold peelE goodP errD
  by_cases h : macO key p = p.mac
  · simp only [h, beq_self_eq_true, if_true]
    constructor
    · intro h1; split at h1 <;> omega
    · intro h1; exact absurd rfl h1
  · simp [h]
theorem build_first (hops : List HopL) (box : Nat) (body : List UInt8) (hr : rightH hops = true) : buildP hops box body = pktAt hops box body 0 := by
  unfold buildP pktAt
  rw [if_pos hr, List.drop_zero]
end Go.Proofs.YtoiiiflnnhkjbaaGreatDoor
