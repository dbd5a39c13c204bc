/-
  Tools for the laws: records that came in, loaded; directories of one node.
-/
import Derived.Test.YtjicnfkodieaaaaDoorDFrame
import Derived.Test.YtjicnfkodieaaaaDoorDsSpan
namespace Go.Proofs.YtjicnfkodieaaaaDoor
set_option linter.unusedVariables false
set_option linter.unusedSimpArgs false
open Go.RowKit

theorem addr_add0 (a : Addr) : a.add 0 = a := by simp [Addr.add]
theorem take4 (a b c d : Value) : (([a, b, c, d] : List Value).drop 0).take 4 = [a, b, c, d] := rfl
theorem len4 (a b c d : Value) : 0 + 4 ≤ ([a, b, c, d] : List Value).length := Nat.le_refl _
/-- A record's block, its cells written out. -/
theorem blk_lit {w : World} {g : Nat} {r : Rec} (h : Blk w g 37 (recC r).toArray) : Blk w g 37 ([.int .u16 (r.a : Int), .int .u32 (r.f : Int), .int .u32 (r.t : Int), .int .u32 (r.l : Int)] : List Value).toArray := h
theorem add_q (a : Addr) (q : Nat) (h : 0 < q) : a.add q = ⟨a.block, a.off + q, none⟩ := by unfold Addr.add; rw [if_neg (by omega)]
/-- A record of a row that came in, loaded. -/
theorem wpl_loadr {ops : Array Oper} {rest : List Oper} {op : Oper} {a : Act} {w : World} {Q : Exit → Act → World → Prop} (hgd : op.guard = none) (x : Operand) (ho : op.op = .load 37 x)
    (ad : Addr) (hx : a.eval x = .pointer (some ad)) (r : Rec) (hc : ∀ q u, (recC r)[q]? = some u → w.cell? (ad.add q) = some u)
    (h : wpList Tryd.prog ops Q rest (a.put op.dst (recV r)) w) : wpList Tryd.prog ops Q (op :: rest) a w := by
  refine wpList_plain hgd fun _ hK => ?_
  obtain ⟨⟨d, hu, hd⟩, hi⟩ := aggR
  have h1 : (loadCells ad (recC r).length).run Tryd.prog w = .ok (recC r).toArray w := run_loadCells_list (P := Tryd.prog) w ad (recC r) (fun j v hv => hc j v hv)
  have h2 : (loadVar 37 ad).run Tryd.prog w = .ok (.agg (recC r).toArray) w := by
    cases hq : Tryd.prog.info? 37 with
    | none => simp [hq] at hi
    | some i =>
      have hs : i.size = 4 := by simpa [hq] using hi
      have hagg : (isAgg 37).run Tryd.prog w = .ok true w := by
        unfold isAgg
        rw [Sem.run_bind, run_underlying hu w]
        cases d <;> simp_all [isAggD]
      rw [recC_length] at h1
      simp [loadVar, Sem.run_bind, hagg, sizeOf, typeInfo, hq, hs, h1]
  unfold Oper.wp execOp
  simp only [ho, hx, Instr.loadAt, Instr.sureAddr, Sem.run_bind, Sem.run_pure, Result.andThen_ok, h2]
  exact hK _ _ h
/-- What a row of records says of its j-th one. -/
theorem RRow.at {w : World} {A : Option Addr} {n : Nat} {L : List Rec} (h : RRow w A n L) (hn : 0 < n) : ∃ a, A = some a ∧ ∀ w', Below w.heap.size w w' → ∀ j, j < n → ∀ q u, (recC (L.getD j default))[q]? = some u → w'.cell? ((a.add (j * 4)).add q) = some u := by
  obtain ⟨a, rfl, hc⟩ := h.2.2 hn
  refine ⟨a, rfl, fun w' f j hj q u hq => ?_⟩
  have h1 := hc j q u hj hq
  rw [f.cell (World.block_lt_of_cell? w _ h1)]
  exact h1
theorem RRow.in {w : World} {A : Option Addr} {n : Nat} {L : List Rec} (h : RRow w A n L) (j : Nat) (hj : j < n) : (L.getD j default).in32 := by
  refine h.2.1 _ ?_
  have hl := h.1
  rw [List.getD_eq_getElem?_getD, List.getElem?_eq_getElem (by omega)]
  exact List.getElem_mem _

/-- The directory that comes of records, one by one. -/
def foldL (L : List Rec) : List Rec := L.foldl addL []
theorem foldL_snoc (L : List Rec) (x : Rec) : foldL (L ++ [x]) = addL (foldL L) x := by simp [foldL]
theorem foldL_succ (L : List Rec) (k : Nat) (h : k < L.length) : foldL (L.take (k + 1)) = addL (foldL (L.take k)) (L.getD k default) := by rw [take_succ_rec L k h, foldL_snoc]
theorem addL_length (D : List Rec) (x : Rec) : (addL D x).length ≤ D.length + 1 := by
  unfold addL
  split
  · rw [insL_length]; omega
  · omega
theorem foldL_length : ∀ (L : List Rec) (k : Nat), (foldL (L.take k)).length ≤ k
  | L, 0 => by simp [foldL]
  | L, k + 1 => by
    by_cases h : k < L.length
    · rw [foldL_succ L k h]
      have := addL_length (foldL (L.take k)) (L.getD k default)
      have := foldL_length L k
      omega
    · rw [List.take_of_length_le (by omega)]
      have := foldL_length L k
      rw [List.take_of_length_le (by omega)] at this
      omega

/-! One node's records. -/
def ofNode (a : Nat) (D : List Rec) : List Rec := D.filter fun x => decide (x.a = a)
theorem within_node (D : List Rec) (a i j : Nat) : withinL (ofNode a D) a i j = withinL D a i j := by
  unfold withinL ofNode
  rw [List.filter_filter]
  apply List.filter_congr
  intro x _
  cases decide (x.a = a) <;> simp
theorem node_length (a : Nat) (D : List Rec) : (ofNode a D).length ≤ D.length := List.length_filter_le _ _
theorem why_node {D : List Rec} {x : Rec} (h : D.length < 64) : whyL (ofNode x.a D) x = whyL D x := by
  have h1 := node_length x.a D
  unfold whyL
  rw [within_node]
  by_cases h0 : 16 ≤ x.a ∨ x.t < x.f
  · rw [if_pos h0, if_pos h0]
  · rw [if_neg h0, if_neg h0]
    by_cases h2 : 0 < (withinL D x.a x.f x.t).length
    · rw [if_pos h2, if_pos h2]
    · rw [if_neg h2, if_neg h2, if_neg (by omega), if_neg (by omega)]
theorem node_ok {D : List Rec} (a : Nat) (h : DirOk D) : DirOk (ofNode a D) := ⟨h.apart.sublist List.filter_sublist, fun r hr => h.ok r (List.mem_filter.1 hr).1, Nat.le_trans (node_length a D) h.len⟩
theorem node_add {D : List Rec} {x : Rec} (h : DirOk D) (hx : x.in32) (hl : D.length < 64) (a : Nat) : ofNode a (addL D x) = if x.a = a then addL (ofNode a D) x else ofNode a D := by
  by_cases h0 : whyL D x = 0
  · have e1 : addL D x = insL x D := by unfold addL; rw [if_pos h0]
    have k1 := node_ok a (h.add hx)
    by_cases ha : x.a = a
    · subst ha
      rw [if_pos rfl]
      have e2 : addL (ofNode x.a D) x = insL x (ofNode x.a D) := by unfold addL; rw [if_pos (by rw [why_node hl]; exact h0)]
      have k2 := (node_ok x.a h).add hx
      rw [e1] at k1 ⊢
      rw [e2] at k2 ⊢
      refine sorted_eq k1.sorted k2.sorted ?_
      have p1 := (insL_perm x D).filter (fun y => decide (y.a = x.a))
      rw [List.filter_cons_of_pos (by simp)] at p1
      exact p1.trans (insL_perm x (ofNode x.a D)).symm
    · rw [if_neg ha]
      rw [e1] at k1 ⊢
      refine sorted_eq k1.sorted (node_ok a h).sorted ?_
      have p1 := (insL_perm x D).filter (fun y => decide (y.a = a))
      rw [List.filter_cons_of_neg (by simp [ha])] at p1
      exact p1
  · have e1 : addL D x = D := by unfold addL; rw [if_neg h0]
    rw [e1]
    by_cases ha : x.a = a
    · subst ha
      rw [if_pos rfl]
      unfold addL
      rw [if_neg (by rw [why_node hl]; exact h0)]
    · rw [if_neg ha]
theorem found_node (D : List Rec) (a i : Nat) : foundR (ofNode a D) a i = foundR D a i ∧ foundB (ofNode a D) a i = foundB D a i := by
  unfold foundR foundB findL
  rw [within_node]
  exact ⟨rfl, rfl⟩
end Go.Proofs.YtjicnfkodieaaaaDoor
