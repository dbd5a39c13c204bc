/-
  Keys padded; rows compared.
-/
import Derived.Test.YtbicjcpdcopbhaaDoorHm1
namespace Go.Proofs.YtbicjcpdcopbhaaDoor
set_option linter.unusedVariables false
open Go.RowKit

/-- copy of any bytes (also of none) into a block that is known whole. -/
theorem wpl_copyR {ops : Array Oper} {rest : List Oper} {op : Oper} {a : Act} {w : World} {Q : Exit → Act → World → Prop} (hgd : op.guard = none) (d s : Operand)
    (ho : op.op = .call { callee := .builtin .copy, args := #[d, s], argTypes := #[24, 24] })
    (g off dLen dCap : Nat) (A : Option Addr) (sLen sCap m : Nat) (hd : a.eval d = .slice (some ⟨g, off, none⟩) dLen dCap) (hs : a.eval s = .slice A sLen sCap)
    (cur : List Value) (t : TypeId) (hg : Blk w g t cur.toArray) (x : List UInt8) (hr : Rds w A sLen (cellsB x)) (hn : m = Nat.min sLen dLen) (hfit : off + dLen ≤ cur.length)
    (h : ∀ w', Blk w' g t (splice cur off (cellsB (x.take m))).toArray → Frm (fun k => k = g) w w' → wpList Tryd.prog ops Q rest (a.put op.dst (.int .i64 (m : Int))) w') : wpList Tryd.prog ops Q (op :: rest) a w := by
  have hmd : m ≤ dLen := by rw [hn]; exact Nat.min_le_right _ _
  have hms : m ≤ sLen := by rw [hn]; exact Nat.min_le_left _ _
  have hxl : x.length = sLen := by have := hr.1; rwa [cellsB_length] at this
  have hcl : (cellsB (x.take m)).length = m := by rw [cellsB_length, List.length_take]; omega
  rcases A with _ | ad
  · have hz : sLen = 0 := by
      rcases Nat.eq_zero_or_pos sLen with h | h
      · exact h
      · obtain ⟨a, h, _⟩ := hr.2 h; cases h
    have hm0 : m = 0 := by omega
    subst hm0
    refine wpList_copy_nothing hgd d s _ _ ho 5 under24 size8 _ none dLen dCap sLen sCap hd hs (by omega) ?_
    refine h w ?_ (Frm.refl _ _)
    have : splice cur off (cellsB (x.take 0)) = cur := by simp [splice, cellsB]
    rw [this]
    exact hg
  · refine wpl_copy hgd d s ho g off dLen dCap ad sLen sCap m hd hs cur t hg (cellsB (x.take m)) hcl hn ?_ (by omega) (cellsB_one _) h
    intro j v hv
    have hj : j < m := by
      rw [← hcl]
      exact (List.getElem?_eq_some_iff.1 hv).1
    obtain ⟨a', ha', hc⟩ := hr.2 (by omega)
    injection ha' with ha'
    subst ha'
    refine hc j v ?_
    rw [← cellsB_take, List.getElem?_take, if_pos hj] at hv
    exact hv
end Go.Proofs.YtbicjcpdcopbhaaDoor
