/-
  Cuts, loads and texts, as they stand in regions.
-/
import Derived.Test.YtbicjcpdcopbhaaDoorOwn
import Derived.Test.YtbicjcpdcopbhaaDoorHm7
namespace Go.Proofs.YtbicjcpdcopbhaaDoor
set_option linter.unusedVariables false
open Go.RowKit

theorem run_cut2 (A : Option Addr) (n c i j : Nat) (hij : i ≤ j) (hj : j ≤ c) (w : World) :
    (Instr.sliceAt 24 (.slice A n c) (some (.int .i64 (i : Int))) (some (.int .i64 (j : Int))) none).run Tryd.prog w = .ok (.slice (if c = i then A else A.map (·.add i)) (j - i) (c - i)) w := by
  have hinfo := size8
  cases hq : Tryd.prog.info? 5 with
  | none => rw [hq] at hinfo; cases hinfo
  | some d =>
    rw [hq] at hinfo
    have hs : d.size = 1 := by simpa using hinfo
    simp [Instr.sliceAt, Instr.slice, run_underlying under24, Instr.sliceBounds, Instr.sliceBound, asIntOf, sizeOf, typeInfo, hq, hs, hij, hj]
theorem run_cut1 (A : Option Addr) (n c i : Nat) (hi : i ≤ n) (w : World) :
    (Instr.sliceAt 24 (.slice A n c) (some (.int .i64 (i : Int))) none none).run Tryd.prog w = .ok (.slice (if c = i then A else A.map (·.add i)) (n - i) (c - i)) w := by
  have hinfo := size8
  cases hq : Tryd.prog.info? 5 with
  | none => rw [hq] at hinfo; cases hinfo
  | some d =>
    rw [hq] at hinfo
    have hs : d.size = 1 := by simpa using hinfo
    simp [Instr.sliceAt, Instr.slice, run_underlying under24, Instr.sliceBounds, Instr.sliceBound, asIntOf, sizeOf, typeInfo, hq, hs, hi]
theorem run_cut0 (A : Option Addr) (n c j : Nat) (hj : j ≤ c) (w : World) :
    (Instr.sliceAt 24 (.slice A n c) none (some (.int .i64 (j : Int))) none).run Tryd.prog w = .ok (.slice A j c) w := by
  have hinfo := size8
  have h0 : A.map (·.add 0) = A := by cases A <;> simp [Addr.add]
  cases hq : Tryd.prog.info? 5 with
  | none => rw [hq] at hinfo; cases hinfo
  | some d =>
    rw [hq] at hinfo
    have hs : d.size = 1 := by simpa using hinfo
    simp [Instr.sliceAt, Instr.slice, run_underlying under24, Instr.sliceBounds, Instr.sliceBound, asIntOf, sizeOf, typeInfo, hq, hj, h0]
theorem wpl_cut2 {ops : Array Oper} {rest : List Oper} {op : Oper} {a : Act} {w : World} {Q : Exit → Act → World → Prop} (hgd : op.guard = none) (x lo hi : Operand)
    (ho : op.op = .slice 24 x (some lo) (some hi) none) (A A' : Option Addr) (n c i j : Nat) (J : Int) (hx : a.eval x = .slice A n c) (hl : a.eval lo = .int .i64 (i : Int)) (hh : a.eval hi = .int .i64 J) (hJ : J = (j : Int)) (hij : i ≤ j) (hj : j ≤ c) (n2 : Nat) (hn2 : n2 = j - i)
    (hA : A' = if c = i then A else A.map (·.add i)) (h : wpList Tryd.prog ops Q rest (a.put op.dst (.slice A' n2 (c - i))) w) : wpList Tryd.prog ops Q (op :: rest) a w := by
  subst hA hJ hn2
  refine wpList_plain hgd fun K hK => ?_
  unfold Oper.wp execOp
  simp only [ho, Option.map_some, Option.map_none, hx, hl, hh, run_cut2 A n c i j hij hj, Sem.run_bind, Result.andThen_ok]
  exact hK _ _ h
theorem held_cut2 {o : Oper} {a : Act} {w : World} (x lo hi : Operand) (ho : o.op = .slice 24 x (some lo) (some hi) none) (A A' : Option Addr) (n c i j : Nat) (hx : a.eval x = .slice A n c) (hl : a.eval lo = .int .i64 (i : Int)) (hh : a.eval hi = .int .i64 (j : Int)) (hij : i ≤ j) (hj : j ≤ c) (hA : A' = if c = i then A else A.map (·.add i)) :
    (execOp a.eval o).run Tryd.prog w = .ok (.value (.slice A' (j - i) (c - i))) w := by
  subst hA
  unfold execOp
  simp only [ho, Option.map_some, Option.map_none, hx, hl, hh, run_cut2 A n c i j hij hj, Sem.run_bind, Result.andThen_ok, Sem.run_pure]
theorem held_cut1 {o : Oper} {a : Act} {w : World} (x lo : Operand) (ho : o.op = .slice 24 x (some lo) none none) (A A' : Option Addr) (n c i : Nat) (hx : a.eval x = .slice A n c) (hl : a.eval lo = .int .i64 (i : Int)) (hi : i ≤ n) (hA : A' = if c = i then A else A.map (·.add i)) :
    (execOp a.eval o).run Tryd.prog w = .ok (.value (.slice A' (n - i) (c - i))) w := by
  subst hA
  unfold execOp
  simp only [ho, Option.map_some, Option.map_none, hx, hl, run_cut1 A n c i hi, Sem.run_bind, Result.andThen_ok, Sem.run_pure]
theorem Rds.mid {w : World} {A : Option Addr} {n : Nat} {l : List UInt8} (h : Rds w A n (cellsB l)) (c i j : Nat) (hij : i ≤ j) (hj : j ≤ n) (hc : n ≤ c) : Rds w (if c = i then A else A.map (·.add i)) (j - i) (cellsB ((l.drop i).take (j - i))) := by
  have := (h.cut c i (by omega) hc).take (j - i) (by omega)
  rwa [cellsB_drop, cellsB_take] at this

theorem held_loadG {ty : TypeId} {n : Nat} (hA : Agg Tryd.prog ty n) {o : Oper} {a : Act} {w : World} (x : Operand) (ho : o.op = .load ty x) (g : Nat) (hx : a.eval x = .pointer (some ⟨g, 0, none⟩)) (l : List UInt8) (hl : l.length = n) (t : TypeId) (hb : Blk w g t (cellsB l).toArray) :
    (execOp a.eval o).run Tryd.prog w = .ok (.value (.agg (cellsB l).toArray)) w := by
  unfold execOp
  simp only [ho, hx, Instr.loadAt, Instr.sureAddr, Sem.run_bind, Sem.run_pure, Result.andThen_ok, run_load_agg hA w g 0 _ (cellsB l) (cellsB l) hb (by rw [List.drop_zero, List.take_of_length_le (by rw [cellsB_length, hl]; exact Nat.le_refl _)]) (by rw [cellsB_length, hl]; omega)]
theorem held_conv {o : Oper} {a : Act} {w : World} (x : Operand) (ho : o.op = .convert 24 9 x) (g n c : Nat) (hx : a.eval x = .slice (some ⟨g, 0, none⟩) n c) (l l' : List UInt8) (t : TypeId) (hb : Blk w g t (cellsB l).toArray) (hn : n ≤ l.length) (hl : l.take n = l') :
    (execOp a.eval o).run Tryd.prog w = .ok (.value (.string ⟨l'.toArray⟩)) w := by
  subst hl
  have := hb.conv n c hn
  unfold execOp
  simp only [ho, hx, this, Sem.run_bind, Sem.run_pure, Result.andThen_ok]
theorem held_convR {o : Oper} {a : Act} {w : World} (x : Operand) (ho : o.op = .convert 24 9 x) (A : Option Addr) (n c : Nat) (hx : a.eval x = .slice A n c) (l : List UInt8) (hr : Rds w A n (cellsB l)) :
    (execOp a.eval o).run Tryd.prog w = .ok (.value (.string ⟨l.toArray⟩)) w := by
  have := conv_rds (P := Tryd.prog) w 24 9 5 under24 under5 under9 A n c l hr
  unfold execOp
  simp only [ho, hx, this, Sem.run_bind, Sem.run_pure, Result.andThen_ok]
/-- A slice of an array, up to some place. -/
theorem slice_arr_to {t : TypeId} {N : Nat} (hu : Tryd.prog.underlying t = some (.array N 5)) (g j : Nat) (hj : j ≤ N) (w : World) :
    (Instr.sliceAt t (.pointer (some ⟨g, 0, none⟩)) none (some (.int .i64 (j : Int))) none).run Tryd.prog w = .ok (.slice (some ⟨g, 0, none⟩) j N) w := by
  have hi := size8
  cases hq : Tryd.prog.info? 5 with
  | none => simp [hq] at hi
  | some d =>
    simp [Instr.sliceAt, run_underlying hu, Instr.sureAddr, Instr.sliceBounds, Instr.sliceBound, asIntOf, sizeOf, typeInfo, hq, hj, Addr.add]
/-- Keys with noughts behind. -/
theorem padK_zeros (x : List UInt8) (k : Nat) (h : x.length + k ≤ 64) : padK (x ++ List.replicate k 0) = padK x := by
  have h1 : keyL x = x := by unfold keyL; rw [if_neg (by omega)]
  have h2 : keyL (x ++ List.replicate k 0) = x ++ List.replicate k 0 := by unfold keyL; rw [if_neg (by simp; omega)]
  rw [padK, padK, h1, h2, List.append_assoc, List.replicate_append_replicate]
  congr 2
  simp
  omega
theorem macL_zeros (x m : List UInt8) (k : Nat) (h : x.length + k ≤ 64) : macL (x ++ List.replicate k 0) m = macL x m := by rw [macL, macL, padK_zeros x k h]
def key32 (x : List UInt8) : List UInt8 := x.take 32 ++ List.replicate (32 - x.length) 0
theorem key32_length (x : List UInt8) : (key32 x).length = 32 := by simp [key32]; omega
theorem key32_splice (x : List UInt8) (m : Nat) (h : m = Nat.min x.length 32) : splice (cellsB (List.replicate 32 0)) 0 (cellsB (x.take m)) = cellsB (key32 x) := by
  have h1 : x.take m = x.take 32 := by
    subst h
    apply List.ext_getElem?
    intro j
    rw [List.getElem?_take, List.getElem?_take]
    have : Nat.min x.length 32 = min x.length 32 := rfl
    split <;> split <;> first | rfl | omega | (rw [List.getElem?_eq_none (by omega)])
  have h2 : (List.replicate 32 (0 : UInt8)).drop (x.take 32).length = List.replicate (32 - x.length) 0 := by rw [List.drop_replicate]; congr 1; simp; omega
  rw [h1, splice, List.take_zero, List.nil_append, Nat.zero_add, cellsB_length, cellsB_drop, h2, ← cellsB_append, key32]
theorem mac_key32 (x m : List UInt8) (h : x.length ≤ 32) : macL (key32 x) m = macL x m := by
  rw [key32, List.take_of_length_le (by omega)]
  exact macL_zeros x m _ (by omega)
end Go.Proofs.YtbicjcpdcopbhaaDoor
