/-
  chacha: ten times eight quarters.
-/
import Derived.Test.YtjdffceeinflcaaDoorCh2
namespace Go.Proofs.YtjdffceeinflcaaDoor
set_option linter.unusedVariables false
open Go.RowKit

def qAt (k i : Nat) : Nat := quartersL.getD (4 * k + i) 0
def setQ (L : List Nat) (a b c d : Nat) : List Nat :=
  (((L.set a (Q4.mk (L.getD a 0) (L.getD b 0) (L.getD c 0) (L.getD d 0)).two.a).set b (Q4.mk (L.getD a 0) (L.getD b 0) (L.getD c 0) (L.getD d 0)).two.b).set c (Q4.mk (L.getD a 0) (L.getD b 0) (L.getD c 0) (L.getD d 0)).two.c).set d (Q4.mk (L.getD a 0) (L.getD b 0) (L.getD c 0) (L.getD d 0)).two.d
def eightL (s : List Nat) : Nat → List Nat
  | 0 => s
  | k + 1 => setQ (eightL s k) (qAt k 0) (qAt k 1) (qAt k 2) (qAt k 3)
def mixL (s : List Nat) : Nat → List Nat
  | 0 => s
  | n + 1 => eightL (mixL s n) 8
theorem setQ_length (L : List Nat) (a b c d : Nat) : (setQ L a b c d).length = L.length := by simp only [setQ, List.length_set]
theorem eightL_length (s : List Nat) (k : Nat) : (eightL s k).length = s.length := by
  induction k with
  | zero => rfl
  | succ k ih => rw [eightL, setQ_length, ih]
theorem mixL_length (s : List Nat) (k : Nat) : (mixL s k).length = s.length := by
  induction k with
  | zero => rfl
  | succ k ih => rw [mixL, eightL_length, ih]
theorem Ws.set {l : List Nat} (h : Ws l) (k x : Nat) (hx : x < 4294967296) : Ws (l.set k x) := fun y hy => by
  rcases List.mem_or_eq_of_mem_set hy with h1 | rfl
  · exact h y h1
  · exact hx
theorem Q4.of_ok {l : List Nat} (h : Ws l) (a b c d : Nat) : (Q4.mk (l.getD a 0) (l.getD b 0) (l.getD c 0) (l.getD d 0)).ok := ⟨h.get a, h.get b, h.get c, h.get d⟩
theorem setQ_ws {l : List Nat} (h : Ws l) (a b c d : Nat) : Ws (setQ l a b c d) :=
  have o := (Q4.of_ok h a b c d).two
  (((h.set a _ o.a).set b _ o.b).set c _ o.c).set d _ o.d
theorem eightL_ws {l : List Nat} (h : Ws l) (k : Nat) : Ws (eightL l k) := by
  induction k with
  | zero => exact h
  | succ k ih => exact setQ_ws ih _ _ _ _
theorem mixL_ws {l : List Nat} (h : Ws l) (k : Nat) : Ws (mixL l k) := by
  induction k with
  | zero => exact h
  | succ k ih => exact eightL_ws ih _
theorem quarter_set (L : List Nat) (h : L.length = 16) (k : Nat) (hk : k < 8) : quarterL L (qAt k 0) (qAt k 1) (qAt k 2) (qAt k 3) = setQ L (qAt k 0) (qAt k 1) (qAt k 2) (qAt k 3) := by
  match L, h with
  | [x0, x1, x2, x3, x4, x5, x6, x7, x8, x9, x10, x11, x12, x13, x14, x15], _ =>
    match k, hk with
    | 0, _ =>
      show quarterL _ 0 4 8 12 = setQ _ 0 4 8 12
      simp only [quarterL, qAdd, qTurn, setQ, Q4.two, Q4.one, List.set_cons_zero, List.set_cons_succ, List.getD_cons_zero, List.getD_cons_succ]
    | 1, _ =>
      show quarterL _ 1 5 9 13 = setQ _ 1 5 9 13
      simp only [quarterL, qAdd, qTurn, setQ, Q4.two, Q4.one, List.set_cons_zero, List.set_cons_succ, List.getD_cons_zero, List.getD_cons_succ]
    | 2, _ =>
      show quarterL _ 2 6 10 14 = setQ _ 2 6 10 14
      simp only [quarterL, qAdd, qTurn, setQ, Q4.two, Q4.one, List.set_cons_zero, List.set_cons_succ, List.getD_cons_zero, List.getD_cons_succ]
    | 3, _ =>
      show quarterL _ 3 7 11 15 = setQ _ 3 7 11 15
      simp only [quarterL, qAdd, qTurn, setQ, Q4.two, Q4.one, List.set_cons_zero, List.set_cons_succ, List.getD_cons_zero, List.getD_cons_succ]
    | 4, _ =>
      show quarterL _ 0 5 10 15 = setQ _ 0 5 10 15
      simp only [quarterL, qAdd, qTurn, setQ, Q4.two, Q4.one, List.set_cons_zero, List.set_cons_succ, List.getD_cons_zero, List.getD_cons_succ]
    | 5, _ =>
      show quarterL _ 1 6 11 12 = setQ _ 1 6 11 12
      simp only [quarterL, qAdd, qTurn, setQ, Q4.two, Q4.one, List.set_cons_zero, List.set_cons_succ, List.getD_cons_zero, List.getD_cons_succ]
    | 6, _ =>
      show quarterL _ 2 7 8 13 = setQ _ 2 7 8 13
      simp only [quarterL, qAdd, qTurn, setQ, Q4.two, Q4.one, List.set_cons_zero, List.set_cons_succ, List.getD_cons_zero, List.getD_cons_succ]
    | 7, _ =>
      show quarterL _ 3 4 9 14 = setQ _ 3 4 9 14
      simp only [quarterL, qAdd, qTurn, setQ, Q4.two, Q4.one, List.set_cons_zero, List.set_cons_succ, List.getD_cons_zero, List.getD_cons_succ]
theorem down_eight (s : List Nat) (h : s.length = 16) (k : Nat) (hk : k ≤ 4) : downL s k = eightL s k := by
  induction k with
  | zero => rfl
  | succ k ih =>
    rw [downL, eightL, ih (by omega), ← quarter_set _ (by rw [eightL_length, h]) k (by omega)]
    match k, hk with
    | 0, _ => rfl
    | 1, _ => rfl
    | 2, _ => rfl
    | 3, _ => rfl
theorem slant_eight (s : List Nat) (h : s.length = 16) (k : Nat) (hk : k ≤ 4) : slantL (eightL s 4) k = eightL s (4 + k) := by
  induction k with
  | zero => rfl
  | succ k ih =>
    rw [slantL, ih (by omega)]
    show _ = setQ (eightL s (4 + k)) (qAt (4 + k) 0) (qAt (4 + k) 1) (qAt (4 + k) 2) (qAt (4 + k) 3)
    rw [← quarter_set _ (by rw [eightL_length, h]) (4 + k) (by omega)]
    match k, hk with
    | 0, _ => rfl
    | 1, _ => rfl
    | 2, _ => rfl
    | 3, _ => rfl
theorem mixL_eq (s : List Nat) (h : s.length = 16) (n : Nat) : mixL s n = tensL s n := by
  induction n with
  | zero => rfl
  | succ n ih => rw [mixL, tensL, ih, down_eight _ (by rw [tensL_length, h]) 4 (by omega), slant_eight _ (by rw [tensL_length, h]) 4 (by omega)]
theorem qAt_lt (k i : Nat) (hk : k < 8) (hi : i < 4) : qAt k i < 16 := by
  have all : ∀ (k : Fin 8) (i : Fin 4), qAt k.val i.val < 16 := by decide
  exact all ⟨k, hk⟩ ⟨i, hi⟩

theorem blk_some {w : World} {g : Nat} {t : TypeId} {l : List Nat} (h : Blk w g t (cellsW l).toArray) (k : Nat) (hl : l.length = 16) (hk : k < 16) : ∃ v, w.cell? ⟨g, k, none⟩ = some v := by
  refine ⟨(cellsW l)[k]'(by rw [cellsW_length]; omega), ?_⟩
  rw [h.cell, List.getElem?_toArray, List.getElem?_eq_getElem (by rw [cellsW_length]; omega)]

theorem agg4i : Agg Tryd.prog 54 4 := Agg.of (by kernel_rfl) (by kernel_rfl)
theorem agg32i : Agg Tryd.prog 55 32 := Agg.of (by kernel_rfl) (by kernel_rfl)
theorem zero4i : (Tryd.prog.info? 54).map (fun i => i.zero) = some (some (.agg (cellsI (List.replicate 4 0)).toArray)) := by kernel_rfl
theorem under8i : Tryd.prog.underlying 55 = some (.array 8 54) := by kernel_rfl
theorem under4i : Tryd.prog.underlying 54 = some (.array 4 3) := by kernel_rfl
theorem size4i : (Tryd.prog.info? 54).map (·.size) = some 4 := by kernel_rfl
/-- An element of an array of arrays. -/
theorem index_row (ql : List Nat) (hl : ql.length = 32) (k : Nat) (hk : k < 8) (w : World) :
    Sem.run Tryd.prog (Instr.index 55 (.agg (cellsI ql).toArray) (.int .i64 (k : Int))) w = .ok (.agg (cellsI [ql.getD (4 * k + 0) 0, ql.getD (4 * k + 1) 0, ql.getD (4 * k + 2) 0, ql.getD (4 * k + 3) 0]).toArray) w := by
  have hi := size4i
  cases hq : Tryd.prog.info? 54 with
  | none => simp [hq] at hi
  | some d =>
    have hs : d.size = 4 := by simpa [hq] using hi
    have h4 : ((cellsI ql).drop (k * 4)).take 4 = cellsI [ql.getD (4 * k + 0) 0, ql.getD (4 * k + 1) 0, ql.getD (4 * k + 2) 0, ql.getD (4 * k + 3) 0] := by
      apply List.ext_getElem?
      intro j
      rw [List.getElem?_take, List.getElem?_drop]
      have hlen : (cellsI ql).length = 32 := by rw [cellsI_length, hl]
      by_cases hj : j < 4
      · rw [if_pos (by omega), cellsI_at _ _ (by omega)]
        match j, hj with
        | 0, _ => simp [cellsI, Nat.mul_comm]
        | 1, _ => simp [cellsI, Nat.mul_comm]
        | 2, _ => simp [cellsI, Nat.mul_comm]
        | 3, _ => simp [cellsI, Nat.mul_comm]
      · rw [if_neg (by omega), List.getElem?_eq_none (by rw [cellsI_length]; simp; omega)]
    have hkk : (k : Int) < 8 := by omega
    simp [Instr.index, asIntOf, run_underlying under8i, hk, part, isAgg, run_underlying under4i, sizeOf, typeInfo, hq, hs]
    simpa using h4

end Go.Proofs.YtjdffceeinflcaaDoor
