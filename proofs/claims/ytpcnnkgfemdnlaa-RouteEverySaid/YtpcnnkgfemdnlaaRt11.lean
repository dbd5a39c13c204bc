/-
  RouteEvery over lists: the nodes that it makes, the words that say a route; three rows of one's own side by side; min of three.
-/
import Derived.Test.YtpcnnkgfemdnlaaRt9
namespace Go.Proofs.Ytpcnnkgfemdnlaa
set_option linter.unusedVariables false
open Go.RowKit

theorem wpl_min3 {P : Program} {ops : Array Oper} {rest : List Oper} {op : Oper} {a : Act} {Q : Exit → Act → World → Prop} (hgd : op.guard = none) (x y z : Operand) (t t' t'' : TypeId)
    (ho : op.op = .call { callee := .builtin .min, args := #[x, y, z], argTypes := #[t, t', t''] }) (w : World) (p q r m : Int) (hx : a.eval x = .int .i64 p) (hy : a.eval y = .int .i64 q) (hz : a.eval z = .int .i64 r)
    (hm : m = if r < (if q < p then q else p) then r else (if q < p then q else p))
    (h : wpList P ops Q rest (a.put op.dst (.int .i64 m)) w) : wpList P ops Q (op :: rest) a w := by
  refine wpList_plain hgd fun _ hK => ?_
  unfold Oper.wp execOp
  simp only [ho, resolve, invoke, builtin, Sem.run_bind, Sem.run_pure, Result.andThen_ok, List.map_toArray, List.map_cons, List.map_nil, hx, hy, hz]
  subst hm
  exact hK _ _ h

theorem mask7 (n : Nat) : bits .and .u64 (n : Int) 7 = ((n % 8 : Nat) : Int) := by
  have h1 : (BitVec.ofInt 64 7).toNat = 2 ^ 3 - 1 := by decide
  have key : (BitVec.ofInt 64 (n : Int) &&& BitVec.ofInt 64 7).toNat = ((n : Int) % ((2 ^ 64 : Nat) : Int)).toNat % 2 ^ 3 := by
    rw [BitVec.toNat_and, BitVec.toNat_ofInt, h1, Nat.and_two_pow_sub_one_eq_mod]
  show IntKind.u64.wrap ((BitVec.ofInt 64 (n : Int) &&& BitVec.ofInt 64 7).toNat : Nat) = ((n % 8 : Nat) : Int)
  rw [key, IntKind.wrap_u64]
  omega

/-- The nodes that rise: 1, 4, 7 .. -/
def rowN : Nat → List Nat
  | 0 => []
  | k + 1 => rowN k ++ [3 * k + 1]
theorem rowN_length : ∀ n, (rowN n).length = n
  | 0 => rfl
  | n + 1 => by rw [rowN, List.length_append, rowN_length n]; rfl
theorem rowN_at : ∀ n i, i < n → (rowN n).getD i 0 = 3 * i + 1
  | n + 1, i, h => by
    rw [rowN, List.getD_eq_getElem?_getD]
    by_cases hi : i < n
    · rw [List.getElem?_append_left (by rw [rowN_length]; exact hi), ← List.getD_eq_getElem?_getD, rowN_at n i hi]
    · obtain rfl : i = n := by omega
      rw [List.getElem?_append_right (by rw [rowN_length]; exact Nat.le_refl _), rowN_length, Nat.sub_self]
      rfl
theorem rowN_rise (n : Nat) : Rise (rowN n) := by
  intro i hi
  rw [rowN_length] at hi
  rw [rowN_at n i (by omega), rowN_at n (i + 1) hi]
  omega
theorem getD_mem {l : List Nat} {i : Nat} (h : i < l.length) : l.getD i 0 ∈ l := by
  rw [List.getD_eq_getElem?_getD, List.getElem?_eq_getElem h]
  exact List.getElem_mem h

/-- One word more, that says a place: what is taken by it. -/
theorem takes_snoc (ws O : List Nat) (j x p : Nat) (hj : ws.length = j) (hx : x % (lefts ws O j).length = p) :
    outs (ws ++ [x]) O (j + 1) = outs ws O j ++ [(lefts ws O j).getD p 0] ∧ lefts (ws ++ [x]) O (j + 1) = (lefts ws O j).eraseIdx p := by
  have e : takes (ws ++ [x]) O j = takes ws O j := takes_same j (fun i hi => by
    rw [List.getD_eq_getElem?_getD, List.getD_eq_getElem?_getD, List.getElem?_append_left (by omega)])
  have e1 : outs (ws ++ [x]) O j = outs ws O j := by rw [outs, outs, e]
  have e2 : lefts (ws ++ [x]) O j = lefts ws O j := by rw [lefts, lefts, e]
  have e3 : (ws ++ [x]).getD j 0 = x := by rw [List.getD_eq_getElem?_getD, List.getElem?_append_right (by omega), hj, Nat.sub_self]; rfl
  rw [outs_succ, lefts_succ, e1, e2, e3, hx]
  exact ⟨rfl, rfl⟩

theorem own_ne2 {w : World} {B B' n n' : Nat} {e e' : TypeId} {v v' : Value} {xs xs' : List Value} (h : w.ownsRow B e 1 v n xs) (h' : w.ownsRow B' e' 1 v' n' xs') (hne : e ≠ e') : ∀ j, v.ownBlock = some j → v'.ownBlock ≠ some j := by
  intro j hj
  rcases h.2 with ⟨rfl, _⟩ | ⟨g, cap, cur, rfl, _, hg, _⟩
  · cases hj
  · have e1 : g = j := by simpa [Value.ownBlock] using hj
    subst e1
    exact own_ne h' (show Blk w g e cur from hg) (Ne.symm hne)

/-- Three rows of one's own: those that are left, those that are out, and the words. -/
structure VInv (w : World) (A1 : Option Addr) (nl c1 : Nat) (A2 : Option Addr) (k c2 : Nat) (A3 : Option Addr) (j c3 : Nat) (left out ws : List Nat) (wr : World) : Prop where
  r : RInv w A1 nl c1 A2 k c2 left out wr
  s : wr.ownsRow w.heap.size 31 1 (.slice A3 j c3) j (cellsI .u64 ws)
theorem VInv.add {w w1 w2 : World} {A1 A2 A3 A4 : Option Addr} {nl c1 k c2 j c3 c4 x : Nat} {left out ws : List Nat} (h : VInv w A1 nl c1 A2 k c2 A3 j c3 left out ws w1) (o : Obj)
    (hown : w2.ownsRow w.heap.size 25 1 (.slice A4 (k + 1) c4) (k + 1) (cellsI .u16 out ++ [.int .u16 (x : Int)])) (hg : (w1.alloc o).grownBy w2 (Value.slice A2 k c2).ownBlock)
    (hat : (Value.slice A4 (k + 1) c4).ownBlock = (Value.slice A2 k c2).ownBlock ∨ (Value.slice A4 (k + 1) c4).ownBlock = some (w1.heap.size + 1)) : VInv w A1 nl c1 A4 (k + 1) c4 A3 j c3 left (out ++ [x]) ws w2 := by
  have F : Frm (fun j => some j = (Value.slice A2 k c2).ownBlock) w1 w2 := (Frm.alloc w1 o (fun j => some j = (Value.slice A2 k c2).ownBlock)).trans (Frm.of_grown hg) (fun _ _ h => h)
  exact ⟨RInv.add h.r o hown hg hat, own_frm h.s F (fun i hi e => own_ne2 h.s h.r.o (by decide) i hi e.symm)⟩
theorem VInv.word {w w1 w2 : World} {A1 A2 A3 A4 : Option Addr} {nl c1 k c2 j c3 c4 x : Nat} {left out ws : List Nat} (h : VInv w A1 nl c1 A2 k c2 A3 j c3 left out ws w1) (o : Obj)
    (hown : w2.ownsRow w.heap.size 31 1 (.slice A4 (j + 1) c4) (j + 1) (cellsI .u64 ws ++ [.int .u64 (x : Int)])) (hg : (w1.alloc o).grownBy w2 (Value.slice A3 j c3).ownBlock) :
    VInv w A1 nl c1 A2 k c2 A4 (j + 1) c4 left out (ws ++ [x]) w2 := by
  have F : Frm (fun i => some i = (Value.slice A3 j c3).ownBlock) w1 w2 := (Frm.alloc w1 o (fun i => some i = (Value.slice A3 j c3).ownBlock)).trans (Frm.of_grown hg) (fun _ _ h => h)
  refine ⟨⟨own_frm h.r.l F (fun i hi e => own_ne2 h.r.l h.s (by decide) i hi e.symm), own_frm h.r.o F (fun i hi e => own_ne2 h.r.o h.s (by decide) i hi e.symm), h.r.ne, h.r.below.trans (F.below h.r.below.size (fun i hi => (own_ge h.s i hi.symm).1))⟩, ?_⟩
  rw [cellsI_append]
  exact hown
theorem VInv.cut {w w1 w2 : World} {A1 A2 A3 A4 : Option Addr} {nl nl' c1 k c2 j c3 c4 : Nat} {left left' out ws : List Nat} (h : VInv w A1 nl c1 A2 k c2 A3 j c3 left out ws w1) (F : Frm (fun _ => False) w1 w2)
    (hown : w2.ownsRow w1.heap.size 25 1 (.slice A4 nl' c4) nl' (cellsI .u16 left')) : VInv w A4 nl' c4 A2 k c2 A3 j c3 left' out ws w2 :=
  ⟨RInv.cut h.r F hown, own_frm h.s F (fun _ _ h => h)⟩
theorem VInv.more2 {w w1 : World} {A1 A2 A3 : Option Addr} {nl c1 k c2 j c3 : Nat} {left out ws : List Nat} (h : VInv w A1 nl c1 A2 k c2 A3 j c3 left out ws w1) (o : Obj) : (w1.alloc o).ownsRow w.heap.size 25 1 (.slice A2 k c2) k (cellsI .u16 out) := own_frm h.r.o (Frm.alloc w1 o (fun _ => False)) (fun _ _ h => h)
theorem VInv.more3 {w w1 : World} {A1 A2 A3 : Option Addr} {nl c1 k c2 j c3 : Nat} {left out ws : List Nat} (h : VInv w A1 nl c1 A2 k c2 A3 j c3 left out ws w1) (o : Obj) : (w1.alloc o).ownsRow w.heap.size 31 1 (.slice A3 j c3) j (cellsI .u64 ws) := own_frm h.s (Frm.alloc w1 o (fun _ => False)) (fun _ _ h => h)
theorem VInv.le {w w1 : World} {A1 A2 A3 : Option Addr} {nl c1 k c2 j c3 : Nat} {left out ws : List Nat} (h : VInv w A1 nl c1 A2 k c2 A3 j c3 left out ws w1) (o : Obj) : w.heap.size ≤ (w1.alloc o).heap.size := by have := h.r.below.size; simp; omega
end Go.Proofs.Ytpcnnkgfemdnlaa
