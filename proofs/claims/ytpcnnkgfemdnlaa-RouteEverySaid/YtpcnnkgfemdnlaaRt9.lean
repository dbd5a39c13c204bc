/-
  The document's Draw by a contract: what lists say of it, and two rows of one's own side by side.
-/
import Derived.Test.YtpcnnkgfemdnlaaRt8
import Derived.Test.YtpcnnkgfemdnlaaSq2
namespace Go.Proofs.Ytpcnnkgfemdnlaa
set_option linter.unusedVariables false
open Go.RowKit

theorem Fault.det {nw : Nat} {nodes : List Nat} {hops : Int} {last : Nat} {f g : Int} (h : Fault nw nodes hops last f) (k : Fault nw nodes hops last g) : f = g := by
  cases h <;> cases k <;> first | rfl | (exfalso; first | omega | (rename_i a1 a2 a3 a4 a5 a6; rcases a1 with a | a | a <;> first | omega | exact a (by assumption)) | skip)
  all_goals first | contradiction | (rename_i h _ _ _ _ _; rcases h with h | h | h <;> first | omega | contradiction) | (rename_i h; rcases h with h | h | h <;> first | omega | contradiction) | (rename_i h _ _ _ _ _ _; rcases h with h | h | h <;> first | omega | contradiction) | (rename_i h _ _ _ _ _ _ _; rcases h with h | h | h <;> first | omega | contradiction)
theorem Fine.no {nw : Nat} {nodes : List Nat} {hops : Int} {last : Nat} {f : Int} (h : Fine nw nodes hops last) (k : Fault nw nodes hops last f) : False := by
  obtain ⟨f0, f1, f2, f3, f4, f5, f6⟩ := h
  cases k with
  | arg h => rcases h with h | h | h <;> first | omega | contradiction
  | none => contradiction
  | full => omega
  | short => omega
/-- What Draw is to answer, whatever it is asked. -/
def Want (w : World) (ws nodes : List Nat) (nw : Nat) (hops : Int) (last : Nat) (e : Ending) (w' : World) : Prop :=
  (Fine nw nodes hops last → Ans w (routeL ws nodes hops last) (hops - 1) 0 e w') ∧ ∀ f, Fault nw nodes hops last f → Ans w [] 0 f e w'
theorem Want.bad {w w' : World} {ws nodes : List Nat} {nw : Nat} {hops : Int} {last : Nat} {e : Ending} {f : Int} (h : Fault nw nodes hops last f) (k : Ans w [] 0 f e w') : Want w ws nodes nw hops last e w' :=
  ⟨fun g => (g.no h).elim, fun f' h' => h.det h' ▸ k⟩
theorem Want.fine {w w' : World} {ws nodes : List Nat} {nw : Nat} {hops : Int} {last : Nat} {e : Ending} (h : Fine nw nodes hops last) (k : Ans w (routeL ws nodes hops last) (hops - 1) 0 e w') : Want w ws nodes nw hops last e w' :=
  ⟨fun _ => k, fun f' h' => (h.no h').elim⟩

/-- Two rows of one's own: those that are left, those that are out. -/
structure RInv (w : World) (A1 : Option Addr) (nl c1 : Nat) (A2 : Option Addr) (k c2 : Nat) (left out : List Nat) (wr : World) : Prop where
  l : wr.ownsRow w.heap.size 25 1 (.slice A1 nl c1) nl (cellsI .u16 left)
  o : wr.ownsRow w.heap.size 25 1 (.slice A2 k c2) k (cellsI .u16 out)
  ne : ∀ j, (Value.slice A1 nl c1).ownBlock = some j → (Value.slice A2 k c2).ownBlock ≠ some j
  below : Below w.heap.size w wr
theorem RInv.start {w wr : World} {A1 : Option Addr} {nl c1 : Nat} {left : List Nat} (h : wr.ownsRow w.heap.size 25 1 (.slice A1 nl c1) nl (cellsI .u16 left)) (hb : Below w.heap.size w wr) :
    RInv w A1 nl c1 (some ⟨wr.heap.size, 0, none⟩) 0 0 left [] (wr.alloc (.cells #[] 25)) := by
  refine ⟨own_frm h (Frm.alloc _ _ (fun _ => False)) (fun _ _ h => h), own_base (World.ownsRow_made wr #[] 0 (Nat.le_refl _) (by simp [maxLen]) (by simp)) hb.size, fun j hj e => ?_, hb.alloc hb.size _⟩
  have := (own_ge h j hj).2
  have e : wr.heap.size = j := by simpa [Value.ownBlock] using e
  omega
theorem RInv.starn {w wr : World} {A1 : Option Addr} {nl c1 : Nat} {left : List Nat} (h : wr.ownsRow w.heap.size 25 1 (.slice A1 nl c1) nl (cellsI .u16 left)) (hb : Below w.heap.size w wr) :
    RInv w A1 nl c1 none 0 0 left [] wr := ⟨h, own_nil _ _ _, (fun j _ h => by cases h), hb⟩
/-- One more is out. -/
theorem RInv.add {w w1 w2 : World} {A1 A2 A3 : Option Addr} {nl c1 k c2 c3 x : Nat} {left out : List Nat} (h : RInv w A1 nl c1 A2 k c2 left out w1) (o : Obj)
    (hown : w2.ownsRow w.heap.size 25 1 (.slice A3 (k + 1) c3) (k + 1) (cellsI .u16 out ++ [.int .u16 (x : Int)])) (hg : (w1.alloc o).grownBy w2 (Value.slice A2 k c2).ownBlock)
    (hat : (Value.slice A3 (k + 1) c3).ownBlock = (Value.slice A2 k c2).ownBlock ∨ (Value.slice A3 (k + 1) c3).ownBlock = some (w1.heap.size + 1)) : RInv w A1 nl c1 A3 (k + 1) c3 left (out ++ [x]) w2 := by
  have F : Frm (fun j => some j = (Value.slice A2 k c2).ownBlock) w1 w2 := (Frm.alloc w1 o (fun j => some j = (Value.slice A2 k c2).ownBlock)).trans (Frm.of_grown hg) (fun _ _ h => h)
  refine ⟨own_frm h.l F (fun j hj e => h.ne j hj e.symm), ?_, fun j hj => ?_, h.below.trans (F.below h.below.size (fun j hj => (own_ge h.o j hj.symm).1))⟩
  · rw [cellsI_append]
    exact hown
  · rcases hat with e | e
    · rw [e]; exact h.ne j hj
    · rw [e]
      intro e2
      have := (own_ge h.l j hj).2
      injection e2 with e2
      omega
/-- Those that are left are made anew. -/
theorem RInv.cut {w w1 w2 : World} {A1 A2 A3 : Option Addr} {nl nl' c1 k c2 c3 : Nat} {left left' out : List Nat} (h : RInv w A1 nl c1 A2 k c2 left out w1) (F : Frm (fun _ => False) w1 w2)
    (hown : w2.ownsRow w1.heap.size 25 1 (.slice A3 nl' c3) nl' (cellsI .u16 left')) : RInv w A3 nl' c3 A2 k c2 left' out w2 := by
  refine ⟨own_base hown h.below.size, own_frm h.o F (fun _ _ h => h), fun j hj e => ?_, h.below.trans (F.below h.below.size (fun _ h => h.elim))⟩
  have := (own_ge hown j hj).1
  have := (own_ge h.o j e).2
  omega
theorem erase_cut (k : IntKind) (l : List Nat) (p : Nat) : cellsI k (l.take p) ++ cellsI k (l.drop (p + 1)) = cellsI k (l.eraseIdx p) := by rw [← cellsI_append, List.eraseIdx_eq_take_drop_succ]
/-- A row of one's own that grows. -/
structure LInv (w : World) (A : Option Addr) (nl c : Nat) (left : List Nat) (wr : World) : Prop where
  own : wr.ownsRow w.heap.size 25 1 (.slice A nl c) nl (cellsI .u16 left)
  below : Below w.heap.size w wr
theorem LInv.len {w wr : World} {A : Option Addr} {nl c : Nat} {left : List Nat} (h : LInv w A nl c left wr) : left.length = nl := by
  have := h.own.1
  rw [cellsI_length] at this
  omega
theorem LInv.drewN {w wr : World} {A : Option Addr} {nl c : Nat} {left : List Nat} (h : LInv w A nl c left wr) (q : Nat) : LInv w A nl c left (wr.drewN q) :=
  ⟨own_frm h.own ((Frm.refl (fun _ => False) wr).drewN q) (fun _ _ h => h), below_drewN h.below _⟩
theorem LInv.add {w w1 w2 : World} {A A2 : Option Addr} {nl c c2 x : Nat} {left : List Nat} (h : LInv w A nl c left w1) (o : Obj)
    (hown : w2.ownsRow w.heap.size 25 1 (.slice A2 (nl + 1) c2) (nl + 1) (cellsI .u16 left ++ [.int .u16 (x : Int)])) (hg : (w1.alloc o).grownBy w2 (Value.slice A nl c).ownBlock) : LInv w A2 (nl + 1) c2 (left ++ [x]) w2 := by
  have F : Frm (fun j => some j = (Value.slice A nl c).ownBlock) w1 w2 := (Frm.alloc w1 o (fun j => some j = (Value.slice A nl c).ownBlock)).trans (Frm.of_grown hg) (fun _ _ h => h)
  refine ⟨?_, h.below.trans (F.below h.below.size (fun j hj => (own_ge h.own j hj.symm).1))⟩
  rw [cellsI_append]
  exact hown
theorem LInv.more {w w1 : World} {A : Option Addr} {nl c : Nat} {left : List Nat} (h : LInv w A nl c left w1) (o : Obj) : (w1.alloc o).ownsRow w.heap.size 25 1 (.slice A nl c) nl (cellsI .u16 left) := own_frm h.own (Frm.alloc w1 o (fun _ => False)) (fun _ _ h => h)
theorem LInv.le {w w1 : World} {A : Option Addr} {nl c : Nat} {left : List Nat} (h : LInv w A nl c left w1) (o : Obj) : w.heap.size ≤ (w1.alloc o).heap.size := by have := h.below.size; simp; omega
theorem own_cap {w : World} {base n c : Nat} {e : TypeId} {A : Option Addr} {xs : List Value} (h : w.ownsRow base e 1 (.slice A n c) n xs) : n ≤ c := by
  rcases h.2 with ⟨hv, _⟩ | ⟨g, cap, cur, hv, hb, hg, h1, _⟩
  · injection hv with _ h1 h2
    omega
  · injection hv with _ _ hc
    subst hc
    exact h1
theorem take_snoc {l : List Nat} {k : Nat} (h : k < l.length) : l.take (k + 1) = l.take k ++ [l.getD k 0] := by
  rw [List.take_succ_eq_append_getElem h, List.getD_eq_getElem?_getD, List.getElem?_eq_getElem h]; rfl
end Go.Proofs.Ytpcnnkgfemdnlaa
