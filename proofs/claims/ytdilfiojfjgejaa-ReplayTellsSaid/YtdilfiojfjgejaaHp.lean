/-
  Short forms of the held region's laws.
-/
import Derived.Test.YtdilfiojfjgejaaRows
import Derived.Deep.RegionHeld
import Derived.KernelRfl
namespace Go.Proofs.Ytdilfiojfjgejaa

theorem PTs {α : Type} : (∀ {l : List α} {i : Nat} (h : i < l.toArray.size), l.toArray[i]'h = l[i]'(by simpa using h)) ∧ (∀ {a : α} {l : List α} (h : 0 < (a :: l).length), (a :: l)[0]'h = a) ∧ (∀ {a : α} {l : List α} {i : Nat} (h : i + 1 < (a :: l).length), (a :: l)[i + 1]'h = l[i]'(Nat.lt_of_succ_lt_succ h)) ∧ (∀ {l : List α} {i : Nat} {x : α}, l.toArray.setIfInBounds i x = (l.set i x).toArray) ∧ (∀ {a b : α} {l : List α}, (a :: l).set 0 b = b :: l) ∧ (∀ {a b : α} {l : List α} {i : Nat}, (a :: l).set (i + 1) b = a :: l.set i b) :=
  ⟨fun h => List.getElem_toArray h, fun _ => rfl, fun _ => rfl, List.setIfInBounds_toArray _ _ _, rfl, rfl⟩
section
variable {P : Program} {ops : Array Oper} {Q : Exit → Act → World → Prop} {md : Region.Mode} {S : World → Prop} {fuel : Nat} {listed : Array Bool} {a : Act} {w : World}
/-- Take one that yields. -/
theorem tkH (i : Nat) {oi : Oper} {v : Value} (hi : ops[i]? = some oi) (hy : ∀ w, S w → (execOp a.eval oi).run P w = .ok (.value v) w)
    (h : wpAnyH P md ops Q S fuel (listed.setIfInBounds i true) (a.put oi.dst v) w)
    (hs : Region.noSelect ops = true := by kernel_rfl) (hf : Region.free md ops listed i = true := by kernel_rfl) (hr : (Region.ready md ops listed).contains i = true := by kernel_rfl)
    (hQ : ∀ c a w, Q (.panic c) (a.put oi.dst v) w → Q (.panic c) a w := by exact fun _ _ _ h => h) (hw : Region.wanted oi (yielded ops a.tmps) = true := by rfl) (hS : S w := by assumption) : wpAnyH P md ops Q S (fuel + 1) listed a w :=
  wpAnyH_take hi hs hf hr hQ (Or.inl ⟨hw, hy⟩) hS h
/-- The one that comes up now. -/
theorem rdH (i : Nat) {o : Oper} (ho : ops[i]? = some o) (hr : Region.ready md ops listed = [i])
    (h : ∀ K' : Act → World → Prop, Shut (∀ a w, S w → (S w → wpAnyH P md ops Q S fuel (listed.setIfInBounds i true) a w) → K' a w) → if Region.wanted o (yielded ops a.tmps) = true then Oper.wp P o a w K' Q else K' (a.put o.dst undef) w) : wpAnyH P md ops Q S (fuel + 1) listed a w :=
  wpAnyH_ready hr (by simp) (AllReadyH.cons ho h AllReadyH.nil)
end
end Go.Proofs.Ytdilfiojfjgejaa
