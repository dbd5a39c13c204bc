/-
  The document's directory over lists: one more in its place; what it reads.
-/
import Derived.Test.YtjicnfkodieaaaaDoorDrL
import Derived.Test.YtjicnfkodieaaaaDoorDr9
namespace Go.Proofs.YtjicnfkodieaaaaDoor
set_option linter.unusedVariables false
set_option linter.unusedSimpArgs false
open Go.RowKit

theorem insL_at (r : Rec) : ∀ (D : List Rec) (p : Nat), p ≤ D.length → (∀ j, j < p → (D.getD j default).lt r) → (p < D.length → ¬ (D.getD p default).lt r) → insL r D = D.take p ++ r :: D.drop p
  | [], p, h, _, _ => by simp [insL]
  | x :: D, 0, _, _, h => by
    unfold insL
    have hx : ¬ x.lt r := h (by simp)
    rw [if_neg hx]
    rfl
  | x :: D, p + 1, h1, h2, h3 => by
    have hx : x.lt r := h2 0 (by omega)
    unfold insL
    rw [if_pos hx, insL_at r D p (by simpa using h1) (fun j hj => h2 (j + 1) (by omega)) (fun hl => h3 (by simpa using hl))]
    rfl
/-- They have an epoch in common, as the document says it. -/
def clashP (x r : Rec) : Prop := x.a = r.a ∧ max x.f r.f ≤ min x.t r.t
instance (x r : Rec) : Decidable (clashP x r) := inferInstanceAs (Decidable (_ ∧ _))
theorem clash_iff {x r : Rec} (hx : x.f ≤ x.t) (hr : r.f ≤ r.t) : clashP x r ↔ (decide (x.a = r.a) && x.meets r.f r.t) = true := by
  simp only [clashP, Rec.meets, Bool.and_eq_true, decide_eq_true_eq]
  omega
/-- Where the document's Add stands: of the first k none has an epoch in common; p of them stand ahead. -/
structure AtInv (D : List Rec) (r : Rec) (k p : Nat) : Prop where
  le : p ≤ k
  no : ∀ j, j < k → ¬ clashP (D.getD j default) r
  lt : ∀ j, j < p → (D.getD j default).lt r
  ge : ∀ j, p ≤ j → j < k → ¬ (D.getD j default).lt r
theorem AtInv.zero (D : List Rec) (r : Rec) : AtInv D r 0 0 := ⟨Nat.le_refl _, fun j h => absurd h (by omega), fun j h => absurd h (by omega), fun j _ h => absurd h (by omega)⟩
theorem getD_lt_of {D : List Rec} (h : D.Pairwise Rec.lt) {i j : Nat} (hij : i < j) (hj : j < D.length) : (D.getD i default).lt (D.getD j default) := by
  have := List.pairwise_iff_getElem.1 h i j (by omega) hj hij
  rw [List.getD_eq_getElem?_getD, List.getD_eq_getElem?_getD, List.getElem?_eq_getElem (by omega), List.getElem?_eq_getElem hj]
  exact this
theorem AtInv.yes {D : List Rec} {r : Rec} {k p : Nat} (h : AtInv D r k p) (hD : D.Pairwise Rec.lt) (hk : k < D.length) (hc : ¬ clashP (D.getD k default) r) (hl : (D.getD k default).lt r) : AtInv D r (k + 1) (k + 1) := by
  refine ⟨Nat.le_refl _, fun j hj => ?_, fun j hj => ?_, fun j h1 h2 => absurd h1 (by omega)⟩
  · by_cases e : j = k
    · subst e; exact hc
    · exact h.no j (by omega)
  · by_cases e : j = k
    · subst e; exact hl
    · exact lt_trans (getD_lt_of hD (by omega : j < k) hk) hl
theorem AtInv.nope {D : List Rec} {r : Rec} {k p : Nat} (h : AtInv D r k p) (hc : ¬ clashP (D.getD k default) r) (hl : ¬ (D.getD k default).lt r) : AtInv D r (k + 1) p := by
  refine ⟨by have := h.le; omega, fun j hj => ?_, h.lt, fun j h1 h2 => ?_⟩
  · by_cases e : j = k
    · subst e; exact hc
    · exact h.no j (by omega)
  · by_cases e : j = k
    · subst e; exact hl
    · exact h.ge j h1 (by omega)
theorem getD_mem {D : List Rec} {k : Nat} (hk : k < D.length) : D.getD k default ∈ D := by
  rw [List.getD_eq_getElem?_getD, List.getElem?_eq_getElem hk]
  exact List.getElem_mem _
theorem why_clash {D : List Rec} (h : DirOk D) {r : Rec} (h1 : r.a < 16) (h2 : r.f ≤ r.t) {k : Nat} (hk : k < D.length) (hc : clashP (D.getD k default) r) : whyL D r = 12 := by
  have hm := getD_mem hk
  have := (clash_iff (h.ok _ hm).ft h2).1 hc
  have hp : 0 < (withinL D r.a r.f r.t).length := List.length_pos_of_mem (List.mem_filter.2 ⟨hm, this⟩)
  unfold whyL
  rw [if_neg (by omega), if_pos hp]
theorem AtInv.none {D : List Rec} {r : Rec} {p : Nat} (i : AtInv D r D.length p) (h : DirOk D) (h2 : r.f ≤ r.t) : withinL D r.a r.f r.t = [] := by
  refine List.filter_eq_nil_iff.2 fun x hx hy => ?_
  obtain ⟨j, hj, e⟩ := List.getElem_of_mem hx
  have e2 : D.getD j default = x := by rw [List.getD_eq_getElem?_getD, List.getElem?_eq_getElem hj]; exact e
  have := i.no j hj
  rw [e2] at this
  exact this ((clash_iff (h.ok _ hx).ft h2).2 hy)
theorem AtInv.full {D : List Rec} {r : Rec} {p : Nat} (i : AtInv D r D.length p) (h : DirOk D) (h1 : r.a < 16) (h2 : r.f ≤ r.t) (h3 : 64 ≤ D.length) : whyL D r = 8 := by
  unfold whyL
  rw [if_neg (by omega), if_neg (by rw [i.none h h2]; simp), if_pos h3]
theorem AtInv.fits {D : List Rec} {r : Rec} {p : Nat} (i : AtInv D r D.length p) (h : DirOk D) (h1 : r.a < 16) (h2 : r.f ≤ r.t) (h3 : D.length < 64) : whyL D r = 0 ∧ addL D r = D.take p ++ r :: D.drop p := by
  have e : whyL D r = 0 := by
    unfold whyL
    rw [if_neg (by omega), if_neg (by rw [i.none h h2]; simp), if_neg (by omega)]
  refine ⟨e, ?_⟩
  unfold addL
  rw [if_pos e]
  exact insL_at r D p i.le i.lt (fun hl => i.ge p (Nat.le_refl _) hl)
/-- The document asks in another way whether one may stand behind the last. -/
theorem step_iff2 {D : List Rec} (h : DirOk D) {x : Rec} (hx : x.in32) : DirOk (D ++ [x]) ↔ (D = [] ∨ ¬ x.lt (D.getLastD default)) ∧ whyL D x = 0 := by
  rw [step_iff h hx]
  constructor
  · rintro ⟨h1, h2⟩
    exact ⟨h1.imp id (fun h3 h4 => lt_irrefl _ (lt_trans h3 h4)), h2⟩
  · rintro ⟨h1, h2⟩
    refine ⟨?_, h2⟩
    rcases h1 with h1 | h1
    · exact .inl h1
    · rcases List.eq_nil_or_concat D with h0 | ⟨D', z, h0⟩
      · exact .inl h0
      · right
        have e : D.getLastD default = z := by rw [h0]; simp
        have hz : z ∈ D := by rw [h0]; simp
        rw [e] at h1 ⊢
        obtain ⟨w1, w2, w3, w4⟩ := whyL_zero h2
        have h5 := (h.ok z hz).ft
        have h6 := w3 z hz
        unfold Rec.lt at h1 ⊢
        by_cases ha : z.a = x.a
        · have := h6 ha
          omega
        · omega
end Go.Proofs.YtjicnfkodieaaaaDoor
