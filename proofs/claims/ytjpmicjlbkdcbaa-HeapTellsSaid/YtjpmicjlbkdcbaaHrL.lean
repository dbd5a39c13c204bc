/-
  The document's own heap over lists: things in the order in which they went in, and where the first one of them stands.
-/
import Derived.Test.YtjpmicjlbkdcbaaHqL
namespace Go.Proofs.Ytjpmicjlbkdcbaa
set_option linter.unusedVariables false
set_option linter.unusedSimpArgs false

/-- A row in the order in which things went in, beside a queue. -/
def LikeR (R S : List Th) : Prop := R.Perm S ∧ R.Pairwise (fun a b => a.n < b.n) ∧ Sorted S
theorem LikeR.nil : LikeR [] [] := ⟨.refl _, List.Pairwise.nil, List.Pairwise.nil⟩
theorem LikeR.length {R S : List Th} (h : LikeR R S) : R.length = S.length := h.1.length_eq
theorem LikeR.push {R S : List Th} {x : Th} (h : LikeR R S) (hn : ∀ y ∈ S, y.n < x.n) : LikeR (R ++ [x]) (insT x S) := by
  refine ⟨(List.perm_append_comm (l₁ := R) (l₂ := [x])).trans ((h.1.cons x).trans (insT_perm x S).symm), ?_, insT_sorted h.2.2 (fun y hy => Nat.ne_of_lt (hn y hy))⟩
  rw [List.pairwise_append]
  refine ⟨h.2.1, List.pairwise_singleton .., fun a ha b hb => ?_⟩
  obtain rfl : b = x := by simpa using hb
  exact hn a (h.1.mem_iff.1 ha)
/-- The place of the first one among the first i. -/
def minAt (R : List Th) : Nat → Option Nat
  | 0 => none
  | i + 1 => match minAt R i with
    | none => some i
    | some k => if (at_ R i).t < (at_ R k).t then some i else some k
theorem minAt_none {R : List Th} : ∀ {i}, minAt R i = none → i = 0
  | 0, _ => rfl
  | i + 1, h => by
    unfold minAt at h
    cases hm : minAt R i with
    | none => rw [hm] at h; cases h
    | some k => rw [hm] at h; simp only at h; split at h <;> cases h
theorem minAt_some {R : List Th} (hp : R.Pairwise (fun a b => a.n < b.n)) : ∀ {i k}, i ≤ R.length → minAt R i = some k → k < i ∧ ∀ j, j < i → ¬ (at_ R j).lt (at_ R k)
  | 0, k, _, h => by cases h
  | i + 1, k, hi, h => by
    unfold minAt at h
    cases hm : minAt R i with
    | none =>
      rw [hm] at h
      injection h with h
      subst h
      have := minAt_none hm
      subst this
      refine ⟨by omega, fun j hj => ?_⟩
      obtain rfl : j = 0 := by omega
      exact Th.irrefl _
    | some m =>
      rw [hm] at h
      simp only at h
      obtain ⟨h1, h2⟩ := minAt_some hp (by omega) hm
      split at h
      · rename_i hlt
        injection h with h
        subst h
        refine ⟨by omega, fun j hj => ?_⟩
        rcases Nat.lt_or_ge j i with h' | h'
        · have h3 := h2 j h'
          unfold Th.lt at *
          omega
        · obtain rfl : j = i := by omega
          exact Th.irrefl _
      · rename_i hlt
        injection h with h
        subst h
        refine ⟨by omega, fun j hj => ?_⟩
        rcases Nat.lt_or_ge j i with h' | h'
        · exact h2 j h'
        · obtain rfl : j = i := by omega
          have h3 : (at_ R m).n < (at_ R j).n := by
            rw [at_eq (show m < R.length by omega), at_eq (show j < R.length by omega)]
            exact List.pairwise_iff_getElem.1 hp m j _ _ h1
          unfold Th.lt
          omega
/-- It is the queue's first one. -/
theorem LikeR.first {R S : List Th} {s : Th} (h : LikeR R (s :: S)) {k : Nat} (hk : minAt R R.length = some k) : k < R.length ∧ at_ R k = s := by
  obtain ⟨h1, h2⟩ := minAt_some h.2.1 (Nat.le_refl _) hk
  refine ⟨h1, ?_⟩
  have hm : at_ R k ∈ s :: S := h.1.mem_iff.1 (at_mem h1)
  rcases List.mem_cons.1 hm with e | hm
  · exact e
  · have h3 := (List.pairwise_cons.1 h.2.2).1 _ hm
    obtain ⟨i, hi, e⟩ := List.getElem_of_mem (h.1.mem_iff.2 (List.mem_cons_self (a := s) (l := S)))
    have h4 := h2 i hi
    rw [at_eq hi, e] at h4
    exact absurd h3 h4
theorem LikeR.some {R S : List Th} {s : Th} (h : LikeR R (s :: S)) : ∃ k, minAt R R.length = some k ∧ k < R.length ∧ at_ R k = s := by
  cases hm : minAt R R.length with
  | none => have := minAt_none hm; have := h.length; simp at this; omega
  | some k => exact ⟨k, rfl, h.first hm⟩
theorem LikeR.none {R : List Th} (h : LikeR R []) : R = [] := List.eq_nil_of_length_eq_zero (by have := h.length; simpa using this)
/-- Without it. -/
theorem LikeR.pop {R S : List Th} {s : Th} (h : LikeR R (s :: S)) {k : Nat} (hk : k < R.length) (hs : at_ R k = s) : LikeR (R.take k ++ R.drop (k + 1)) S := by
  have e : R.take k ++ s :: R.drop (k + 1) = R := by rw [← hs, at_eq hk, ← List.drop_eq_getElem_cons hk, List.take_append_drop]
  refine ⟨?_, ?_, (List.pairwise_cons.1 h.2.2).2⟩
  · have h1 : (s :: (R.take k ++ R.drop (k + 1))).Perm (s :: S) := by
      refine List.Perm.trans ?_ h.1
      conv => rhs; rw [← e]
      exact List.perm_middle.symm
    exact h1.cons_inv
  · refine h.2.1.sublist ?_
    conv => rhs; rw [← e]
    exact (List.Sublist.refl _).append (List.sublist_cons_self _ _)
/-- The place as the document tells it. -/
def minV : Option Nat → Int
  | .none => -1
  | .some k => (k : Int)
end Go.Proofs.Ytjpmicjlbkdcbaa
