/-
  route, over lists: what a fault is, which nodes are left, and what is taken of them.
-/
import Derived.Test.YtpcnnkgfemdnlaaSq
namespace Go.Proofs.Ytpcnnkgfemdnlaa
set_option linter.unusedVariables false
open Go.RowKit

/-- Nodes rise. -/
def Rise (l : List Nat) : Prop := ∀ i, i + 1 < l.length → l.getD i 0 < l.getD (i + 1) 0
/-- All but the last one. -/
def others (nodes : List Nat) (last : Nat) : List Nat := nodes.filter fun x => x != last
/-- Behind i words: who was taken, and who is left. -/
def takes (ws left : List Nat) : Nat → List Nat × List Nat
  | 0 => ([], left)
  | i + 1 => ((takes ws left i).1 ++ [(takes ws left i).2.getD (ws.getD i 0 % (takes ws left i).2.length) 0], (takes ws left i).2.eraseIdx (ws.getD i 0 % (takes ws left i).2.length))
def outs (ws left : List Nat) (i : Nat) : List Nat := (takes ws left i).1
def lefts (ws left : List Nat) (i : Nat) : List Nat := (takes ws left i).2
theorem outs_zero (ws left : List Nat) : outs ws left 0 = [] := rfl
theorem lefts_zero (ws left : List Nat) : lefts ws left 0 = left := rfl
theorem outs_succ (ws left : List Nat) (i : Nat) : outs ws left (i + 1) = outs ws left i ++ [(lefts ws left i).getD (ws.getD i 0 % (lefts ws left i).length) 0] := rfl
theorem lefts_succ (ws left : List Nat) (i : Nat) : lefts ws left (i + 1) = (lefts ws left i).eraseIdx (ws.getD i 0 % (lefts ws left i).length) := rfl
theorem outs_length (ws left : List Nat) : ∀ i, (outs ws left i).length = i
  | 0 => rfl
  | i + 1 => by rw [outs_succ, List.length_append, outs_length ws left i]; rfl
theorem lefts_length (ws left : List Nat) : ∀ i, i ≤ left.length → (lefts ws left i).length = left.length - i
  | 0, _ => rfl
  | i + 1, h => by
    have ih := lefts_length ws left i (by omega)
    rw [lefts_succ, List.length_eraseIdx, if_pos (Nat.mod_lt _ (by omega)), ih]
    omega

/-- The fault. -/
inductive Fault (nw : Nat) (nodes : List Nat) (hops : Int) (last : Nat) : Int → Prop
  | arg (h : ¬ (1 ≤ hops ∧ hops ≤ 5) ∨ 16 < nodes.length ∨ ¬ Rise nodes) : Fault nw nodes hops last 1
  | none (h0 : 1 ≤ hops) (h1 : hops ≤ 5) (h2 : nodes.length ≤ 16) (h3 : Rise nodes) (h4 : last ∉ nodes) : Fault nw nodes hops last 10
  | full (h0 : 1 ≤ hops) (h1 : hops ≤ 5) (h2 : nodes.length ≤ 16) (h3 : Rise nodes) (h4 : last ∈ nodes) (h5 : (nodes.length : Int) < hops) : Fault nw nodes hops last 8
  | short (h0 : 1 ≤ hops) (h1 : hops ≤ 5) (h2 : nodes.length ≤ 16) (h3 : Rise nodes) (h4 : last ∈ nodes) (h5 : hops ≤ (nodes.length : Int)) (h6 : (nw : Int) < hops - 1) : Fault nw nodes hops last 2
/-- Nothing stands against it. -/
structure Fine (nw : Nat) (nodes : List Nat) (hops : Int) (last : Nat) : Prop where
  h0 : 1 ≤ hops
  h1 : hops ≤ 5
  h2 : nodes.length ≤ 16
  h3 : Rise nodes
  h4 : last ∈ nodes
  h5 : hops ≤ (nodes.length : Int)
  h6 : hops - 1 ≤ (nw : Int)
theorem fine_or (nw : Nat) (nodes : List Nat) (hops : Int) (last : Nat) : Fine nw nodes hops last ∨ ∃ f, Fault nw nodes hops last f := by
  by_cases a : ¬ (1 ≤ hops ∧ hops ≤ 5) ∨ 16 < nodes.length ∨ ¬ Rise nodes
  · exact .inr ⟨1, .arg a⟩
  · obtain ⟨a1, a2⟩ := not_or.1 a
    obtain ⟨a2, a3⟩ := not_or.1 a2
    have a1 := Classical.not_not.1 a1
    have a3 := Classical.not_not.1 a3
    have a2 : nodes.length ≤ 16 := by omega
    by_cases b : last ∈ nodes
    · by_cases c : (nodes.length : Int) < hops
      · exact .inr ⟨8, .full a1.1 a1.2 a2 a3 b c⟩
      · by_cases d : (nw : Int) < hops - 1
        · exact .inr ⟨2, .short a1.1 a1.2 a2 a3 b (by omega) d⟩
        · exact .inl ⟨a1.1, a1.2, a2, a3, b, by omega, by omega⟩
    · exact .inr ⟨10, .none a1.1 a1.2 a2 a3 b⟩
theorem Fault.pos {nw : Nat} {nodes : List Nat} {hops : Int} {last : Nat} {f : Int} (h : Fault nw nodes hops last f) : 1 ≤ f ∧ f ≤ 10 := by cases h <;> omega

theorem rise_pairwise : ∀ {l : List Nat}, Rise l → l.Pairwise (· < ·)
  | [], _ => .nil
  | a :: l, h => by
    have hl : Rise l := fun i hi => by
      have := h (i + 1) (by simp only [List.length_cons]; omega)
      simpa using this
    refine List.pairwise_cons.2 ⟨fun b hb => ?_, rise_pairwise hl⟩
    have hp := rise_pairwise hl
    cases l with
    | nil => cases hb
    | cons c l =>
      have h0 := h 0 (by simp)
      simp at h0
      rcases List.mem_cons.1 hb with rfl | hb
      · exact h0
      · have := (List.pairwise_cons.1 hp).1 b hb
        omega
theorem rise_nodup {l : List Nat} (h : Rise l) : l.Nodup := (rise_pairwise h).imp (fun h => Nat.ne_of_lt h)
theorem others_nodup {l : List Nat} (h : Rise l) (last : Nat) : (others l last).Nodup := (rise_nodup h).filter _
theorem others_mem {l : List Nat} {last x : Nat} : x ∈ others l last ↔ x ∈ l ∧ x ≠ last := by simp [others]
theorem others_length {l : List Nat} (h : Rise l) {last : Nat} (hm : last ∈ l) : (others l last).length = l.length - 1 := by
  have h1 := (rise_nodup h).erase_eq_filter last
  unfold others
  rw [← h1, List.length_erase_of_mem hm]
theorem others_none {l : List Nat} {last : Nat} (hm : last ∉ l) : others l last = l := by
  unfold others
  rw [List.filter_eq_self]
  intro a ha
  simp
  rintro rfl
  exact hm ha
theorem others_snoc (l : List Nat) (last x : Nat) : others (l ++ [x]) last = others l last ++ (if x = last then [] else [x]) := by
  unfold others
  rw [List.filter_append]
  by_cases h : x = last
  · simp [h]
  · simp [h]

theorem erase_perm : ∀ {L : List Nat} {p : Nat} (h : p < L.length), (L[p] :: L.eraseIdx p).Perm L
  | a :: l, 0, _ => .refl _
  | a :: l, p + 1, h => by
    have ih := erase_perm (L := l) (p := p) (by simpa using h)
    simp only [List.getElem_cons_succ, List.eraseIdx_cons_succ]
    exact (List.Perm.swap _ _ _).trans (ih.cons a)
theorem takes_perm (ws left : List Nat) : ∀ i, i ≤ left.length → (outs ws left i ++ lefts ws left i).Perm left
  | 0, _ => .refl _
  | i + 1, h => by
    have ih := takes_perm ws left i (by omega)
    have hl := lefts_length ws left i (by omega)
    have hp : ws.getD i 0 % (lefts ws left i).length < (lefts ws left i).length := Nat.mod_lt _ (by omega)
    rw [outs_succ, lefts_succ]
    generalize ws.getD i 0 % (lefts ws left i).length = p at *
    generalize lefts ws left i = L at *
    generalize outs ws left i = O at *
    refine List.Perm.trans ?_ ih
    rw [List.append_assoc]
    refine List.Perm.append_left O ?_
    rw [List.getD_eq_getElem?_getD, List.getElem?_eq_getElem hp]
    exact erase_perm hp
theorem outs_nodup {ws left : List Nat} {i : Nat} (hi : i ≤ left.length) (hn : left.Nodup) : (outs ws left i).Nodup :=
  (List.nodup_append.1 ((takes_perm ws left i hi).nodup_iff.2 hn)).1
theorem outs_mem {ws left : List Nat} {i : Nat} (hi : i ≤ left.length) {x : Nat} (hx : x ∈ outs ws left i) : x ∈ left :=
  (takes_perm ws left i hi).mem_iff.1 (List.mem_append_left _ hx)

/-- The route. -/
def routeL (ws nodes : List Nat) (hops : Int) (last : Nat) : List Nat := outs ws (others nodes last) (hops - 1).toNat ++ [last]
theorem routeL_length {ws nodes : List Nat} {hops : Int} {last : Nat} (h : 1 ≤ hops) : ((routeL ws nodes hops last).length : Int) = hops := by
  rw [routeL, List.length_append, outs_length]
  simp
  omega

/-- Of words that begin alike so is what is taken. -/
theorem takes_same {ws vs left : List Nat} : ∀ i, (∀ j, j < i → ws.getD j 0 = vs.getD j 0) → takes ws left i = takes vs left i
  | 0, _ => rfl
  | i + 1, h => by rw [takes, takes, takes_same i (fun j hj => h j (by omega)), h i (by omega)]
theorem outs_take (ws left : List Nat) (i : Nat) : ∀ j, (outs ws left (i + j)).take i = outs ws left i
  | 0 => by rw [Nat.add_zero, List.take_of_length_le (by rw [outs_length]; exact Nat.le_refl _)]
  | j + 1 => by
    rw [← Nat.add_assoc, outs_succ, List.take_append_of_le_length (by rw [outs_length]; omega), outs_take ws left i j]
end Go.Proofs.Ytpcnnkgfemdnlaa
