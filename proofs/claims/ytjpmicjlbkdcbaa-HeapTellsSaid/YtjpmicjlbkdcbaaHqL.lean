/-
  Heaps over lists: things with a tick and a number; what rises and sinks; a queue's things in order.
-/
namespace Go.Proofs.Ytjpmicjlbkdcbaa
set_option linter.unusedVariables false
set_option linter.unusedSimpArgs false

structure Th where
  t : Nat
  n : Nat
  x : Int
deriving Inhabited, DecidableEq
/-- Whose turn is ahead. -/
def Th.lt (a b : Th) : Prop := a.t < b.t ∨ (a.t = b.t ∧ a.n < b.n)
instance (a b : Th) : Decidable (a.lt b) := inferInstanceAs (Decidable (a.t < b.t ∨ (a.t = b.t ∧ a.n < b.n)))
theorem Th.irrefl (a : Th) : ¬ a.lt a := by unfold Th.lt; omega
theorem Th.asymm {a b : Th} (h : a.lt b) : ¬ b.lt a := by unfold Th.lt at *; omega
theorem Th.trans {a b c : Th} (h : a.lt b) (k : b.lt c) : a.lt c := by unfold Th.lt at *; omega
/-- not ahead of what is not ahead .. -/
theorem Th.nn {a b c : Th} (h : ¬ a.lt b) (k : ¬ b.lt c) : ¬ a.lt c := by unfold Th.lt at *; omega
theorem Th.ln {a b c : Th} (h : ¬ a.lt b) (k : c.lt b) : ¬ a.lt c := by unfold Th.lt at *; omega
theorem Th.tri {a b : Th} (h : ¬ a.lt b) (hn : a.n ≠ b.n) : b.lt a := by unfold Th.lt at *; omega

/-- The thing at a place. -/
def at_ (L : List Th) (i : Nat) : Th := L.getD i default
def swapT (L : List Th) (i j : Nat) : List Th := (L.set i (at_ L j)).set j (at_ L i)
theorem swapT_length (L : List Th) (i j : Nat) : (swapT L i j).length = L.length := by simp [swapT]
theorem at_eq {L : List Th} {i : Nat} (h : i < L.length) : at_ L i = L[i] := by simp [at_, h]
theorem at_mem {L : List Th} {i : Nat} (h : i < L.length) : at_ L i ∈ L := by rw [at_eq h]; exact List.getElem_mem h
theorem at_get {L : List Th} {i : Nat} {x : Th} (h : L[i]? = some x) : at_ L i = x := by simp [at_, List.getD_eq_getElem?_getD, h]
theorem at_of {L : List Th} {i : Nat} (h : i < L.length) : L[i]? = some (at_ L i) := by rw [at_eq h]; exact List.getElem?_eq_getElem h
theorem at_set (L : List Th) (i k : Nat) (x : Th) (hi : i < L.length) : at_ (L.set i x) k = if k = i then x else at_ L k := by
  unfold at_
  rw [List.getD_eq_getElem?_getD, List.getElem?_set]
  by_cases h : i = k
  · subst h; simp [hi]
  · rw [if_neg h, if_neg (fun e => h e.symm), ← List.getD_eq_getElem?_getD]
theorem at_swap (L : List Th) (i j k : Nat) (hi : i < L.length) (hj : j < L.length) : at_ (swapT L i j) k = if k = j then at_ L i else if k = i then at_ L j else at_ L k := by
  unfold swapT
  rw [at_set _ _ _ _ (by simpa using hj), at_set _ _ _ _ hi]
theorem swapT_perm (L : List Th) (i j : Nat) (hi : i < L.length) (hj : j < L.length) : (swapT L i j).Perm L := by
  unfold swapT
  rw [at_eq hi, at_eq hj]
  exact List.set_set_perm hi hj
theorem swapT_ne (L : List Th) (i j : Nat) (h : i ≠ j) : swapT L i j = (L.set j (at_ L i)).set i (at_ L j) := by
  unfold swapT
  rw [List.set_comm _ _ h]

/-- No place's turn is ahead of that above it. -/
def HeapL (L : List Th) : Prop := ∀ i, 0 < i → i < L.length → ¬ (at_ L i).lt (at_ L ((i - 1) / 2))
/-- .. but perhaps at one place. -/
def RiseL (L : List Th) (p : Nat) : Prop := p < L.length ∧ (∀ i, 0 < i → i < L.length → i ≠ p → ¬ (at_ L i).lt (at_ L ((i - 1) / 2))) ∧ ∀ i, 0 < i → i < L.length → (i - 1) / 2 = p → 0 < p → ¬ (at_ L i).lt (at_ L ((p - 1) / 2))
/-- .. but perhaps below one place. -/
def SinkL (L : List Th) (p : Nat) : Prop := (∀ i, 0 < i → i < L.length → (i - 1) / 2 ≠ p → ¬ (at_ L i).lt (at_ L ((i - 1) / 2))) ∧ ∀ i, 0 < i → i < L.length → (i - 1) / 2 = p → 0 < p → ¬ (at_ L i).lt (at_ L ((p - 1) / 2))

theorem RiseL.done {L : List Th} {p : Nat} (h : RiseL L p) (hp : p = 0 ∨ ¬ (at_ L p).lt (at_ L ((p - 1) / 2))) : HeapL L := by
  intro i h0 hi
  by_cases e : i = p
  · subst e
    rcases hp with hp | hp
    · omega
    · exact hp
  · exact h.2.1 i h0 hi e
theorem RiseL.step {L : List Th} {p : Nat} (h : RiseL L p) (h0 : 0 < p) (hlt : (at_ L p).lt (at_ L ((p - 1) / 2))) : RiseL (swapT L p ((p - 1) / 2)) ((p - 1) / 2) := by
  obtain ⟨hp, h1, h2⟩ := h
  have hq : (p - 1) / 2 < p := by omega
  have hql : (p - 1) / 2 < L.length := by omega
  refine ⟨by rw [swapT_length]; exact hql, fun i hi hl hne => ?_, fun i hi hl hpar hpp => ?_⟩
  · rw [swapT_length] at hl
    rw [at_swap _ _ _ _ hp hql, at_swap _ _ _ _ hp hql, if_neg hne]
    by_cases e : i = p
    · subst e
      rw [if_pos rfl, if_pos rfl]
      exact Th.asymm hlt
    · rw [if_neg e]
      by_cases e2 : (i - 1) / 2 = (p - 1) / 2
      · rw [if_pos e2]
        have := h1 i hi hl e
        rw [e2] at this
        exact Th.ln this hlt
      · rw [if_neg e2]
        by_cases e3 : (i - 1) / 2 = p
        · rw [if_pos e3]
          exact h2 i hi hl e3 h0
        · rw [if_neg e3]
          exact h1 i hi hl e
  · rw [swapT_length] at hl
    rw [at_swap _ _ _ _ hp hql, at_swap _ _ _ _ hp hql, if_neg (by omega), if_neg (show ¬ ((p - 1) / 2 - 1) / 2 = (p - 1) / 2 by omega), if_neg (show ¬ ((p - 1) / 2 - 1) / 2 = p by omega)]
    have hq1 := h1 ((p - 1) / 2) hpp hql (by omega)
    by_cases e : i = p
    · rw [if_pos e]
      exact hq1
    · rw [if_neg e]
      have := h1 i hi hl e
      rw [hpar] at this
      exact Th.nn this hq1
theorem SinkL.done {L : List Th} {p : Nat} (h : SinkL L p) (hp : ∀ i, 0 < i → i < L.length → (i - 1) / 2 = p → ¬ (at_ L i).lt (at_ L p)) : HeapL L := by
  intro i h0 hi
  by_cases e : (i - 1) / 2 = p
  · rw [e]
    exact hp i h0 hi e
  · exact h.1 i h0 hi e
theorem SinkL.step {L : List Th} {p f : Nat} (h : SinkL L p) (hf : f < L.length) (hpar : f = 2 * p + 1 ∨ f = 2 * p + 2) (hp : ∀ i, 0 < i → i < L.length → (i - 1) / 2 = p → ¬ (at_ L i).lt (at_ L f)) (hlt : (at_ L f).lt (at_ L p)) : SinkL (swapT L p f) f := by
  obtain ⟨h1, h2⟩ := h
  have hpl : p < L.length := by omega
  refine ⟨fun i hi hl hne => ?_, fun i hi hl hpar' hpp => ?_⟩
  · rw [swapT_length] at hl
    rw [at_swap _ _ _ _ hpl hf, at_swap _ _ _ _ hpl hf, if_neg hne]
    by_cases e : (i - 1) / 2 = p
    · rw [if_pos e]
      by_cases e2 : i = f
      · rw [if_pos e2]
        exact Th.asymm hlt
      · rw [if_neg e2, if_neg (by omega)]
        exact hp i hi hl e
    · rw [if_neg e]
      by_cases e2 : i = f
      · omega
      · rw [if_neg e2]
        by_cases e3 : i = p
        · subst e3
          rw [if_pos rfl]
          exact h2 f (by omega) hf (by omega) hi
        · rw [if_neg e3]
          exact h1 i hi hl e
  · rw [swapT_length] at hl
    rw [at_swap _ _ _ _ hpl hf, at_swap _ _ _ _ hpl hf, if_neg (by omega), if_neg (by omega), if_neg (by omega), if_pos (by omega)]
    have := h1 i hi hl (by omega)
    rw [hpar'] at this
    exact this
/-- The first one is first. -/
theorem HeapL.root {L : List Th} (h : HeapL L) : ∀ i, i < L.length → ¬ (at_ L i).lt (at_ L 0) := by
  intro i
  induction i using Nat.strongRecOn with
  | ind i ih =>
    intro hi
    rcases Nat.eq_zero_or_pos i with rfl | h0
    · exact Th.irrefl _
    · exact Th.nn (h i h0 hi) (ih ((i - 1) / 2) (by omega) (by omega))
theorem HeapL.push {L : List Th} (h : HeapL L) (x : Th) : RiseL (L ++ [x]) L.length := by
  have e : ∀ i, i < L.length → at_ (L ++ [x]) i = at_ L i := by
    intro i hi
    unfold at_
    rw [List.getD_eq_getElem?_getD, List.getD_eq_getElem?_getD, List.getElem?_append_left hi]
  refine ⟨by simp, fun i hi hl hne => ?_, fun i hi hl hpar hp => ?_⟩
  · simp at hl
    rw [e i (by omega), e _ (by omega)]
    exact h i hi (by omega)
  · simp at hl
    omega
/-- The last one put in the first one's place. -/
def popT (L : List Th) : List Th := (L.set 0 (at_ L (L.length - 1))).take (L.length - 1)
theorem popT_length (L : List Th) : (popT L).length = L.length - 1 := by simp [popT]
theorem popT_at {L : List Th} {i : Nat} (h0 : 0 < i) (hi : i < L.length - 1) : at_ (popT L) i = at_ L i := by
  unfold at_ popT
  rw [List.getD_eq_getElem?_getD, List.getD_eq_getElem?_getD, List.getElem?_take, if_pos hi, List.getElem?_set, if_neg (by omega)]
theorem HeapL.pop {L : List Th} (h : HeapL L) : SinkL (popT L) 0 := by
  refine ⟨fun i hi hl hne => ?_, fun i hi hl hpar hp => absurd hp (by omega)⟩
  rw [popT_length] at hl
  rw [popT_at hi hl, popT_at (by omega) (by omega)]
  exact h i hi (by omega)
theorem popT_perm {L : List Th} (h : 0 < L.length) : (at_ L 0 :: popT L).Perm L := by
  obtain ⟨x, M, rfl⟩ : ∃ x M, L = x :: M := by
    cases L with
    | nil => simp at h
    | cons x M => exact ⟨x, M, rfl⟩
  rcases List.eq_nil_or_concat M with rfl | ⟨N, y, rfl⟩
  · simp [popT, at_]
  · have e : popT (x :: (N ++ [y])) = y :: N := by
      unfold popT at_
      simp
    rw [List.concat_eq_append] at *
    rw [e]
    show (x :: y :: N).Perm (x :: (N ++ [y]))
    refine .cons _ ?_
    exact (List.perm_append_comm (l₁ := N) (l₂ := [y])).symm

/-! What a queue has, in order. -/
def Sorted (S : List Th) : Prop := S.Pairwise Th.lt
def insT (x : Th) : List Th → List Th
  | [] => [x]
  | y :: l => if x.lt y then x :: y :: l else y :: insT x l
theorem insT_perm (x : Th) : ∀ l, (insT x l).Perm (x :: l)
  | [] => .refl _
  | y :: l => by
    unfold insT
    split
    · exact .refl _
    · exact ((insT_perm x l).cons y).trans (.swap x y l)
theorem insT_length (x : Th) (l : List Th) : (insT x l).length = l.length + 1 := (insT_perm x l).length_eq
theorem insT_mem {x y : Th} {l : List Th} : y ∈ insT x l ↔ y = x ∨ y ∈ l := by rw [(insT_perm x l).mem_iff]; simp
theorem insT_sorted {x : Th} : ∀ {l : List Th}, Sorted l → (∀ y ∈ l, y.n ≠ x.n) → Sorted (insT x l)
  | [], _, _ => List.pairwise_singleton ..
  | y :: l, h, hn => by
    obtain ⟨h1, h2⟩ := List.pairwise_cons.1 h
    unfold insT
    split
    · rename_i hxy
      refine List.pairwise_cons.2 ⟨fun z hz => ?_, h⟩
      rcases List.mem_cons.1 hz with rfl | hz
      · exact hxy
      · exact Th.trans hxy (h1 z hz)
    · rename_i hxy
      refine List.pairwise_cons.2 ⟨fun z hz => ?_, insT_sorted h2 (fun z hz => hn z (List.mem_cons_of_mem _ hz))⟩
      rcases insT_mem.1 hz with rfl | hz
      · exact Th.tri hxy (fun e => hn y (List.mem_cons_self ..) e.symm)
      · exact h1 z hz

/-- A heap's row and what it has, in order. -/
def Like (L S : List Th) : Prop := L.Perm S ∧ HeapL L ∧ Sorted S
theorem Like.nil : Like [] [] := ⟨.refl _, fun i _ h => by simp at h, List.Pairwise.nil⟩
theorem Like.length {L S : List Th} (h : Like L S) : L.length = S.length := h.1.length_eq
theorem Like.head {L S : List Th} {s : Th} (h : Like L (s :: S)) : at_ L 0 = s := by
  obtain ⟨hp, hh, hs⟩ := h
  have hlen : 0 < L.length := by rw [hp.length_eq]; simp
  have hm : at_ L 0 ∈ s :: S := hp.mem_iff.1 (at_mem hlen)
  rcases List.mem_cons.1 hm with e | hm
  · exact e
  · have h1 := (List.pairwise_cons.1 hs).1 _ hm
    obtain ⟨i, hi, e⟩ := List.getElem_of_mem (hp.mem_iff.2 (List.mem_cons_self (a := s) (l := S)))
    have h2 := hh.root i hi
    rw [at_eq hi, e] at h2
    exact absurd h1 h2
theorem Like.push {L L' S : List Th} {x : Th} (h : Like L S) (hn : ∀ y ∈ S, y.n ≠ x.n) (hp : L'.Perm (L ++ [x])) (hh : HeapL L') : Like L' (insT x S) :=
  ⟨hp.trans ((List.perm_append_comm (l₁ := L) (l₂ := [x])).trans ((h.1.cons x).trans (insT_perm x S).symm)), hh, insT_sorted h.2.2 hn⟩
theorem Like.pop {L L' S : List Th} {s : Th} (h : Like L (s :: S)) (hp : L'.Perm (popT L)) (hh : HeapL L') : Like L' S := by
  have h0 := h.head
  have hlen : 0 < L.length := by rw [h.length]; simp
  refine ⟨?_, hh, (List.pairwise_cons.1 h.2.2).2⟩
  have h1 := (popT_perm hlen).trans h.1
  rw [h0] at h1
  exact hp.trans h1.cons_inv

/-- A queue: room for most, the next one's number, its things in order. -/
structure Qu where
  most : Int
  num : Nat
  S : List Th
def newQ (m : Int) : Qu := ⟨if m < 1 then 1 else m, 0, []⟩
def Qu.full (q : Qu) : Prop := q.most ≤ (q.S.length : Int)
instance (q : Qu) : Decidable q.full := inferInstanceAs (Decidable (q.most ≤ (q.S.length : Int)))
def Qu.push (q : Qu) (t : Nat) (x : Int) : Qu := if q.full then q else ⟨q.most, q.num + 1, insT ⟨t, q.num, x⟩ q.S⟩
/-- Whether one comes out. -/
def Qu.due (q : Qu) (now : Nat) : Option Th := q.S.head?.bind fun s => if now < s.t then none else some s
def Qu.pop (q : Qu) (now : Nat) : Qu := if (q.due now).isSome then ⟨q.most, q.num, q.S.tail⟩ else q
/-- What is right at any time. -/
structure Qu.ok (q : Qu) : Prop where
  sorted : Sorted q.S
  below : ∀ y ∈ q.S, y.n < q.num
  ticks : ∀ y ∈ q.S, y.t < 18446744073709551616
theorem Qu.ok.new (m : Int) : (newQ m).ok := ⟨List.Pairwise.nil, fun y h => by simp [newQ] at h, fun y h => by simp [newQ] at h⟩
theorem Qu.ok.push {q : Qu} (h : q.ok) {t : Nat} (x : Int) (ht : t < 18446744073709551616) : (q.push t x).ok := by
  unfold Qu.push
  split
  · exact h
  · refine ⟨insT_sorted h.sorted (fun y hy e => ?_), fun y hy => ?_, fun y hy => ?_⟩
    · have := h.below y hy; simp only at e; omega
    · rcases insT_mem.1 hy with rfl | hy
      · exact Nat.lt_succ_self _
      · exact Nat.lt_succ_of_lt (h.below y hy)
    · rcases insT_mem.1 hy with rfl | hy
      · exact ht
      · exact h.ticks y hy
theorem Qu.ok.pop {q : Qu} (h : q.ok) (now : Nat) : (q.pop now).ok := by
  unfold Qu.pop
  split
  · refine ⟨h.sorted.tail, fun y hy => h.below y (List.mem_of_mem_tail hy), fun y hy => h.ticks y (List.mem_of_mem_tail hy)⟩
  · exact h
theorem Qu.due_none {q : Qu} {now : Nat} (h : q.due now = none) : q.pop now = q := by unfold Qu.pop; rw [h]; rfl
theorem Qu.due_cons {q : Qu} {now : Nat} {s : Th} (h : q.due now = some s) : q.S = s :: q.S.tail ∧ s.t ≤ now ∧ q.pop now = ⟨q.most, q.num, q.S.tail⟩ := by
  refine ⟨?_, ?_, by unfold Qu.pop; rw [h]; rfl⟩ <;>
  · unfold Qu.due at h
    cases hS : q.S with
    | nil => rw [hS] at h; simp at h
    | cons a b =>
      rw [hS] at h
      simp only [List.head?_cons, Option.bind_some] at h
      split at h
      · cases h
      · injection h with h
        subst h
        first | rfl | omega
/-! Whose turn is first, of a place and the two below. -/
def firstK (L : List Th) (p : Nat) : Nat → Nat
  | 0 => p
  | k + 1 => if 2 * p + 1 + k < L.length ∧ (at_ L (2 * p + 1 + k)).lt (at_ L (firstK L p k)) then 2 * p + 1 + k else firstK L p k
theorem firstK_or (L : List Th) (p : Nat) : ∀ k, firstK L p k = p ∨ firstK L p k < L.length
  | 0 => .inl rfl
  | k + 1 => by
    unfold firstK
    split
    · rename_i h; exact .inr h.1
    · exact firstK_or L p k
theorem firstK_lt (L : List Th) (p k : Nat) (h : p < L.length) : firstK L p k < L.length := by
  rcases firstK_or L p k with e | e
  · omega
  · exact e
theorem firstK_two (L : List Th) (p : Nat) : firstK L p 2 = p ∨ firstK L p 2 = 2 * p + 1 ∨ firstK L p 2 = 2 * p + 2 := by
  have h1 : firstK L p 1 = p ∨ firstK L p 1 = 2 * p + 1 := by
    rw [show firstK L p 1 = if 2 * p + 1 + 0 < L.length ∧ (at_ L (2 * p + 1 + 0)).lt (at_ L (firstK L p 0)) then 2 * p + 1 + 0 else firstK L p 0 from rfl]
    split
    · exact .inr rfl
    · exact .inl rfl
  rw [show firstK L p 2 = if 2 * p + 1 + 1 < L.length ∧ (at_ L (2 * p + 1 + 1)).lt (at_ L (firstK L p 1)) then 2 * p + 1 + 1 else firstK L p 1 from rfl]
  split
  · exact .inr (.inr rfl)
  · rcases h1 with h | h
    · exact .inl h
    · exact .inr (.inl h)
theorem firstK_not (L : List Th) (p : Nat) : ∀ i, 0 < i → i < L.length → (i - 1) / 2 = p → ¬ (at_ L i).lt (at_ L (firstK L p 2)) := by
  intro i h0 hi hp
  have hi2 : i = 2 * p + 1 ∨ i = 2 * p + 2 := by omega
  have h1 : ∀ k, 2 * p + 1 + k < L.length → ¬ (at_ L (2 * p + 1 + k)).lt (at_ L (firstK L p (k + 1))) := by
    intro k hk
    unfold firstK
    split
    · exact Th.irrefl _
    · rename_i h; exact fun h' => h ⟨hk, h'⟩
  have h2 : ∀ k, ¬ (at_ L (firstK L p k)).lt (at_ L (firstK L p (k + 1))) := by
    intro k
    rw [show firstK L p (k + 1) = if 2 * p + 1 + k < L.length ∧ (at_ L (2 * p + 1 + k)).lt (at_ L (firstK L p k)) then 2 * p + 1 + k else firstK L p k from rfl]
    split
    · rename_i h; exact Th.asymm h.2
    · exact Th.irrefl _
  rcases hi2 with rfl | rfl
  · exact Th.nn (h1 0 hi) (h2 1)
  · exact h1 1 hi
theorem firstK_done (L : List Th) (p : Nat) (h : firstK L p 2 = p) : ∀ i, 0 < i → i < L.length → (i - 1) / 2 = p → ¬ (at_ L i).lt (at_ L p) := by
  have := firstK_not L p
  rw [h] at this
  exact this
theorem firstK_go (L : List Th) (p : Nat) (h : firstK L p 2 ≠ p) : firstK L p 2 < L.length ∧ (firstK L p 2 = 2 * p + 1 ∨ firstK L p 2 = 2 * p + 2) ∧ (∀ i, 0 < i → i < L.length → (i - 1) / 2 = p → ¬ (at_ L i).lt (at_ L (firstK L p 2))) ∧ (at_ L (firstK L p 2)).lt (at_ L p) := by
  refine ⟨(firstK_or L p 2).resolve_left h, (firstK_two L p).resolve_left h, firstK_not L p, ?_⟩
  have hm : ∀ k, firstK L p k = p ∨ (at_ L (firstK L p k)).lt (at_ L p) := by
    intro k
    induction k with
    | zero => exact .inl rfl
    | succ k ih =>
      unfold firstK
      split
      · rename_i h'
        rcases ih with e | e
        · rw [e] at h'; exact .inr h'.2
        · exact .inr (Th.trans h'.2 e)
      · exact ih
  exact (hm 2).resolve_left h
end Go.Proofs.Ytjpmicjlbkdcbaa
