/-
  Directories over lists: records in order, one more, who is there in an epoch.
-/
import Derived.Test.YtjicnfkodieaaaaDoorMem
namespace Go.Proofs.YtjicnfkodieaaaaDoor
set_option linter.unusedVariables false

/-- A record: its node, its first epoch, its last one, its link. -/
structure Rec where
  a : Nat
  f : Nat
  t : Nat
  l : Nat
theorem Rec.ext' {x y : Rec} (h1 : x.a = y.a) (h2 : x.f = y.f) (h3 : x.t = y.t) (h4 : x.l = y.l) : x = y := by
  cases x; cases y; simp_all
instance : Inhabited Rec := ⟨⟨0, 0, 0, 0⟩⟩
instance : DecidableEq Rec := fun x y => decidable_of_iff (x.a = y.a ∧ x.f = y.f ∧ x.t = y.t ∧ x.l = y.l) ⟨fun h => Rec.ext' h.1 h.2.1 h.2.2.1 h.2.2.2, fun h => by subst h; simp⟩
theorem recD (l : List Rec) (i : Nat) (h : i < l.length) : l[i]? = some (l.getD i default) := by
  rw [List.getD_eq_getElem?_getD, List.getElem?_eq_getElem h]; rfl

/-- It is there in some epoch from i to j. -/
def Rec.meets (r : Rec) (i j : Nat) : Bool := decide (r.f ≤ j) && decide (i ≤ r.t)
def Rec.lt (x y : Rec) : Prop := x.a < y.a ∨ (x.a = y.a ∧ x.f < y.f)
instance (x y : Rec) : Decidable (x.lt y) := inferInstanceAs (Decidable (_ ∨ _))
/-- Of another node, or its last epoch ahead of the other's first one. -/
def Rec.ahead (x y : Rec) : Prop := x.a < y.a ∨ (x.a = y.a ∧ x.t < y.f)
/-- What a record of Go's may be. -/
def Rec.in32 (r : Rec) : Prop := r.a < 65536 ∧ r.f < 4294967296 ∧ r.t < 4294967296 ∧ r.l < 4294967296
/-- What a record of a directory is. -/
structure Rec.ok (r : Rec) : Prop where
  a : r.a < 16
  ft : r.f ≤ r.t
  t : r.t < 4294967296
  l : r.l < 4294967296
theorem Rec.ok.in32 {r : Rec} (h : r.ok) : r.in32 := by
  have h1 := h.a; have h2 := h.ft; have h3 := h.t; have h4 := h.l
  unfold Rec.in32; omega

structure DirOk (D : List Rec) : Prop where
  apart : D.Pairwise Rec.ahead
  ok : ∀ r ∈ D, r.ok
  len : D.length ≤ 64
theorem DirOk.nil : DirOk [] := ⟨List.Pairwise.nil, fun _ h => absurd h (by simp), by simp⟩

theorem Rec.lt_of_ahead {x y : Rec} (hx : x.ok) (h : x.ahead y) : x.lt y := by
  have := hx.ft
  rcases h with h | ⟨h1, h2⟩
  · exact .inl h
  · exact .inr ⟨h1, by omega⟩
theorem DirOk.sorted {D : List Rec} (h : DirOk D) : D.Pairwise Rec.lt := by
  have := h.apart
  refine List.Pairwise.imp_of_mem ?_ this
  intro a b ha _ hab
  exact Rec.lt_of_ahead (h.ok a ha) hab

/-- Those of this node that are there in some epoch from i to j. -/
def withinL (D : List Rec) (a i j : Nat) : List Rec := D.filter fun x => decide (x.a = a) && x.meets i j
def validL (D : List Rec) (e : Nat) : List Rec := D.filter fun x => x.meets e e
/-- One more, in its place. -/
def insL (r : Rec) : List Rec → List Rec
  | [] => [r]
  | x :: D => if x.lt r then x :: insL r D else r :: x :: D
theorem insL_perm (r : Rec) : ∀ D, (insL r D).Perm (r :: D)
  | [] => .refl _
  | x :: D => by
    unfold insL
    split
    · exact ((insL_perm r D).cons x).trans (.swap r x D)
    · exact .refl _
theorem mem_insL {r x : Rec} {D : List Rec} : x ∈ insL r D ↔ x = r ∨ x ∈ D := by rw [(insL_perm r D).mem_iff]; simp
theorem insL_length (r : Rec) (D : List Rec) : (insL r D).length = D.length + 1 := by rw [(insL_perm r D).length_eq]; simp

/-- Why one more is not taken: the first that applies. -/
def whyL (D : List Rec) (r : Rec) : Nat :=
  if 16 ≤ r.a ∨ r.t < r.f then 1 else if 0 < (withinL D r.a r.f r.t).length then 12 else if 64 ≤ D.length then 8 else 0
def addL (D : List Rec) (r : Rec) : List Rec := if whyL D r = 0 then insL r D else D
theorem whyL_zero {D : List Rec} {r : Rec} (h : whyL D r = 0) : r.a < 16 ∧ r.f ≤ r.t ∧ (∀ x ∈ D, x.a = r.a → x.t < r.f ∨ r.t < x.f) ∧ D.length < 64 := by
  unfold whyL at h
  split at h
  · cases h
  · split at h
    · cases h
    · split at h
      · cases h
      · rename_i h1 h2 h3
        refine ⟨by omega, by omega, fun x hx he => ?_, by omega⟩
        have h0 : withinL D r.a r.f r.t = [] := List.eq_nil_of_length_eq_zero (by omega)
        have := List.filter_eq_nil_iff.1 h0 x hx
        simp [Rec.meets, he] at this
        omega
theorem whyL_cases (D : List Rec) (r : Rec) : whyL D r = 0 ∨ whyL D r = 1 ∨ whyL D r = 12 ∨ whyL D r = 8 := by
  unfold whyL
  split
  · simp
  · split
    · simp
    · split <;> simp

theorem insL_apart {r : Rec} (hr : r.f ≤ r.t) : ∀ (D : List Rec), D.Pairwise Rec.ahead → (∀ x ∈ D, x.f ≤ x.t) → (∀ x ∈ D, x.a = r.a → x.t < r.f ∨ r.t < x.f) → (insL r D).Pairwise Rec.ahead
  | [], _, _, _ => by simp [insL]
  | x :: D, h, hok, hd => by
    obtain ⟨h1, h2⟩ := List.pairwise_cons.1 h
    have hx := hok x (List.mem_cons_self ..)
    have hdx := hd x (List.mem_cons_self ..)
    unfold insL
    split
    · rename_i hlt
      refine List.pairwise_cons.2 ⟨fun y hy => ?_, insL_apart hr D h2 (fun y hy => hok y (List.mem_cons_of_mem _ hy)) (fun y hy => hd y (List.mem_cons_of_mem _ hy))⟩
      rcases mem_insL.1 hy with rfl | hy
      · rcases hlt with h | ⟨h, h'⟩
        · exact .inl h
        · exact .inr ⟨h, by have := hdx h; omega⟩
      · exact h1 y hy
    · rename_i hlt
      have hrx : r.ahead x := by
        unfold Rec.lt at hlt
        unfold Rec.ahead
        by_cases he : x.a = r.a
        · right
          have := hdx he
          omega
        · left; omega
      refine List.pairwise_cons.2 ⟨fun y hy => ?_, h⟩
      rcases List.mem_cons.1 hy with rfl | hy
      · exact hrx
      · have hxy := h1 y hy
        rcases hrx with h | ⟨h, h'⟩
        · rcases hxy with k | ⟨k, k'⟩
          · exact .inl (by omega)
          · exact .inl (by omega)
        · rcases hxy with k | ⟨k, k'⟩
          · exact .inl (by omega)
          · exact .inr ⟨by omega, by omega⟩
theorem DirOk.add {D : List Rec} (h : DirOk D) {r : Rec} (hr : r.in32) : DirOk (addL D r) := by
  unfold addL
  split
  · rename_i h0
    obtain ⟨h1, h2, h3, h4⟩ := whyL_zero h0
    obtain ⟨r1, r2, r3, r4⟩ := hr
    refine ⟨insL_apart h2 D h.apart (fun x hx => (h.ok x hx).ft) h3, fun x hx => ?_, by rw [insL_length]; omega⟩
    rcases mem_insL.1 hx with rfl | hx
    · exact ⟨h1, h2, r3, r4⟩
    · exact h.ok x hx
  · exact h

/-! One sorted row of records. -/
theorem lt_irrefl (x : Rec) : ¬ x.lt x := by unfold Rec.lt; omega
theorem lt_trans {x y z : Rec} (h : x.lt y) (k : y.lt z) : x.lt z := by unfold Rec.lt at *; omega
theorem sorted_eq : ∀ {l m : List Rec}, l.Pairwise Rec.lt → m.Pairwise Rec.lt → l.Perm m → l = m
  | [], m, _, _, h => (List.nil_perm.1 h).symm
  | x :: l, [], _, _, h => absurd (List.perm_nil.1 h) (by simp)
  | x :: l, y :: m, hl, hm, h => by
    obtain ⟨l1, l2⟩ := List.pairwise_cons.1 hl
    obtain ⟨m1, m2⟩ := List.pairwise_cons.1 hm
    have hxy : x = y := by
      have hx : x ∈ y :: m := h.mem_iff.1 (List.mem_cons_self ..)
      have hy : y ∈ x :: l := h.mem_iff.2 (List.mem_cons_self ..)
      rcases List.mem_cons.1 hx with e | hx
      · exact e
      · rcases List.mem_cons.1 hy with e | hy
        · exact e.symm
        · exact absurd (lt_trans (l1 y hy) (m1 x hx)) (lt_irrefl x)
    subst hxy
    rw [sorted_eq l2 m2 (List.perm_cons x |>.1 h)]
/-- What was sorted so that no later one is less, and no two of which are alike in both numbers. -/
theorem sorted_of {l m : List Rec} (hm : m.Pairwise Rec.lt) (hp : l.Perm m) (hs : ∀ (i j : Nat) (x y : Rec), i < j → l[i]? = some x → l[j]? = some y → ¬ y.lt x) : l = m := by
  refine sorted_eq ?_ hm hp
  have hne : l.Pairwise (fun x y => x.lt y ∨ y.lt x) := by
    refine (hp.pairwise_iff (fun {x y} h => h.symm)).2 (hm.imp fun h => .inl h)
  rw [List.pairwise_iff_getElem] at hne ⊢
  intro i j hi hj hij
  rcases hne i j hi hj hij with h | h
  · exact h
  · exact absurd h (hs i j _ _ hij (List.getElem?_eq_getElem hi) (List.getElem?_eq_getElem hj))
end Go.Proofs.YtjicnfkodieaaaaDoor
