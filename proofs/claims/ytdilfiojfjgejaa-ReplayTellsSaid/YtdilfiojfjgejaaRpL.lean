/-
  Tags of epochs over lists: what is remembered, as the document says it.
-/
import Derived.Test.YtdilfiojfjgejaaRg
namespace Go.Proofs.Ytdilfiojfjgejaa
set_option linter.unusedVariables false
set_option linter.unusedSimpArgs false

/-- Sixteen bytes. -/
abbrev Tg := { l : List UInt8 // l.length = 16 }
def tg0 : Tg := ⟨List.replicate 16 0, rfl⟩
/-- A tag of an epoch. -/
structure Ent where
  e : Nat
  x : Tg
deriving DecidableEq
def Ent.ok (s : Ent) : Prop := s.e < 4294967296
def tgC (x : Tg) : List Value := cellsB x.1
theorem tgC_length (x : Tg) : (tgC x).length = 16 := by rw [tgC, cellsB_length, x.2]
theorem tgC_one (x : Tg) : ∀ u ∈ tgC x, u.oneCell' = true := cellsB_one _
def entC (s : Ent) : List Value := .int .u32 (s.e : Int) :: tgC s.x
theorem entC_length (s : Ent) : (entC s).length = 17 := by simp [entC, tgC_length]
theorem entC_one (s : Ent) : ∀ u ∈ entC s, u.oneCell' = true := by
  intro u hu
  rcases List.mem_cons.1 hu with rfl | hu
  · rfl
  · exact tgC_one _ u hu
theorem cellsB_inj : ∀ {l m : List UInt8}, cellsB l = cellsB m → l = m
  | [], [], _ => rfl
  | [], b :: m, h => by cases h
  | a :: l, [], h => by cases h
  | a :: l, b :: m, h => by
    simp only [cellsB, List.map_cons, List.cons.injEq, Value.int.injEq, true_and] at h
    have h1 : a = b := UInt8.toNat_inj.1 (by omega)
    rw [h1, cellsB_inj (l := l) (m := m) h.2]
theorem tgC_inj {x y : Tg} (h : tgC x = tgC y) : x = y := Subtype.ext (cellsB_inj h)
theorem entC_inj {x y : Ent} (h : entC x = entC y) : x = y := by
  simp only [entC, List.cons.injEq, Value.int.injEq, true_and] at h
  obtain ⟨h1, h2⟩ := h
  have h3 : x.e = y.e := by omega
  have h4 := tgC_inj h2
  cases x; cases y
  simp only at h3 h4
  rw [h3, h4]

/-- What is remembered: of each epoch at most `most`, none below the floor. -/
structure T where
  most : Nat
  floor : Nat
  l : List Ent
def T.has (t : T) (e : Nat) (x : Tg) : Bool := decide (⟨e, x⟩ ∈ t.l)
def cnt (l : List Ent) (e : Nat) : Nat := l.countP fun s => s.e == e
def T.len (t : T) (e : Nat) : Nat := cnt t.l e
/-- Why one may not be added: 0, if it may. -/
def T.why (t : T) (e : Nat) (x : Tg) : Nat := if e < t.floor then 11 else if t.has e x = true then 7 else if t.most ≤ t.len e then 8 else 0
def T.add (t : T) (e : Nat) (x : Tg) : T := if t.why e x = 0 then { t with l := t.l ++ [⟨e, x⟩] } else t
def T.keep (t : T) (b : Nat) : List Ent := t.l.filter fun s => decide (max t.floor b ≤ s.e)
def T.exp (t : T) (b : Nat) : T := { t with floor := max t.floor b, l := t.keep b }
def T.gone (t : T) (b : Nat) : Nat := t.l.length - (t.keep b).length
structure T.ok (t : T) : Prop where
  pos : 1 ≤ t.most
  top : t.most ≤ 9223372036854775807
  flo : t.floor < 4294967296
  nod : t.l.Nodup
  fit : ∀ s ∈ t.l, t.floor ≤ s.e ∧ s.e < 4294967296
  room : ∀ e, cnt t.l e ≤ t.most
def newT (m : Int) : T := ⟨if m < 1 then 1 else m.toNat, 0, []⟩
theorem newT_ok {m : Int} (h : m ≤ 9223372036854775807) : (newT m).ok := by
  refine ⟨?_, ?_, by simp [newT], List.nodup_nil, fun s hs => by simp [newT] at hs, fun e => by simp [newT, cnt]⟩
  · simp only [newT]; split <;> omega
  · simp only [newT]; split <;> omega
theorem newT_most (m : Int) : ((newT m).most : Int) = if m < 1 then 1 else m := by
  simp only [newT]
  split <;> omega
theorem cnt_append (l m : List Ent) (e : Nat) : cnt (l ++ m) e = cnt l e + cnt m e := List.countP_append
theorem cnt_one (s : Ent) (e : Nat) : cnt [s] e = if s.e = e then 1 else 0 := by
  simp only [cnt, List.countP_cons, List.countP_nil, Nat.zero_add, beq_iff_eq]
theorem cnt_perm {l m : List Ent} (h : l.Perm m) (e : Nat) : cnt l e = cnt m e := h.countP_eq _
theorem cnt_le (l : List Ent) (e : Nat) : cnt l e ≤ l.length := List.countP_le_length
theorem why_zero {t : T} {e : Nat} {x : Tg} (h : t.why e x = 0) : t.floor ≤ e ∧ (⟨e, x⟩ : Ent) ∉ t.l ∧ t.len e < t.most := by
  unfold T.why at h
  split at h
  · cases h
  · split at h
    · cases h
    · split at h
      · cases h
      · rename_i h1 h2 h3
        exact ⟨by omega, by simpa [T.has] using h2, by omega⟩
theorem T.ok.add {t : T} (h : t.ok) {e : Nat} (he : e < 4294967296) (x : Tg) : (t.add e x).ok := by
  unfold T.add
  split
  · rename_i h0
    obtain ⟨h1, h2, h3⟩ := why_zero h0
    refine ⟨h.pos, h.top, h.flo, ?_, fun s hs => ?_, fun i => ?_⟩
    · rw [List.nodup_append]
      refine ⟨h.nod, List.nodup_cons.2 ⟨by simp, List.nodup_nil⟩, fun a ha b hb => ?_⟩
      obtain rfl : b = ⟨e, x⟩ := by simpa using hb
      rintro rfl
      exact h2 ha
    · rcases List.mem_append.1 hs with hs | hs
      · exact h.fit s hs
      · obtain rfl : s = ⟨e, x⟩ := by simpa using hs
        exact ⟨h1, he⟩
    · simp only [cnt_append, cnt_one]
      have := h.room i
      split
      · rename_i hi
        have hi : e = i := hi
        subst hi
        unfold T.len at h3
        omega
      · omega
  · exact h
theorem T.ok.exp {t : T} (h : t.ok) {b : Nat} (hb : b < 4294967296) : (t.exp b).ok := by
  refine ⟨h.pos, h.top, ?_, h.nod.filter _, fun s hs => ?_, fun i => ?_⟩
  · have := h.flo
    simp only [T.exp]
    omega
  · have h1 := List.mem_filter.1 hs
    exact ⟨by simpa [T.exp] using h1.2, (h.fit s h1.1).2⟩
  · refine Nat.le_trans ?_ (h.room i)
    exact List.Sublist.countP_le (List.filter_sublist)
theorem add_length (t : T) (e : Nat) (x : Tg) : (t.add e x).l.length ≤ t.l.length + 1 := by
  unfold T.add
  split <;> simp
theorem exp_length (t : T) (b : Nat) : (t.exp b).l.length ≤ t.l.length := List.length_filter_le _ _
theorem keep_length (t : T) (b : Nat) : (t.keep b).length ≤ t.l.length := List.length_filter_le _ _
theorem T.ok.keep_low {t : T} (h : t.ok) {b : Nat} (hb : b ≤ t.floor) : t.keep b = t.l := by
  unfold T.keep
  refine List.filter_eq_self.2 fun s hs => ?_
  have := (h.fit s hs).1
  simp
  omega
theorem T.ok.exp_low {t : T} (h : t.ok) {b : Nat} (hb : b ≤ t.floor) : t.exp b = t ∧ t.gone b = 0 := by
  have h1 := h.keep_low hb
  refine ⟨?_, by simp [T.gone, h1]⟩
  unfold T.exp
  rw [h1, Nat.max_eq_left hb]
theorem T.keep_high {t : T} {b : Nat} (hb : t.floor ≤ b) : t.keep b = t.l.filter fun s => !decide (s.e < b) := by
  unfold T.keep
  refine List.filter_congr fun s _ => ?_
  rw [Nat.max_eq_right hb]
  by_cases h : b ≤ s.e
  · rw [decide_eq_true h, decide_eq_false (by omega)]; rfl
  · rw [decide_eq_false h, decide_eq_true (by omega)]; rfl
theorem cnt_keep (t : T) (b e : Nat) : cnt (t.keep b) e = if max t.floor b ≤ e then cnt t.l e else 0 := by
  unfold cnt T.keep
  rw [List.countP_filter]
  split
  · rename_i h
    refine List.countP_congr fun s _ => ?_
    simp only [Bool.and_eq_true, beq_iff_eq, decide_eq_true_eq]
    constructor
    · exact fun k => k.1
    · rintro rfl
      exact ⟨rfl, h⟩
  · rename_i h
    rw [List.countP_eq_zero]
    intro s _
    simp only [Bool.and_eq_true, beq_iff_eq, decide_eq_true_eq]
    rintro ⟨rfl, k⟩
    exact h k
end Go.Proofs.Ytdilfiojfjgejaa
