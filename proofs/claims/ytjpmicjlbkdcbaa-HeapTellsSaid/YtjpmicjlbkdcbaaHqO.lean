/-
  Three heaps of int beside each other.
-/
import Derived.Test.YtjpmicjlbkdcbaaHqSt
namespace Go.Proofs.Ytjpmicjlbkdcbaa.hI
set_option linter.unusedVariables false
set_option linter.unusedSimpArgs false
open Go.RowKit

/-- Blocks of other types stay. -/
def Kept (w w' : World) : Prop := ∀ g t cs, t ≠ 58 → t ≠ 60 → Blk w g t cs → Blk w' g t cs
section
variable {w0 w w' : World} {B g g' : Nat} {rw rw' : Option Nat} {q q' : Qu}
theorem HeapAt.kept (h : HeapAt w B g rw q) (f : Frm (fun k => k = g ∨ some k = rw) w w') : Kept w w' := by
  obtain ⟨hB, A, n, c, L, hb, ho, hl, e, hk⟩ := h
  intro i t cs h1 h2 hi
  refine hi.frm f fun hk => ?_
  rcases hk with rfl | hk
  · exact hi.ne hb h1 rfl
  · exact ho.ne hi (fun e => h2 e.symm) (by rw [e, ← hk])
theorem HeapAt.cross (h : HeapAt w B g rw q) (h' : HeapAt w B g' rw' q') : ∀ k, rw' = some k → k ≠ g := by
  obtain ⟨hB, A, n, c, L, hb, ho, hl, e, hk⟩ := h
  obtain ⟨hB', A', n', c', L', hb', ho', hl', e', hk'⟩ := h'
  intro k hk e2
  exact ho'.ne hb (by decide) (by rw [e', hk, e2])

def H3 (w0 w : World) (ga gb gc : Nat) (qa qb qc : Qu) : Prop := Below w0.heap.size w0 w ∧ ∃ ra rb rc, HeapAt w w0.heap.size ga ra qa ∧ HeapAt w w0.heap.size gb rb qb ∧ HeapAt w w0.heap.size gc rc qc ∧ ga ≠ gb ∧ ga ≠ gc ∧ gb ≠ gc ∧
  (∀ k, ra = some k → rb ≠ some k) ∧ (∀ k, ra = some k → rc ≠ some k) ∧ (∀ k, rb = some k → rc ≠ some k)
variable {ga gb gc : Nat} {qa qb qc : Qu}
theorem H3.rot (h : H3 w0 w ga gb gc qa qb qc) : H3 w0 w gb gc ga qb qc qa := by
  obtain ⟨h1, ra, rb, rc, ha, hb, hc, n1, n2, n3, s1, s2, s3⟩ := h
  exact ⟨h1, rb, rc, ra, hb, hc, ha, n3, fun e => n1 e.symm, fun e => n2 e.symm, s3, fun k e e' => s1 k e' e, fun k e e' => s2 k e' e⟩
theorem H3.frm0 (h : H3 w0 w ga gb gc qa qb qc) (f : Frm (fun _ => False) w w') : H3 w0 w' ga gb gc qa qb qc := by
  obtain ⟨h1, ra, rb, rc, ha, hb, hc, n⟩ := h
  exact ⟨below_frm h1 f h1.size (fun _ h => h.elim), ra, rb, rc, ha.frm0 f, hb.frm0 f, hc.frm0 f, n⟩
theorem H3.step {ra rb rc ra' : Option Nat} (h1 : Below w0.heap.size w0 w) (ha : HeapAt w w0.heap.size ga ra qa) (hb : HeapAt w w0.heap.size gb rb qb) (hc : HeapAt w w0.heap.size gc rc qc) (n1 : ga ≠ gb) (n2 : ga ≠ gc) (n3 : gb ≠ gc)
    (s1 : ∀ k, ra = some k → rb ≠ some k) (s2 : ∀ k, ra = some k → rc ≠ some k) (s3 : ∀ k, rb = some k → rc ≠ some k)
    (ha' : HeapAt w' w0.heap.size ga ra' q') (hr : ra' = ra ∨ ∃ k, ra' = some k ∧ w.heap.size ≤ k) (f : Frm (fun k => k = ga ∨ some k = ra) w w') : H3 w0 w' ga gb gc q' qb qc := by
  have hb' := hb.frm f (fun h => h.elim (fun e => n1 e.symm) (fun e => ha.row gb e.symm |>.2.2 |> fun _ => hb.cross ha gb e.symm rfl)) (fun k hk h => h.elim (fun e => ha.cross hb k hk e) (fun e => s1 k e.symm hk))
  have hc' := hc.frm f (fun h => h.elim (fun e => n2 e.symm) (fun e => hc.cross ha gc e.symm rfl)) (fun k hk h => h.elim (fun e => ha.cross hc k hk e) (fun e => s2 k e.symm hk))
  refine ⟨below_frm h1 f h1.size (frm_rw ha), ra', rb, rc, ha', hb', hc', n1, n2, n3, fun k e e' => ?_, fun k e e' => ?_, s3⟩
  · rcases hr with hr | ⟨i, hr, hi⟩
    · exact s1 k (hr ▸ e) e'
    · have := (hb.row k e').2.1
      rw [hr] at e
      injection e with e
      omega
  · rcases hr with hr | ⟨i, hr, hi⟩
    · exact s2 k (hr ▸ e) e'
    · have := (hc.row k e').2.1
      rw [hr] at e
      injection e with e
      omega
theorem H3.push (h : H3 w0 w ga gb gc qa qb qc) (t : Nat) (x : Int) (ht : t < 18446744073709551616) (hs : qa.S.length ≤ 50000) (hn : qa.num ≤ 50000) : Calls Try.prog 12 #[.pointer (some ⟨ga, 0, none⟩), .int .u64 (t : Int), .int .i64 x] w fun e w' => e = .returned (.tuple (pushV qa)) ∧ H3 w0 w' ga gb gc (qa.push t x) qb qc ∧ Kept w w' := by
  obtain ⟨h1, ra, rb, rc, ha, hb, hc, n1, n2, n3, s1, s2, s3⟩ := h
  refine (push_any _ ga ra qa t x w ha ht hs hn).mono ?_
  rintro e w' ⟨rfl, rw', h3, hr, f⟩
  exact ⟨rfl, H3.step h1 ha hb hc n1 n2 n3 s1 s2 s3 h3 hr f, ha.kept f⟩
theorem H3.pop (h : H3 w0 w ga gb gc qa qb qc) (now : Nat) (hs : qa.S.length ≤ 50000) : Calls Try.prog 14 #[.pointer (some ⟨ga, 0, none⟩), .int .u64 (now : Int)] w fun e w' => e = .returned (.tuple (popV qa now)) ∧ H3 w0 w' ga gb gc (qa.pop now) qb qc ∧ Kept w w' := by
  obtain ⟨h1, ra, rb, rc, ha, hb, hc, n1, n2, n3, s1, s2, s3⟩ := h
  refine (pop_any _ ga ra qa now w ha hs).mono ?_
  rintro e w' ⟨rfl, h3, f⟩
  exact ⟨rfl, H3.step h1 ha hb hc n1 n2 n3 s1 s2 s3 h3 (.inl rfl) f, ha.kept f⟩
theorem H3.len (h : H3 w0 w ga gb gc qa qb qc) : Calls Try.prog 18 #[.pointer (some ⟨ga, 0, none⟩)] w fun e w' => e = .returned (.int .i64 (qa.S.length : Int)) ∧ w' = w := by
  obtain ⟨h1, ra, rb, rc, ha, _⟩ := h
  exact lens_any _ ga ra qa w ha
theorem pushV_form (q : Qu) : ∃ n e : Int, pushV q = #[.int .u64 n, .int .i64 e] := by
  unfold pushV
  split
  · exact ⟨_, _, rfl⟩
  · exact ⟨_, _, rfl⟩
theorem popV_form (q : Qu) (now : Nat) : ∃ (x t : Int) (b : Bool), popV q now = #[.int .i64 x, .int .u64 t, .bool b] := by
  unfold popV
  cases q.due now with
  | none => exact ⟨_, _, _, rfl⟩
  | some s => exact ⟨_, _, _, rfl⟩
/-- The second and the third one made. -/
def H2 (w0 w : World) (ga gb : Nat) (qa qb : Qu) : Prop := Below w0.heap.size w0 w ∧ ∃ ra, HeapAt w w0.heap.size ga ra qa ∧ HeapAt w w0.heap.size gb none qb ∧ ga ≠ gb
theorem H2.new (h : LH w0 w ga qa) (m : Int) : Calls Try.prog 10 #[.int .i64 m] w fun e w' => ∃ gb, e = .returned (.pointer (some ⟨gb, 0, none⟩)) ∧ H2 w0 w' ga gb qa (newQ m) := by
  obtain ⟨⟨ra, h1⟩, h2⟩ := h
  refine (new_any m w).mono ?_
  rintro e w' ⟨gb, rfl, h3, f⟩
  have := h3.lt.1
  have := h1.lt.2
  exact ⟨gb, rfl, below_frm h2 f h2.size (fun _ h => h.elim), ra, h1.frm0 f, h3.base h2.size, by omega⟩
theorem H3.new (h : H2 w0 w ga gb qa qb) (m : Int) : Calls Try.prog 10 #[.int .i64 m] w fun e w' => ∃ gc, e = .returned (.pointer (some ⟨gc, 0, none⟩)) ∧ H3 w0 w' ga gb gc qa qb (newQ m) := by
  obtain ⟨h2, ra, ha, hb, hne⟩ := h
  refine (new_any m w).mono ?_
  rintro e w' ⟨gc, rfl, h3, f⟩
  have := h3.lt.1
  have := ha.lt.2
  have := hb.lt.2
  exact ⟨gc, rfl, below_frm h2 f h2.size (fun _ h => h.elim), ra, none, none, ha.frm0 f, hb.frm0 f, h3.base h2.size, hne, by omega, by omega, (fun _ _ h => by cases h), (fun _ _ h => by cases h), (fun _ _ h => by cases h)⟩
end
end Go.Proofs.Ytjpmicjlbkdcbaa.hI
namespace Go.Proofs.Ytjpmicjlbkdcbaa
/-- Behind k steps. -/
structure OwnI (k : Nat) (q : Qu) : Prop where
  num : q.num ≤ k
  len : q.S.length ≤ k
theorem OwnI.up {k : Nat} {q : Qu} (h : OwnI k q) : OwnI (k + 1) q := ⟨Nat.le_succ_of_le h.num, Nat.le_succ_of_le h.len⟩
theorem OwnI.push {k t : Nat} {x : Int} {q : Qu} (h : OwnI k q) : OwnI (k + 1) (q.push t x) := by
  unfold Qu.push
  split
  · exact h.up
  · exact ⟨Nat.succ_le_succ h.num, by show (insT _ _).length ≤ _; rw [insT_length]; exact Nat.succ_le_succ h.len⟩
theorem OwnI.pop {k now : Nat} {q : Qu} (h : OwnI k q) : OwnI (k + 1) (q.pop now) := by
  unfold Qu.pop
  split
  · exact ⟨Nat.le_succ_of_le h.num, by show q.S.tail.length ≤ _; rw [List.length_tail]; have := h.len; omega⟩
  · exact h.up
end Go.Proofs.Ytjpmicjlbkdcbaa
