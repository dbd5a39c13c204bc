/-
  Heaps of int as a law uses them.
-/
import Derived.Test.YtjpmicjlbkdcbaaHqI3
import Derived.Test.YtjpmicjlbkdcbaaHqW
namespace Go.Proofs.Ytjpmicjlbkdcbaa.hI
set_option linter.unusedVariables false
set_option linter.unusedSimpArgs false
open Go.RowKit

/-- A heap that a law has made: nothing that lay at its beginning has turned. -/
def LH (w0 w : World) (g : Nat) (q : Qu) : Prop := (∃ rw, HeapAt w w0.heap.size g rw q) ∧ Below w0.heap.size w0 w
section
variable {w0 w w' : World} {g : Nat} {q : Qu}
theorem frm_rw {rw : Option Nat} (h : HeapAt w w0.heap.size g rw q) : ∀ k, (k = g ∨ some k = rw) → w0.heap.size ≤ k := by
  intro k hk
  rcases hk with rfl | hk
  · exact h.lt.1
  · exact (h.row k hk.symm).1
theorem LH.frm0 (h : LH w0 w g q) (f : Frm (fun _ => False) w w') : LH w0 w' g q := by
  obtain ⟨⟨rw, h1⟩, h2⟩ := h
  exact ⟨⟨rw, h1.frm0 f⟩, below_frm h2 f h2.size (fun _ h => h.elim)⟩
theorem LH.ok (h : LH w0 w g q) : q.ok := by obtain ⟨⟨rw, h1⟩, h2⟩ := h; exact h1.ok
theorem LH.new (h : Below w0.heap.size w0 w) (m : Int) : Calls Try.prog 10 #[.int .i64 m] w fun e w' => ∃ g, e = .returned (.pointer (some ⟨g, 0, none⟩)) ∧ LH w0 w' g (newQ m) := by
  refine (new_any m w).mono ?_
  rintro e w' ⟨g, rfl, h1, f⟩
  exact ⟨g, rfl, ⟨none, h1.base h.size⟩, below_frm h f h.size (fun _ h => h.elim)⟩
theorem LH.len (h : LH w0 w g q) : Calls Try.prog 18 #[.pointer (some ⟨g, 0, none⟩)] w fun e w' => e = .returned (.int .i64 (q.S.length : Int)) ∧ w' = w := by
  obtain ⟨⟨rw, h1⟩, h2⟩ := h
  exact lens_any _ g rw q w h1
theorem LH.next (h : LH w0 w g q) : Calls Try.prog 16 #[.pointer (some ⟨g, 0, none⟩)] w fun e w' => e = .returned (.tuple (nextV q)) ∧ w' = w := by
  obtain ⟨⟨rw, h1⟩, h2⟩ := h
  exact next_any _ g rw q w h1
theorem LH.push (h : LH w0 w g q) (t : Nat) (x : Int) (ht : t < 18446744073709551616) (hs : q.S.length ≤ 50000) (hn : q.num ≤ 50000) : Calls Try.prog 12 #[.pointer (some ⟨g, 0, none⟩), .int .u64 (t : Int), .int .i64 x] w fun e w' => e = .returned (.tuple (pushV q)) ∧ LH w0 w' g (q.push t x) := by
  obtain ⟨⟨rw, h1⟩, h2⟩ := h
  refine (push_any _ g rw q t x w h1 ht hs hn).mono ?_
  rintro e w' ⟨rfl, rw', h3, _, f⟩
  exact ⟨rfl, ⟨rw', h3⟩, below_frm h2 f h2.size (frm_rw h1)⟩
theorem LH.pop (h : LH w0 w g q) (now : Nat) (hs : q.S.length ≤ 50000) : Calls Try.prog 14 #[.pointer (some ⟨g, 0, none⟩), .int .u64 (now : Int)] w fun e w' => e = .returned (.tuple (popV q now)) ∧ LH w0 w' g (q.pop now) := by
  obtain ⟨⟨rw, h1⟩, h2⟩ := h
  refine (pop_any _ g rw q now w h1 hs).mono ?_
  rintro e w' ⟨rfl, h3, f⟩
  exact ⟨rfl, ⟨rw, h3⟩, below_frm h2 f h2.size (frm_rw h1)⟩
theorem popV_some {s : Th} {S : List Th} {now : Nat} (h : q.S = s :: S) (ht : s.t ≤ now) : popV q now = #[.int .i64 s.x, .int .u64 (s.t : Int), .bool true] := by
  have hd : q.due now = some s := by unfold Qu.due; rw [h]; simp [Nat.not_lt.2 ht]
  unfold popV
  rw [hd]
theorem popV_none {now : Nat} (h : ∀ s ∈ q.S.head?, now < s.t) : popV q now = #[.int .i64 0, .int .u64 0, .bool false] := by
  have hd : q.due now = none := Qu.due_not h
  unfold popV
  rw [hd]
theorem pushV_ok (h : (q.S.length : Int) < q.most) : pushV q = #[.int .u64 (q.num : Int), .int .i64 0] := if_neg (by unfold Qu.full; omega)
theorem pushV_full (h : q.most ≤ (q.S.length : Int)) : pushV q = #[.int .u64 0, .int .i64 8] := if_pos h
end
end Go.Proofs.Ytjpmicjlbkdcbaa.hI
