/-
  Tags as a law uses them.
-/
import Derived.Test.YtdilfiojfjgejaaRp5
namespace Go.Proofs.Ytdilfiojfjgejaa
set_option linter.unusedVariables false
set_option linter.unusedSimpArgs false
open Go.RowKit

/-- Tags that a law has made since it began in w. -/
structure LT (w W : World) (g bs bc : Nat) (t : T) : Prop where
  at_ : TAt W w.heap.size g t bs bc
  below : Below w.heap.size w W
section
variable {w W W' : World} {g bs bc : Nat} {t : T}
theorem LT.frm {S : Nat → Prop} (h : LT w W g bs bc t) (f : Frm S W W') (h1 : ¬ S g) (h2 : ¬ S bs) (h3 : ¬ S bc) (hS : ∀ i, S i → w.heap.size ≤ i) : LT w W' g bs bc t :=
  ⟨h.at_.frm f h1 h2 h3, h.below.trans (f.below h.below.size hS)⟩
theorem LT.frm0 (h : LT w W g bs bc t) (f : Frm (fun _ => False) W W') : LT w W' g bs bc t := h.frm f (fun h => h) (fun h => h) (fun h => h) (fun _ h => h.elim)
theorem LT.of (h : LT w W g bs bc t) : ∀ i, Of g bs bc i → w.heap.size ≤ i := by
  intro i hi
  have := h.at_.base
  unfold Of at hi
  omega
theorem LT.new (h : Below w.heap.size w W) (m : Int) (hm : m ≤ 9223372036854775807) :
    Calls Try.prog 9 #[.int .i64 m] W fun e w' => ∃ g bs bc, e = .returned (.pointer (some ⟨g, 0, none⟩)) ∧ LT w w' g bs bc (newT m) ∧ Frm (fun _ => False) W w' ∧ W.heap.size ≤ g ∧ W.heap.size ≤ bs ∧ W.heap.size ≤ bc :=
  (new_any m hm W).mono fun e w' ⟨g, bs, bc, he, h1, f⟩ => ⟨g, bs, bc, he, ⟨h1.based h.size, h.trans (f.below h.size (fun _ h => h.elim))⟩, f, h1.base⟩
theorem LT.add (h : LT w W g bs bc t) (e : Nat) (x : Tg) (he : e < 4294967296) :
    Calls Try.prog 11 #[.pointer (some ⟨g, 0, none⟩), .int .u32 (e : Int), .agg (tgC x).toArray] W fun r w' => r = .returned (.int .i64 (t.why e x : Int)) ∧ LT w w' g bs bc (t.add e x) ∧ Frm (Of g bs bc) W w' :=
  (add_any _ g bs bc t e x he W h.at_).mono fun r w' ⟨hr, h1, f⟩ => ⟨hr, ⟨h1, h.below.trans (f.below h.below.size h.of)⟩, f⟩
theorem LT.exp (h : LT w W g bs bc t) (b : Nat) (hb : b < 4294967296) (hn : t.l.length ≤ 1000000) :
    Calls Try.prog 13 #[.pointer (some ⟨g, 0, none⟩), .int .u32 (b : Int)] W fun r w' => r = .returned (.int .i64 (t.gone b : Int)) ∧ LT w w' g bs bc (t.exp b) ∧ Frm (Of g bs bc) W w' :=
  (exp_any _ g bs bc t b hb hn W h.at_).mono fun r w' ⟨hr, h1, f⟩ => ⟨hr, ⟨h1, h.below.trans (f.below h.below.size h.of)⟩, f⟩
theorem LT.has (h : LT w W g bs bc t) (e : Nat) (x : Tg) (he : e < 4294967296) :
    Calls Try.prog 15 #[.pointer (some ⟨g, 0, none⟩), .int .u32 (e : Int), .agg (tgC x).toArray] W fun r w' => r = .returned (.bool (t.has e x)) ∧ LT w w' g bs bc t ∧ Frm (fun _ => False) W w' :=
  (has_any _ g bs bc t e x he W h.at_).mono fun r w' ⟨hr, f⟩ => ⟨hr, h.frm0 f, f⟩
theorem LT.len (h : LT w W g bs bc t) (e : Nat) (he : e < 4294967296) :
    Calls Try.prog 17 #[.pointer (some ⟨g, 0, none⟩), .int .u32 (e : Int)] W fun r w' => r = .returned (.int .i64 (t.len e : Int)) ∧ w' = W := len_any _ g bs bc t e he W h.at_
theorem LT.floor (h : LT w W g bs bc t) : Calls Try.prog 19 #[.pointer (some ⟨g, 0, none⟩)] W fun r w' => r = .returned (.int .u32 (t.floor : Int)) ∧ w' = W := floor_any _ g bs bc t W h.at_
theorem shown_from (h : Below w.heap.size w W) : Calls Try.prog 8 #[] W fun e w' => e = .returned (.bool true) ∧ Below w.heap.size w w' :=
  (shown_any W).mono fun e w' ⟨he, f⟩ => ⟨he, h.trans (f.below h.size (fun _ h => h.elim))⟩
end
theorem cell_below {B : Nat} {w W : World} {a : Addr} {v : Value} (h : Below B w W) (hB : a.block < B) (hc : w.cell? a = some v) : W.cell? a = some v := by
  rw [h.cell hB]
  exact hc
end Go.Proofs.Ytdilfiojfjgejaa
