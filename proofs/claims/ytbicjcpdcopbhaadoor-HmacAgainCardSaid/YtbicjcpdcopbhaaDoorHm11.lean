/-
  The writer, seen from a law's own beginning, beside a key in a block of its own.
-/
import Derived.Test.YtbicjcpdcopbhaaDoorHm10
namespace Go.Proofs.YtbicjcpdcopbhaaDoor
set_option linter.unusedVariables false
open Go.RowKit

theorem put_run {w0 w w' : World} {g : Nat} {d : Option Nat} {l key : List UInt8} (hR : Run w0 w) (hg : w0.heap.size < g) (hd : ∀ j, d = some j → w0.heap.size < j) (hk : Blk w w0.heap.size 43 (cellsB key).toArray) (hp : Put g d l w w') :
    ∃ d', Wr w' g d' l ∧ (∀ j, d' = some j → w0.heap.size < j) ∧ Run w0 w' ∧ Blk w' w0.heap.size 43 (cellsB key).toArray := by
  obtain ⟨d', h1, h2, hf⟩ := hp
  refine ⟨d', h1, fun j hj => ?_, hR.frm hf (fun k hk => ?_), hk.frm hf (fun h => ?_)⟩
  · rcases h2 with rfl | ⟨j', hj', hle⟩
    · exact hd j hj
    · rw [hj'] at hj; injection hj with hj; have := hk.lt; omega
  · rcases hk with rfl | hk
    · omega
    · have := hd k hk.symm; omega
  · rcases h with h | h
    · omega
    · have := hd _ h.symm; omega
theorem wu32_run (w0 w : World) (g : Nat) (d : Option Nat) (l key : List UInt8) (n : Nat) (hW : Wr w g d l) (hl : l.length ≤ 100000) (hn : n < 4294967296) (hR : Run w0 w) (hg : w0.heap.size < g) (hd : ∀ j, d = some j → w0.heap.size < j) (hk : Blk w w0.heap.size 43 (cellsB key).toArray) :
    Calls Tryd.prog 34 #[.pointer (some ⟨g, 0, none⟩), .int .u32 (n : Int)] w fun e w' => e = .returned (.pointer (some ⟨g, 0, none⟩)) ∧ ∃ d', Wr w' g d' (l ++ be 4 n) ∧ (∀ j, d' = some j → w0.heap.size < j) ∧ Run w0 w' ∧ Blk w' w0.heap.size 43 (cellsB key).toArray :=
  (wu32_any g d l (n : Int) w hW hl (by omega) (by omega)).mono fun e w' ⟨he, hp⟩ => ⟨he, put_run hR hg hd hk (by rwa [Int.toNat_natCast] at hp)⟩
theorem wbytes_run (w0 w : World) (g : Nat) (d : Option Nat) (l key x : List UInt8) (A : Option Addr) (n c : Nat) (hW : Wr w g d l) (hl : l.length ≤ 100000) (hr : Rds w A n (cellsB x)) (hn : n ≤ 100000) (hR : Run w0 w) (hg : w0.heap.size < g) (hd : ∀ j, d = some j → w0.heap.size < j) (hk : Blk w w0.heap.size 43 (cellsB key).toArray) :
    Calls Tryd.prog 35 #[.pointer (some ⟨g, 0, none⟩), .slice A n c] w fun e w' => e = .returned (.pointer (some ⟨g, 0, none⟩)) ∧ ∃ d', Wr w' g d' (l ++ x) ∧ (∀ j, d' = some j → w0.heap.size < j) ∧ Run w0 w' ∧ Blk w' w0.heap.size 43 (cellsB key).toArray :=
  (wbytes_any g d l x A n c w hW hl hr hn).mono fun e w' ⟨he, hp⟩ => ⟨he, put_run hR hg hd hk hp⟩
theorem Wr.norm {w : World} {g : Nat} {d : Option Nat} {l : List UInt8} (h : Wr w g d l) : ∃ d', Wr w g d' l ∧ ∀ j, d' = some j → j < w.heap.size := by
  obtain ⟨v, h1, h2, _⟩ := h
  exact ⟨v.ownBlock, ⟨v, h1, h2, .inr rfl⟩, fun j hj => (h2.lt j hj).2⟩
theorem Wr.frm0 {w w' : World} {g : Nat} {d : Option Nat} {l : List UInt8} (h : Wr w g d l) (f : Frm (fun _ => False) w w') : Wr w' g d l := h.frm f (fun h => h) (fun _ _ h => h)
theorem wdone_now (w : World) (g : Nat) (d : Option Nat) (l : List UInt8) (n : Nat) (hW : Wr w g d l) (hl : l.length ≤ 100000) (hn : (cellsB l).length = n) :
    Calls Tryd.prog 36 #[.pointer (some ⟨g, 0, none⟩)] w fun e w' => ∃ A c, e = .returned (.slice A n c) ∧ Prt w' (.slice A n c) l ∧ Frm (fun _ => False) w w' :=
  (wdone_any g d l w hW hl).mono fun e w' ⟨A, c, he, hown, hb⟩ => by
    rw [hn] at he hown
    refine ⟨A, c, he, ?_, Frm.of_below hb⟩
    exact prt_own (B := w.heap.size) (by rw [← hn, cellsB_length] at hown; rw [← hn, cellsB_length]; exact hown)
theorem meas3 (lab a b : List UInt8) : (measured [lab, a, b]).flatten = be 4 lab.length ++ lab ++ be 4 a.length ++ a ++ be 4 b.length ++ b := by simp [measured]
end Go.Proofs.YtbicjcpdcopbhaaDoor
