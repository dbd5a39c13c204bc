/-
  Sums of rows that read so now; nothing written.
-/
import Derived.Test.YtjicnfkodieaaaaDoorDSha10
namespace Go.Proofs.YtjicnfkodieaaaaDoor
set_option linter.unusedVariables false
open Go.RowKit

/-- .. of a row that reads so now. -/
theorem sums_now (w0 w : World) (PA : Option Addr) (n c : Nat) (vs : List Value) (ls : List (List UInt8)) (all : List UInt8) (hrow : Rds w PA n vs) (hA : All2 w vs ls) (hall : ls.flatten = all) (hR : Run w0 w) (hl : all.length ≤ 1000000000) (hn : ls.length ≤ 1000000) :
    Calls Tryd.prog 37 #[.slice PA n c] w fun e w' => e = .returned (.agg (cellsB (shaL all)).toArray) ∧ Frm (fun _ => False) w w' ∧ Run w0 w' := by
  subst hall
  have hlen : n = ls.length := by rw [← hA.length]; exact hrow.1.symm
  subst hlen
  exact (sums_any PA c vs ls w hR.gl ⟨hrow, hA.at⟩ (by have := hR.two; have := hR.size; omega) (by omega) hn).mono fun e w' ⟨he, hb⟩ => ⟨he, Frm.of_below hb, hR.frm (Frm.of_below (S := fun _ => False) hb) (fun _ h => h.elim)⟩
theorem row_frm {S : Nat → Prop} {w1 w : World} (vs : List Value) (e : TypeId) (f : Frm S (w1.alloc (.cells vs.toArray e)) w) (hS : ¬ S w1.heap.size) : Rds w (some ⟨w1.heap.size, 0, none⟩) vs.length vs :=
  (alloc_rds w1 vs e (0, 0)).frm f (fun _ a ha => by injection ha with ha; subst ha; exact hS)
theorem empty_src (w : World) (g : Nat) (A : Option Addr) : Src w g A 0 [] := ⟨⟨rfl, fun h => absurd h (by decide)⟩, fun h => absurd h (by decide)⟩
theorem write_empty (g : Nat) (sL : List UInt8) (A : Option Addr) (c : Nat) (w0 w : World) (hR : Run w0 w) (hg : w0.heap.size ≤ g) (hS : St w g sL) (hl : sL.length ≤ 1000000000) :
    Calls Tryd.prog 50 #[.pointer (some ⟨g, 0, none⟩), .slice A 0 c] w fun e w' => e = .returned (.tuple #[]) ∧ St w' g sL ∧ Frm (fun k => k = g) w w' ∧ Run w0 w' := by
  have := write_src g sL [] A 0 c w0 w (empty_src w g A) rfl (Nat.zero_le _) hR hg hS (by omega)
  rwa [List.append_nil] at this
end Go.Proofs.YtjicnfkodieaaaaDoor
