/-
  What a law's proof needs of its arguments: steps in a row, bools in a row.
-/
import Derived.Test.YtjpmicjlbkdcbaaHqSt
import Derived.Test.YtjpmicjlbkdcbaaQFrame
import Derived.Lib.SmallJoins
import Derived.Deep.Matrix
import Derived.Deep.Grids
import Derived.Deep.Strs
namespace Go.Proofs.Ytjpmicjlbkdcbaa
set_option linter.unusedVariables false
set_option linter.unusedSimpArgs false
open Go.ChangeShapes Go.WideShapes Go.ChangeAt Go.RowKit Go.Joins Go.Deep

theorem cellsSt : Try.prog.cellsOf 30 = 3 := by kernel_rfl
theorem cellsI1 : Try.prog.cellsOf 3 = 1 := by kernel_rfl
theorem cellsU1 : Try.prog.cellsOf 28 = 1 := by kernel_rfl
set_option maxRecDepth 100000 in
/-- Three cells that read as a step are a step's. -/
theorem st_cells {H : Type} {enc : TypeId × Value → H} {W : World} {base : Nat} {sp : Nat → Bool} {held : Bool} {fuel : Nat} {cs : List Value} {x : DataW H × List MemPlace}
    (h : DataW.trod enc Try.prog W base sp held fuel 30 cs = some x) : ∃ s : Stp, cs = stC s ∧ s.t < 18446744073709551616 := by
  obtain ⟨y0, y1, y2, n, _, hl, h0, h1, h2⟩ := trod_struct3 Try.underlying30 h
  rw [cellsSt] at hl
  match cs, hl with
  | [v0, v1, v2], _ =>
    simp [cellsI1, cellsU1] at h0 h1 h2
    obtain ⟨n0, q0, _, w0⟩ := DataW.trod_int Try.underlying3 h0
    obtain ⟨n1, q1, _, w1⟩ := DataW.trod_int Try.underlying28 h1
    obtain ⟨n2, q2, _, w2⟩ := DataW.trod_int Try.underlying3 h2
    simp only [List.cons.injEq, and_true] at q0 q1 q2
    subst q0 q1 q2
    have b1 := u64_bounds w1
    refine ⟨⟨n0, n1.toNat, n2⟩, ?_, by simp only; omega⟩
    simp only [stC]
    rw [Int.toNat_of_nonneg b1.1]
set_option maxRecDepth 100000 in
theorem row_steps {H : Type} {enc : TypeId × Value → H} {W : World} {base : Nat} {held : Bool} {fuel : Nat} {x : DataW H × List MemPlace} {A : Option Addr} {len cap : Nat}
    (h : DataW.trod enc Try.prog W base (fun _ => true) held fuel 22 [.slice A len cap] = some x) :
    ∃ L : List Stp, SRow W A len L ∧ len ≤ cap ∧ cap ≤ 9223372036854775807 := by
  rcases Go.Deep.open_slice Try.underlying22 h with ⟨hcs, _⟩ | ⟨a, l, c, m, n, D, Pl, hcs, _, hl, hm, hmm, _, hx⟩
  · simp only [List.cons.injEq, Value.slice.injEq, and_true] at hcs
    obtain ⟨rfl, rfl, rfl⟩ := hcs
    exact ⟨[], ⟨rfl, fun _ h => by simp at h, fun h => by omega⟩, by omega, by omega⟩
  · simp only [List.cons.injEq, Value.slice.injEq, and_true] at hcs
    obtain ⟨rfl, rfl, rfl⟩ := hcs
    have hlm : len ≤ m := by rw [hmm]; split <;> omega
    have each : ∀ i, i < len → ∃ s : Stp, s.t < 18446744073709551616 ∧ ∀ q u, (stC s)[q]? = some u → W.cell? ((a.add (i * 3)).add q) = some u := by
      intro i hi
      obtain ⟨cs', h1, h2⟩ := hx i (by omega)
      rw [cellsSt] at h1
      obtain ⟨_, hlen, hcell⟩ := World.cells?_some h1
      obtain ⟨s, hs, hin⟩ := st_cells h2
      refine ⟨s, hin, fun q u hq => ?_⟩
      have hq3 : q < 3 := by have := (List.getElem?_eq_some_iff.1 hq).1; rwa [stC_length] at this
      have e := hcell q (by omega)
      rw [e, hs]
      exact hq
    refine ⟨List.ofFn (n := len) fun i => (each i.1 i.2).choose, ⟨by simp, fun s hs => ?_, fun _ => ⟨a, rfl, fun j q u hj hq => ?_⟩⟩, hl, by simpa only [maxLen] using hm⟩
    · rw [List.mem_ofFn] at hs
      obtain ⟨i, hi⟩ := hs
      rw [← hi]
      exact (each i.1 i.2).choose_spec.1
    · have e : (List.ofFn (n := len) fun i => (each i.1 i.2).choose).getD j default = (each j hj).choose := by
        rw [List.getD_eq_getElem?_getD, List.getElem?_eq_getElem (by simpa using hj)]
        simp
      rw [e] at hq
      exact (each j hj).choose_spec.2 q u hq
/-- Bools in a row. -/
theorem row_bools {H : Type} {enc : TypeId × Value → H} {W : World} {base : Nat} {held : Bool} {fuel : Nat} {x : DataW H × List MemPlace} {A : Option Addr} {len cap : Nat}
    (h : DataW.trod enc Try.prog W base (fun _ => true) held fuel 54 [.slice A len cap] = some x) :
    ∃ b : Nat → Bool, (0 < len → ∃ a, A = some a ∧ ∀ i, i < len → W.cell? (a.add i) = some (.bool (b i))) ∧ len ≤ cap ∧ cap ≤ 9223372036854775807 := by
  rcases open_bools Try.underlying54 Try.underlying4 (by kernel_rfl) h with ⟨hcs, _⟩ | ⟨a, l, c, B, hcs, _, hl, hm, _, hcell⟩
  · simp only [List.cons.injEq, Value.slice.injEq, and_true] at hcs
    obtain ⟨rfl, rfl, rfl⟩ := hcs
    exact ⟨fun _ => false, fun h => by omega, by omega, by omega⟩
  · simp only [List.cons.injEq, Value.slice.injEq, and_true] at hcs
    obtain ⟨rfl, rfl, rfl⟩ := hcs
    exact ⟨B, fun _ => ⟨a, rfl, fun i hi => hcell i (by omega)⟩, hl, by simpa only [maxLen] using hm⟩
end Go.Proofs.Ytjpmicjlbkdcbaa
