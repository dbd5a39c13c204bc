/-
  What OctetsWrites' proof needs of its argument: a slice of puts.
-/
import Derived.Test.YtiamopkdapdpaaaFrame
import Derived.Test.YtiamopkdapdpaaaWritesWalk
import Derived.Deep.SlicePairs
namespace Go.Proofs.Ytiamopkdapdpaaa
set_option linter.unusedVariables false
open Go.ChangeShapes Go.WideShapes Go.ChangeAt Go.RowKit

theorem row_puts {H : Type} {enc : TypeId × Value → H} {W : World} {base : Nat} {held : Bool} {fuel : Nat} {x : DataW H × List MemPlace} {A : Option Addr} {len cap : Nat}
    (h : DataW.trod enc Try.prog W base (fun _ => true) held fuel 45 [.slice A len cap] = some x) :
    Puts4 W A len ∧ len ≤ cap ∧ cap ≤ 9223372036854775807 := by
  have ce : Try.prog.cellsOf 51 = 4 := by kernel_rfl
  have c0 : Try.prog.cellsOf 3 = 1 := by kernel_rfl
  have c2 : Try.prog.cellsOf 34 = 1 := by kernel_rfl
  have c3 : Try.prog.cellsOf 22 = 1 := by kernel_rfl
  rcases Go.Deep.open_slice Try.underlying45 h with ⟨hcs, _⟩ | ⟨a, l, c, m, n, D, Pl, hcs, _, hl, hm, hmm, _, hx⟩
  · simp only [List.cons.injEq, Value.slice.injEq, and_true] at hcs
    obtain ⟨rfl, rfl, rfl⟩ := hcs
    exact ⟨fun h => by omega, by omega, by omega⟩
  · simp only [List.cons.injEq, Value.slice.injEq, and_true] at hcs
    obtain ⟨rfl, rfl, rfl⟩ := hcs
    have hlm : len ≤ m := by rw [hmm]; split <;> omega
    refine ⟨fun _ => ⟨a, rfl, fun i hi => ?_⟩, hl, by simpa only [maxLen] using hm⟩
    obtain ⟨cs', h1, h2⟩ := hx i (by omega)
    rw [ce] at h1
    obtain ⟨_, hlen, hcell⟩ := World.cells?_some h1
    obtain ⟨xs, k, hk, hxy, _, hxl, hf⟩ := DataW.trod_struct Try.underlying51 h2
    match xs, hxl, cs', hlen with
    | [y0, y1, y2, y3], _, [v0, v1, v2, v3], _ =>
      have g0 := hf 0 _ rfl
      have g1 := hf 1 _ rfl
      have g2 := hf 2 _ rfl
      have g3 := hf 3 _ rfl
      simp [c0, c2, c3] at g0 g1 g2 g3
      have e0 := hcell 0 (by omega)
      have e1 := hcell 1 (by omega)
      have e2 := hcell 2 (by omega)
      have e3 := hcell 3 (by omega)
      rw [Go.Deep.add_add] at e0 e1 e2 e3
      simp at e0 e1 e2 e3
      obtain ⟨n0, q0, _, w0⟩ := DataW.trod_int Try.underlying3 g0
      obtain ⟨n1, q1, _, w1⟩ := DataW.trod_int Try.underlying3 g1
      obtain ⟨n2, q2, _, w2⟩ := DataW.trod_int Try.underlying34 g2
      simp only [List.cons.injEq, and_true] at q0 q1 q2
      subst q0 q1 q2
      have b1 := i64_bounds w1
      have b2 := u64_bounds w2
      have hn2 : ((n2.toNat : Nat) : Int) = n2 := by omega
      rw [← hn2] at e2
      rcases open_ints Try.underlying22 Try.underlying5 (by kernel_rfl) g3 with ⟨hcs, _⟩ | ⟨x, l, c, zs, hcs, _, hl3, hm3, hz, _, hcell3, hwz⟩
      · simp only [List.cons.injEq, and_true] at hcs
        subst hcs
        exact ⟨n0, n1, n2.toNat, none, 0, 0, [], e0, e1, e2, e3, b1.1, by omega, ⟨rfl, fun h => by omega⟩, by omega, by omega⟩
      · simp only [List.cons.injEq, and_true] at hcs
        subst hcs
        obtain ⟨bl, hr⟩ := row_u8 hl3 (by simpa using hz) hcell3 hwz
        exact ⟨n0, n1, n2.toNat, some x, l, c, bl, e0, e1, e2, e3, b1.1, by omega, hr, hl3, by simpa only [maxLen] using hm3⟩
end Go.Proofs.Ytiamopkdapdpaaa
