/-
  A slice of slices of bytes that came in.
-/
import Derived.Test.YtbicjcpdcopbhaaDoorSFrame
import Derived.Deep.Matrix
namespace Go.Proofs.YtbicjcpdcopbhaaDoor
set_option linter.unusedVariables false
open Go.ChangeShapes Go.WideShapes Go.ChangeAt Go.RowKit

theorem cellsSl : Tryd.prog.cellsOf 24 = 1 := by kernel_rfl
theorem cellsBy : Tryd.prog.cellsOf 5 = 1 := by kernel_rfl
theorem rows_u8 {H : Type} {enc : TypeId × Value → H} {W : World} {base : Nat} {held : Bool} {fuel : Nat} {x : DataW H × List MemPlace} {a : Option Addr} {len cap : Nat}
    (h : DataW.trod enc Tryd.prog W base (fun _ => true) held fuel 22 [.slice a len cap] = some x) :
    ∃ L : Nat → List UInt8, (0 < len → ∃ p, a = some p ∧ ∀ r, r < len → ∃ Ar cr, W.cell? (p.add r) = some (.slice Ar (L r).length cr) ∧ (L r).length ≤ cr ∧ cr ≤ 9223372036854775807 ∧ Rds W Ar (L r).length (cellsB (L r))) ∧ len ≤ cap ∧ cap ≤ 9223372036854775807 := by
  rcases Go.Deep.open_int_rows Tryd.underlying22 Tryd.underlying24 Tryd.underlying5 cellsSl cellsBy h with ⟨hcs, _⟩ | ⟨p, l, c, A, L, C, Z, hcs, _, hl, hm, _, hr⟩
  · simp at hcs
    obtain ⟨rfl, rfl, rfl⟩ := hcs
    exact ⟨fun _ => [], fun h => by omega, by omega, by omega⟩
  · simp at hcs
    obtain ⟨rfl, rfl, rfl⟩ := hcs
    have each : ∀ r, r < len → ∃ y : List UInt8, ∃ Ar cr, W.cell? (p.add r) = some (.slice Ar y.length cr) ∧ y.length ≤ cr ∧ cr ≤ 9223372036854775807 ∧ Rds W Ar y.length (cellsB y) := by
      intro r hr'
      obtain ⟨h1, h2, h3, h4, h5, h6, h7⟩ := hr r (by omega)
      cases hA : A r with
      | none =>
        have hC := h6 hA
        have hL : L r = 0 := by omega
        rw [hA, hL] at h1
        exact ⟨[], none, C r, h1, by simp, by simpa only [maxLen] using h3, ⟨rfl, fun h => absurd h (by simp)⟩⟩
      | some a' =>
        obtain ⟨_, hc⟩ := h7 a' hA
        obtain ⟨y, hy⟩ := row_u8 (W := W) (x := a') (len := L r) (cap := C r) (zs := Z r) h2 h4 (fun i hi => hc i (by omega)) h5
        have hyl : y.length = L r := by have := hy.1; rwa [cellsB_length] at this
        refine ⟨y, some a', C r, ?_, by omega, by simpa only [maxLen] using h3, ?_⟩
        · rw [hyl, ← hA]; exact h1
        · rw [hyl]; exact hy
    refine ⟨fun r => if h : r < len then (each r h).choose else [], fun hp => ⟨p, rfl, fun r hr' => ?_⟩, hl, by simpa only [maxLen] using hm⟩
    have := (each r hr').choose_spec
    simp only [hr', dite_true]
    exact this
end Go.Proofs.YtbicjcpdcopbhaaDoor
