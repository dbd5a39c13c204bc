/-
  What a law's proof needs of its arguments: steps in a row, tags.
-/
import Derived.Test.YtdilfiojfjgejaaRpSt
import Derived.Test.YtdilfiojfjgejaaQFrame
import Derived.Lib.SmallJoins
import Derived.Deep.Matrix
import Derived.Deep.Grids
import Derived.Deep.Strs
namespace Go.Proofs.Ytdilfiojfjgejaa
set_option linter.unusedVariables false
set_option linter.unusedSimpArgs false
open Go.ChangeShapes Go.WideShapes Go.ChangeAt Go.RowKit Go.Joins Go.Deep

theorem cellsSt : Try.prog.cellsOf 32 = 18 := by kernel_rfl
theorem cellsI1 : Try.prog.cellsOf 3 = 1 := by kernel_rfl
theorem wf_u8 {n : Int} (h : (Lit.int .u8 n).wf = true) : 0 ≤ n ∧ n < 256 := by
  have := bounds_u8 h
  omega
set_option maxRecDepth 100000 in
/-- Cells of bytes that read as an array's are bytes. -/
theorem trod_bytes {t : TypeId} {N : Nat} (hu : Try.prog.underlying t = some (.array N 5)) (hC : Try.prog.cellsOf t = N) {H : Type} {enc : TypeId × Value → H} {W : World} {base : Nat} {sp : Nat → Bool} {held : Bool} {fuel : Nat} {cs : List Value} {x : DataW H × List MemPlace}
    (hf : DataW.trod enc Try.prog W base sp held fuel t cs = some x) : ∃ l : List UInt8, cs = cellsB l ∧ l.length = N := by
  obtain ⟨xs, m, _, _, hl, hxl, hel⟩ := DataW.trod_array hu hf
  rw [hC] at hl
  have each : ∀ i, i < N → ∃ b : UInt8, cs[i]? = some (.int .u8 (b.toNat : Int)) := by
    intro i hi
    have h1 := hel i hi
    rw [cells8, Nat.mul_one] at h1
    have hc : cs[i]? = some (cs[i]'(by omega)) := List.getElem?_eq_getElem (by omega)
    have h2 : (cs.drop i).take 1 = [cs[i]'(by omega)] := by
      rw [List.drop_eq_getElem_cons (by omega)]
      rfl
    rw [h2] at h1
    have h3 : xs[i]? = some (xs[i]'(by omega)) := List.getElem?_eq_getElem (by omega)
    rw [h3] at h1
    obtain ⟨n, hn, _, hw⟩ := DataW.trod_int Try.underlying5 h1
    have hb := wf_u8 hw
    refine ⟨UInt8.ofNat n.toNat, ?_⟩
    rw [hc]
    have : cs[i]'(by omega) = .int .u8 n := by simpa using hn
    rw [this, UInt8.toNat_ofNat']
    congr 2
    omega
  refine ⟨List.ofFn (n := N) fun i => (each i.1 i.2).choose, ?_, by simp⟩
  apply List.ext_getElem?
  intro j
  by_cases hj : j < N
  · rw [(each j hj).choose_spec, cellsB_get, List.getElem?_ofFn, dif_pos hj]
    rfl
  · rw [List.getElem?_eq_none (by omega), List.getElem?_eq_none (by rw [cellsB_length]; simp; omega)]
set_option maxRecDepth 100000 in
/-- Eighteen cells that read as a step are a step's. -/
theorem st_cells {H : Type} {enc : TypeId × Value → H} {W : World} {base : Nat} {sp : Nat → Bool} {held : Bool} {fuel : Nat} {cs : List Value} {x : DataW H × List MemPlace}
    (h : DataW.trod enc Try.prog W base sp held fuel 32 cs = some x) : ∃ s : Stp, cs = stC s ∧ s.ok := by
  obtain ⟨y0, y1, y2, n, _, hl, h0, h1, h2⟩ := trod_struct3 Try.underlying32 h
  rw [cellsSt] at hl
  match cs, hl with
  | v0 :: v1 :: rest, hl =>
    simp [cellsI1, cells32, cellsX] at h0 h1 h2
    obtain ⟨n0, q0, _, w0⟩ := DataW.trod_int Try.underlying3 h0
    obtain ⟨n1, q1, _, w1⟩ := DataW.trod_int Try.underlying28 h1
    obtain ⟨l2, q2, w2⟩ := trod_bytes Try.underlying30 cellsX h2
    simp only [List.cons.injEq, and_true] at q0 q1
    subst q0 q1
    rw [List.take_of_length_le (by simp at hl; omega)] at q2
    subst q2
    have b1 := u32_bounds w1
    refine ⟨⟨n0, n1.toNat, ⟨l2, w2⟩⟩, ?_, by show _ < _; simp only; omega⟩
    simp only [stC, tgC]
    rw [Int.toNat_of_nonneg b1.1]
set_option maxRecDepth 100000 in
theorem row_steps {H : Type} {enc : TypeId × Value → H} {W : World} {base : Nat} {held : Bool} {fuel : Nat} {x : DataW H × List MemPlace} {A : Option Addr} {len cap : Nat}
    (h : DataW.trod enc Try.prog W base (fun _ => true) held fuel 22 [.slice A len cap] = some x) :
    ∃ L : List Stp, SRow W A len L ∧ len ≤ cap ∧ cap ≤ 9223372036854775807 := by
  rcases Go.Deep.open_slice Try.underlying22 h with ⟨hcs, _⟩ | ⟨a, l, c, m, n, D, Pl, hcs, _, hl, hm, hmm, _, hx⟩
  · simp only [List.cons.injEq, Value.slice.injEq, and_true] at hcs
    obtain ⟨rfl, rfl, rfl⟩ := hcs
    exact ⟨[], ⟨rfl, fun _ h => by simp at h, fun h => by omega⟩, by omega, by omega⟩
  · simp only [List.cons.injEq, Value.slice.injEq, and_true] at hcs
    obtain ⟨rfl, rfl, rfl⟩ := hcs
    have hlm : len ≤ m := by rw [hmm]; split <;> omega
    have each : ∀ i, i < len → ∃ s : Stp, s.ok ∧ ∀ q u, (stC s)[q]? = some u → W.cell? ((a.add (i * 18)).add q) = some u := by
      intro i hi
      obtain ⟨cs', h1, h2⟩ := hx i (by omega)
      rw [cellsSt] at h1
      obtain ⟨_, hlen, hcell⟩ := World.cells?_some h1
      obtain ⟨s, hs, hin⟩ := st_cells h2
      refine ⟨s, hin, fun q u hq => ?_⟩
      have hq3 : q < 18 := by have := (List.getElem?_eq_some_iff.1 hq).1; rwa [stC_length] at this
      have e := hcell q (by omega)
      rw [e, hs]
      exact hq
    refine ⟨List.ofFn (n := len) fun i => (each i.1 i.2).choose, ⟨by simp, fun s hs => ?_, fun _ => ⟨a, rfl, fun j q u hj hq => ?_⟩⟩, hl, by simpa only [maxLen] using hm⟩
    · rw [List.mem_ofFn] at hs
      obtain ⟨i, hi⟩ := hs
      rw [← hi]
      exact (each i.1 i.2).choose_spec.1
    · have e : at_ stK (List.ofFn (n := len) fun i => (each i.1 i.2).choose) j = (each j hj).choose := by
        rw [at_eq (by simpa using hj)]
        simp
      rw [e] at hq
      exact (each j hj).choose_spec.2 q u hq
set_option maxRecDepth 100000 in
theorem open_tag {H : Type} {enc : TypeId × Value → H} {W : World} {r : Reach} {b0 base : Nat} {sp : Nat → Bool} {held : Bool} {v : Value} {d : DataW H} {p : List MemPlace}
    (hv : Value.okWide Try.prog W r b0 30 v) (h : DataW.Trod enc Try.prog W base sp held 30 v d p) : ∃ x : Tg, v = .agg (tgC x).toArray := by
  simp only [Value.okWide, Try.underlying30] at hv
  obtain ⟨cs, rfl, hsz, _⟩ := hv
  obtain ⟨fuel, hf⟩ := h
  obtain ⟨l, hl, hn⟩ := trod_bytes Try.underlying30 cellsX (cs := cs.toList) (by simpa [Value.cells] using hf)
  exact ⟨⟨l, hn⟩, by rw [tgC, ← hl, Array.toArray_toList]⟩
end Go.Proofs.Ytdilfiojfjgejaa
