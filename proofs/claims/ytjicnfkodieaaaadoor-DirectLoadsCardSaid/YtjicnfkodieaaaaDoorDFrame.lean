/-
  What a law's proof needs of its arguments: records, one and in a row; numbers and rows of numbers.
-/
import Derived.Test.YtjicnfkodieaaaaDoorDSFrame
import Derived.Test.YtjicnfkodieaaaaDoorDr10
import Derived.Lib.SmallJoins
import Derived.Deep.Matrix
namespace Go.Proofs.YtjicnfkodieaaaaDoor
set_option linter.unusedVariables false
set_option linter.unusedSimpArgs false
open Go.ChangeShapes Go.WideShapes Go.ChangeAt Go.RowKit Go.Joins

theorem u32_bounds {n : Int} (h : (Lit.int .u32 n).wf = true) : 0 ≤ n ∧ n < 4294967296 := by
  have := bounds_u32 h
  omega
theorem u16_bounds {n : Int} (h : (Lit.int .u16 n).wf = true) : 0 ≤ n ∧ n < 65536 := by
  have := bounds_u16 h
  omega
theorem cellsRec : Tryd.prog.cellsOf 37 = 4 := by kernel_rfl
theorem cellsAd : Tryd.prog.cellsOf 25 = 1 := by kernel_rfl
theorem cells32u : Tryd.prog.cellsOf 35 = 1 := by kernel_rfl
set_option maxRecDepth 100000 in
/-- Four cells that read as a record are a record's. -/
theorem rec_cells {H : Type} {enc : TypeId × Value → H} {W : World} {base : Nat} {sp : Nat → Bool} {held : Bool} {fuel : Nat} {cs : List Value} {x : DataW H × List MemPlace}
    (h : DataW.trod enc Tryd.prog W base sp held fuel 37 cs = some x) : ∃ r : Rec, cs = recC r ∧ r.in32 := by
  obtain ⟨y0, y1, y2, y3, n, _, hl, h0, h1, h2, h3⟩ := trod_struct4 Tryd.underlying37 h
  rw [cellsRec] at hl
  match cs, hl with
  | [v0, v1, v2, v3], _ =>
    simp [cellsAd, cells32u] at h0 h1 h2 h3
    obtain ⟨n0, q0, _, w0⟩ := DataW.trod_int Tryd.underlying25 h0
    obtain ⟨n1, q1, _, w1⟩ := DataW.trod_int Tryd.underlying35 h1
    obtain ⟨n2, q2, _, w2⟩ := DataW.trod_int Tryd.underlying35 h2
    obtain ⟨n3, q3, _, w3⟩ := DataW.trod_int Tryd.underlying35 h3
    simp only [List.cons.injEq, and_true] at q0 q1 q2 q3
    subst q0 q1 q2 q3
    have b0 := u16_bounds w0
    have b1 := u32_bounds w1
    have b2 := u32_bounds w2
    have b3 := u32_bounds w3
    refine ⟨⟨n0.toNat, n1.toNat, n2.toNat, n3.toNat⟩, ?_, by unfold Rec.in32; simp only; omega⟩
    simp only [recC]
    rw [Int.toNat_of_nonneg b0.1, Int.toNat_of_nonneg b1.1, Int.toNat_of_nonneg b2.1, Int.toNat_of_nonneg b3.1]
set_option maxRecDepth 100000 in
theorem open_rec {H : Type} {enc : TypeId × Value → H} {W : World} {r : Reach} {b0 base : Nat} {sp : Nat → Bool} {held : Bool} {v : Value} {d : DataW H} {p : List MemPlace}
    (hv : Value.okWide Tryd.prog W r b0 37 v) (h : DataW.Trod enc Tryd.prog W base sp held 37 v d p) : ∃ r : Rec, v = recV r ∧ r.in32 := by
  obtain ⟨cs, rfl, hsz⟩ := okWide_struct Tryd.underlying37 hv
  obtain ⟨fuel, hf⟩ := h
  obtain ⟨r, hr, hi⟩ := rec_cells (cs := cs.toList) (by simpa [Value.cells] using hf)
  refine ⟨r, ?_, hi⟩
  unfold recV
  rw [← hr, Array.toArray_toList]

/-- Records that came in, in a row. -/
def RRow (w : World) (A : Option Addr) (n : Nat) (L : List Rec) : Prop :=
  L.length = n ∧ (∀ r ∈ L, r.in32) ∧ (0 < n → ∃ a, A = some a ∧ ∀ j q u, j < n → (recC (L.getD j default))[q]? = some u → w.cell? ((a.add (j * 4)).add q) = some u)
theorem RRow.frm {w w' : World} {A : Option Addr} {n : Nat} {L : List Rec} (h : RRow w A n L) (f : Below w.heap.size w w') : RRow w' A n L := by
  refine ⟨h.1, h.2.1, fun hn => ?_⟩
  obtain ⟨a, rfl, hc⟩ := h.2.2 hn
  refine ⟨a, rfl, fun j q u hj hq => ?_⟩
  have h1 := hc j q u hj hq
  rw [f.cell (World.block_lt_of_cell? w _ h1)]
  exact h1
set_option maxRecDepth 100000 in
theorem row_recs {H : Type} {enc : TypeId × Value → H} {W : World} {base : Nat} {held : Bool} {fuel : Nat} {x : DataW H × List MemPlace} {A : Option Addr} {len cap : Nat}
    (h : DataW.trod enc Tryd.prog W base (fun _ => true) held fuel 22 [.slice A len cap] = some x) :
    ∃ L : List Rec, RRow W A len L ∧ len ≤ cap ∧ cap ≤ 9223372036854775807 := by
  rcases Go.Deep.open_slice Tryd.underlying22 h with ⟨hcs, _⟩ | ⟨a, l, c, m, n, D, Pl, hcs, _, hl, hm, hmm, _, hx⟩
  · simp only [List.cons.injEq, Value.slice.injEq, and_true] at hcs
    obtain ⟨rfl, rfl, rfl⟩ := hcs
    exact ⟨[], ⟨rfl, fun _ h => by simp at h, fun h => by omega⟩, by omega, by omega⟩
  · simp only [List.cons.injEq, Value.slice.injEq, and_true] at hcs
    obtain ⟨rfl, rfl, rfl⟩ := hcs
    have hlm : len ≤ m := by rw [hmm]; split <;> omega
    have each : ∀ i, i < len → ∃ r : Rec, r.in32 ∧ ∀ q u, (recC r)[q]? = some u → W.cell? ((a.add (i * 4)).add q) = some u := by
      intro i hi
      obtain ⟨cs', h1, h2⟩ := hx i (by omega)
      rw [cellsRec] at h1
      obtain ⟨_, hlen, hcell⟩ := World.cells?_some h1
      obtain ⟨r, hr, hin⟩ := rec_cells h2
      refine ⟨r, hin, fun q u hq => ?_⟩
      have hq4 : q < 4 := by have := (List.getElem?_eq_some_iff.1 hq).1; rwa [recC_length] at this
      have e := hcell q (by omega)
      rw [e, hr]
      exact hq
    refine ⟨List.ofFn (n := len) fun i => (each i.1 i.2).choose, ⟨by simp, fun r hr => ?_, fun _ => ⟨a, rfl, fun j q u hj hq => ?_⟩⟩, hl, by simpa only [maxLen] using hm⟩
    · rw [List.mem_ofFn] at hr
      obtain ⟨i, hi⟩ := hr
      rw [← hi]
      exact (each i.1 i.2).choose_spec.1
    · have e : (List.ofFn (n := len) fun i => (each i.1 i.2).choose).getD j default = (each j hj).choose := by
        rw [List.getD_eq_getElem?_getD, List.getElem?_eq_getElem (by simpa using hj)]
        simp
      rw [e] at hq
      exact (each j hj).choose_spec.2 q u hq
end Go.Proofs.YtjicnfkodieaaaaDoor
