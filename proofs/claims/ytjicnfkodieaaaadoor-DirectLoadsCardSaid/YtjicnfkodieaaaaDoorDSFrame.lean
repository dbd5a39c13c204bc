/-
  What a law's proof needs of its arguments and of the two tables.
-/
import Derived.Test.YtjicnfkodieaaaaDoorSha2
import Derived.Test.YtjicnfkodieaaaaDoorCards
import Derived.Test.YtjicnfkodieaaaaDoorTie
import Derived.ProofKit
import Derived.OpenShut
import Derived.ShutString
import Derived.ChangeOld
import Derived.Deep.DeepHandedRow
import Derived.Lib.LaidTab
namespace Go.Proofs.YtjicnfkodieaaaaDoor
set_option linter.unusedVariables false
open Go.ChangeShapes Go.WideShapes Go.ChangeAt Go.RowKit

theorem ownKn : ownKnob Tryd.prog.godebug = none := by kernel_rfl
theorem laidOut : laidOutB Tryd.prog = true := by kernel_rfl

theorem wf_u8 {n : Int} (h : (Lit.int .u8 n).wf = true) : 0 ≤ n ∧ n < 256 := by
  have := bounds_u8 h
  omega

/-- Numbers that fit bytes are bytes. -/
theorem bytes_of_wf : ∀ (zs : List Int), (∀ n ∈ zs, (Lit.int .u8 n).wf = true) → ∃ l : List UInt8, l.length = zs.length ∧ cellsB l = zs.map (Value.int .u8)
  | [], _ => ⟨[], rfl, rfl⟩
  | z :: zs, h => by
    obtain ⟨l, h1, h2⟩ := bytes_of_wf zs (fun n hn => h n (List.mem_cons_of_mem _ hn))
    have hz := wf_u8 (h z (List.mem_cons_self ..))
    refine ⟨UInt8.ofNat z.toNat :: l, by simp [h1], ?_⟩
    have e : ((UInt8.ofNat z.toNat).toNat : Int) = z := by
      rw [UInt8.toNat_ofNat']
      omega
    simp only [cellsB, List.map_cons] at h2 ⊢
    rw [h2, e]

/-- A slice of bytes that came in. -/
theorem row_u8 {W : World} {x : Addr} {len cap : Nat} {zs : List Int} (hl : len ≤ cap) (hz : zs.length = cap) (hcell : ∀ i, i < zs.length → W.cell? (x.add i) = some (.int .u8 (zs.getD i 0))) (hw : ∀ n ∈ zs, (Lit.int .u8 n).wf = true) :
    ∃ l : List UInt8, Rds W (some x) len (cellsB l) := by
  obtain ⟨l, h1, h2⟩ := bytes_of_wf zs hw
  refine ⟨l.take len, ?_⟩
  rw [show cellsB (l.take len) = (cellsB l).take len by simp [cellsB, List.map_take], h2]
  refine ⟨by simp; omega, fun _ => ⟨x, rfl, fun j u hu => ?_⟩⟩
  rw [List.getElem?_take] at hu
  split at hu
  · have hj : j < zs.length := by omega
    rw [hcell j hj]
    rw [List.getElem?_map, List.getElem?_eq_getElem hj] at hu
    simp only [Option.map_some, Option.some.injEq] at hu
    rw [← hu]
    simp [List.getD, List.getElem?_eq_getElem hj]
  · cases hu

theorem i64_bounds {n : Int} (h : (Lit.int .i64 n).wf = true) : -9223372036854775808 ≤ n ∧ n ≤ 9223372036854775807 := by
  have := bounds_i64 h
  omega
theorem u64_bounds {n : Int} (h : (Lit.int .u64 n).wf = true) : 0 ≤ n ∧ n < 18446744073709551616 := by
  have := bounds_u64 h
  omega
theorem u8_bounds {n : Int} (h : (Lit.int .u8 n).wf = true) : 0 ≤ n ∧ n < 256 := wf_u8 h

theorem gK : Tryd.prog.globalNamed "hourglass/sha.k" = some 0 := by kernel_rfl
theorem gF : Tryd.prog.globalNamed "hourglass/sha.first" = some 1 := by kernel_rfl
theorem gKt : (Tryd.prog.globals[0]?).map (·.type) = some 140 := by kernel_rfl
theorem gFt : (Tryd.prog.globals[1]?).map (·.type) = some 98 := by kernel_rfl
theorem cellsK64 : Tryd.prog.cellsOf 140 = 64 := by kernel_rfl
theorem cellsF : Tryd.prog.cellsOf 98 = 8 := by kernel_rfl
theorem cellsU : Tryd.prog.cellsOf 35 = 1 := by kernel_rfl
theorem underK : Tryd.prog.underlying 140 = some (.array 64 35) := by kernel_rfl
theorem underF : Tryd.prog.underlying 98 = some (.array 8 35) := by kernel_rfl
theorem underU : Tryd.prog.underlying 35 = some (.int .u32) := by kernel_rfl

def laidSha : List (String × DataW Unit) := [("hourglass/sha.k", Rows.laid_hourglass_sha_k), ("hourglass/sha.first", Rows.laid_hourglass_sha_first)]
def ints (l : List Nat) : List Int := l.map fun n : Nat => (n : Int)
theorem ints_get (l : List Nat) (i : Nat) (h : i < l.length) : (ints l).getD i 0 = ((l.getD i 0 : Nat) : Int) := by
  simp [ints, List.getD_eq_getElem?_getD, List.getElem?_eq_getElem h]

set_option maxRecDepth 100000 in
theorem gl_of_laid {W : World} (h0 : laidMet Tryd.prog laidSha W) : Gl W ∧ 2 ≤ W.heap.size := by
  have h : laidMet Tryd.prog [("hourglass/sha.k", Lib.tabData .u32 (ints kL)), ("hourglass/sha.first", Lib.tabData .u32 (ints firstL))] W := h0
  obtain ⟨ps, ⟨g, t, cs, f, p, q, hg, ht, hv, hd, ⟨g1, t1, cs1, f1, p1, q1, hg1, ht1, hv1, hd1, _, _⟩, _⟩, _⟩ := h
  obtain rfl := Option.some.inj (gK.symm.trans hg)
  obtain rfl := Option.some.inj (gF.symm.trans hg1)
  obtain rfl := Option.some.inj (gKt.symm.trans ht)
  obtain rfl := Option.some.inj (gFt.symm.trans ht1)
  have c0 := Lib.cells_of_tab underK underU cellsU cellsK64 hd
  have c1 := Lib.cells_of_tab underF underU cellsU cellsF hd1
  have k0 : ∀ i, i < 64 → W.cell? ⟨0, i, none⟩ = some (.int .u32 (kL.getD i 0 : Nat)) := by
    intro i hi
    have := World.var?_cell hg hv i
    have hc : cs[i]? = some (.int .u32 (kL.getD i 0 : Nat)) := by
      rw [← Array.getElem?_toList, c0, List.getElem?_map, ← ints_get kL i hi, List.getD_eq_getElem?_getD, List.getElem?_eq_getElem (by show i < 64; exact hi)]
      rfl
    rw [← hc]
    exact this
  have k1 : ∀ i, i < 8 → W.cell? ⟨1, i, none⟩ = some (.int .u32 (firstL.getD i 0 : Nat)) := by
    intro i hi
    have := World.var?_cell hg1 hv1 i
    have hc : cs1[i]? = some (.int .u32 (firstL.getD i 0 : Nat)) := by
      rw [← Array.getElem?_toList, c1, List.getElem?_map, ← ints_get firstL i hi, List.getD_eq_getElem?_getD, List.getElem?_eq_getElem (by show i < 8; exact hi)]
      rfl
    rw [← hc]
    exact this
  exact ⟨⟨k0, k1⟩, World.block_lt_of_cell? W _ (k1 0 (by omega))⟩

def layK : Obj → Obj
  | .cells _ t frozen => .cells (cellsW kL).toArray t frozen
  | o => o
def layF : Obj → Obj
  | .cells _ t frozen => .cells (cellsW firstL).toArray t frozen
  | o => o
/-- A world for the witness: the settled one, the tables as their initialisers lay them. -/
noncomputable def laidWorld (os : Os) : World :=
  { World.holding Tryd.prog os ⟨#[], #[], []⟩ with heap := ((World.holding Tryd.prog os ⟨#[], #[], []⟩).heap.modify 0 layK).modify 1 layF }
end Go.Proofs.YtjicnfkodieaaaaDoor
