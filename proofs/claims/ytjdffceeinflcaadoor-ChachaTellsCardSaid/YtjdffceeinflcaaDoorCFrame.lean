/-
  What a law's proof needs of its arguments and of the two tables of chacha.
-/
import Derived.Test.YtjdffceeinflcaaDoorCh2
import Derived.Test.YtjdffceeinflcaaDoorCards
import Derived.Test.YtjdffceeinflcaaDoorTie
import Derived.ProofKit
import Derived.OpenShut
import Derived.ShutString
import Derived.ChangeOld
import Derived.Deep.DeepHandedRow
import Derived.Lib.LaidTab
import Derived.ChangeMaps5
namespace Go.Proofs.YtjdffceeinflcaaDoor
set_option linter.unusedVariables false
open Go.ChangeShapes Go.WideShapes Go.ChangeAt Go.RowKit

theorem ownKn : ownKnob Tryd.prog.godebug = none := by kernel_rfl
theorem laidOut : laidOutB Tryd.prog = true := by kernel_rfl
theorem wf_u8 {n : Int} (h : (Lit.int .u8 n).wf = true) : 0 ≤ n ∧ n < 256 := by
  have := bounds_u8 h
  omega
/-- Numbers that fit bytes are bytes. -/
theorem bytes_of_wf : ∀ (zs : List Int), (∀ n ∈ zs, (Lit.int .u8 n).wf = true) → ∃ l : List UInt8, l.length = zs.length ∧ cellsB l = zs.map (Value.int .u8)
  | [], _ => ⟨[], rfl, rfl⟩
  | z :: zs, h => by
    obtain ⟨l, h1, h2⟩ := bytes_of_wf zs (fun n hn => h n (List.mem_cons_of_mem _ hn))
    have hz := wf_u8 (h z (List.mem_cons_self ..))
    refine ⟨UInt8.ofNat z.toNat :: l, by simp [h1], ?_⟩
    have e : ((UInt8.ofNat z.toNat).toNat : Int) = z := by
      rw [UInt8.toNat_ofNat']
      omega
    simp only [cellsB, List.map_cons] at h2 ⊢
    rw [h2, e]
/-- A slice of bytes that came in. -/
theorem row_u8 {W : World} {x : Addr} {len cap : Nat} {zs : List Int} (hl : len ≤ cap) (hz : zs.length = cap) (hcell : ∀ i, i < zs.length → W.cell? (x.add i) = some (.int .u8 (zs.getD i 0))) (hw : ∀ n ∈ zs, (Lit.int .u8 n).wf = true) :
    ∃ l : List UInt8, Rds W (some x) len (cellsB l) := by
  obtain ⟨l, h1, h2⟩ := bytes_of_wf zs hw
  refine ⟨l.take len, ?_⟩
  rw [show cellsB (l.take len) = (cellsB l).take len by simp [cellsB, List.map_take], h2]
  refine ⟨by simp; omega, fun _ => ⟨x, rfl, fun j u hu => ?_⟩⟩
  rw [List.getElem?_take] at hu
  split at hu
  · have hj : j < zs.length := by omega
    rw [hcell j hj]
    rw [List.getElem?_map, List.getElem?_eq_getElem hj] at hu
    simp only [Option.map_some, Option.some.injEq] at hu
    rw [← hu]
    simp [List.getD, List.getElem?_eq_getElem hj]
  · cases hu
theorem i64_bounds {n : Int} (h : (Lit.int .i64 n).wf = true) : -9223372036854775808 ≤ n ∧ n ≤ 9223372036854775807 := by
  have := bounds_i64 h
  omega
theorem u64_bounds {n : Int} (h : (Lit.int .u64 n).wf = true) : 0 ≤ n ∧ n < 18446744073709551616 := by
  have := bounds_u64 h
  omega
theorem u8_bounds {n : Int} (h : (Lit.int .u8 n).wf = true) : 0 ≤ n ∧ n < 256 := wf_u8 h
theorem u32_bounds {n : Int} (h : (Lit.int .u32 n).wf = true) : 0 ≤ n ∧ n < 4294967296 := by
  have := bounds_u32 h
  omega
theorem cellsKey : Tryd.prog.cellsOf 23 = 32 := by kernel_rfl
/-- An array of bytes that came in. -/
theorem open_bytes {t : TypeId} {N : Nat} (hu : Tryd.prog.underlying t = some (.array N 5)) (hC : Tryd.prog.cellsOf t = N) {H : Type} {enc : TypeId × Value → H} {W : World} {r : Reach} {b0 base : Nat} {sp : Nat → Bool} {held : Bool} {v : Value} {d : DataW H} {p : List MemPlace}
    (hv : Value.okWide Tryd.prog W r b0 t v) (h : DataW.Trod enc Tryd.prog W base sp held t v d p) : ∃ l : List UInt8, v = .agg (cellsB l).toArray ∧ l.length = N := by
  simp only [Value.okWide, hu] at hv
  obtain ⟨cs, rfl, hsz, _⟩ := hv
  obtain ⟨fuel, hf⟩ := h
  obtain ⟨xs, m, _, _, hl, hxl, hel⟩ := DataW.trod_array hu hf
  have hcl : cs.toList.length = N := by rw [show cs.toList.length = cs.size by simp, hsz, hC]
  have each : ∀ i, i < N → ∃ b : UInt8, cs.toList[i]? = some (.int .u8 (b.toNat : Int)) := by
    intro i hi
    have h1 := hel i hi
    rw [cells5, Nat.mul_one] at h1
    have hc : cs.toList[i]? = some (cs.toList[i]'(by omega)) := List.getElem?_eq_getElem (by omega)
    have h2 : (((Value.agg cs).cells.toList.drop i).take 1) = [cs.toList[i]'(by omega)] := by
      show ((cs.toList.drop i).take 1) = _
      rw [List.drop_eq_getElem_cons (by omega)]
      rfl
    rw [h2] at h1
    have h3 : xs[i]? = some (xs[i]'(by omega)) := List.getElem?_eq_getElem (by omega)
    rw [h3] at h1
    obtain ⟨n, hn, _, hw⟩ := DataW.trod_int Tryd.underlying5 h1
    have hb := wf_u8 hw
    refine ⟨UInt8.ofNat n.toNat, ?_⟩
    rw [hc]
    have : cs.toList[i]'(by omega) = .int .u8 n := by simpa using hn
    rw [this, UInt8.toNat_ofNat']
    congr 2
    omega
  refine ⟨List.ofFn (n := N) fun i => (each i.1 i.2).choose, ?_, by simp⟩
  congr 1
  apply Array.ext'
  apply List.ext_getElem?
  intro j
  show cs.toList[j]? = (cellsB _)[j]?
  by_cases hj : j < N
  · rw [(each j hj).choose_spec, cellsB_get, List.getElem?_ofFn, dif_pos hj]
    rfl
  · rw [List.getElem?_eq_none (by omega), List.getElem?_eq_none (by rw [cellsB_length]; simp; omega)]
theorem open_text {H : Type} {enc : TypeId × Value → H} {W : World} {r : Reach} {b0 base : Nat} {sp : Nat → Bool} {held : Bool} {v : Value} {d : DataW H} {p : List MemPlace}
    (hv : Value.okWide Tryd.prog W r b0 9 v) (h : DataW.Trod enc Tryd.prog W base sp held 9 v d p) : ∃ l : List UInt8, v = .string ⟨l.toArray⟩ ∧ l.length ≤ 9223372036854775807 := by
  obtain ⟨s, rfl, _, _, hs⟩ := Go.ChangeMaps.open_string Tryd.underlying9 hv h
  exact ⟨s.data.toList, by simp, by rw [Array.length_toList]; have h : s.data.size = s.size := rfl; simp only [maxLen] at hs; omega⟩
theorem cells12 : Tryd.prog.cellsOf 25 = 12 := by kernel_rfl
theorem gF : Tryd.prog.globalNamed "hourglass/chacha.first" = some 0 := by kernel_rfl
theorem gQ : Tryd.prog.globalNamed "hourglass/chacha.quarters" = some 1 := by kernel_rfl
theorem gFt : (Tryd.prog.globals[0]?).map (·.type) = some 52 := by kernel_rfl
theorem gQt : (Tryd.prog.globals[1]?).map (·.type) = some 55 := by kernel_rfl
theorem cellsF : Tryd.prog.cellsOf 52 = 4 := by kernel_rfl
theorem cellsQ : Tryd.prog.cellsOf 55 = 32 := by kernel_rfl
theorem cellsQ4 : Tryd.prog.cellsOf 54 = 4 := by kernel_rfl
theorem cellsU : Tryd.prog.cellsOf 24 = 1 := by kernel_rfl
theorem cellsI1 : Tryd.prog.cellsOf 3 = 1 := by kernel_rfl
theorem underI : Tryd.prog.underlying 3 = some (.int .i64) := by kernel_rfl
theorem underQ : Tryd.prog.underlying 55 = some (.array 8 54) := by kernel_rfl
theorem underQ4 : Tryd.prog.underlying 54 = some (.array 4 3) := by kernel_rfl

def laidCha : List (String × DataW Unit) := [("hourglass/chacha.first", Rows.laid_hourglass_chacha_first), ("hourglass/chacha.quarters", Rows.laid_hourglass_chacha_quarters)]
def ints (l : List Nat) : List Int := l.map fun n : Nat => (n : Int)
theorem ints_get (l : List Nat) (i : Nat) (h : i < l.length) : (ints l).getD i 0 = ((l.getD i 0 : Nat) : Int) := by
  simp [ints, List.getD_eq_getElem?_getD, List.getElem?_eq_getElem h]
def rowsQ : List (List Int) := [ints [0, 4, 8, 12], ints [1, 5, 9, 13], ints [2, 6, 10, 14], ints [3, 7, 11, 15], ints [0, 5, 10, 15], ints [1, 6, 11, 12], ints [2, 7, 8, 13], ints [3, 4, 9, 14]]
theorem rowsQ_at (i j : Nat) (hi : i < 8) (hj : j < 4) : ((rowsQ.getD i []).map fun z => Value.int .i64 z)[j]? = some (.int .i64 (quartersL.getD (i * 4 + j) 0 : Nat)) := by
  have all : ∀ (i : Fin 8) (j : Fin 4), ((rowsQ.getD i.val [])[j.val]?) = some ((quartersL.getD (i.val * 4 + j.val) 0 : Nat) : Int) := by decide
  rw [List.getElem?_map, all ⟨i, hi⟩ ⟨j, hj⟩]
  rfl
theorem cells_of_rows {H : Type} {enc : TypeId × Value → H} {w : World} {base : Nat} {sp : Nat → Bool} {held : Bool} {fuel : Nat} {cs : List Value} {p : List MemPlace}
    (h : DataW.trod enc Tryd.prog w base sp held fuel 55 cs = some (.agg (rowsQ.map fun r => Lib.tabData .i64 r), p)) (i j : Nat) (hi : i < 8) (hj : j < 4) : cs[i * 4 + j]? = some (.int .i64 (quartersL.getD (i * 4 + j) 0 : Nat)) := by
  obtain ⟨xs, m, _, hx, hl, hxl, hel⟩ := DataW.trod_array underQ h
  have hxs : xs.map (·.1) = rowsQ.map fun r => (Lib.tabData .i64 r : DataW H) := by
    have := congrArg Prod.fst hx
    simpa using this.symm
  have h1 := hel i hi
  have hxi : xs[i]? = some (xs[i]'(by omega)) := List.getElem?_eq_getElem (by omega)
  rw [hxi, cellsQ4] at h1
  have h2 : (xs[i]'(by omega)).1 = Lib.tabData .i64 (rowsQ.getD i []) := by
    have h3 : (xs.map (·.1))[i]? = (rowsQ.map fun r => (Lib.tabData .i64 r : DataW H))[i]? := by rw [hxs]
    rw [List.getElem?_map, List.getElem?_map, hxi, List.getElem?_eq_getElem (by show i < 8; exact hi)] at h3
    simp only [Option.map_some, Option.some.injEq] at h3
    rw [h3, List.getD_eq_getElem?_getD, List.getElem?_eq_getElem (by show i < 8; exact hi)]
    rfl
  have h4 : DataW.trod enc Tryd.prog w base sp held m 54 ((cs.drop (i * 4)).take 4) = some (Lib.tabData .i64 (rowsQ.getD i []), (xs[i]'(by omega)).2) := by rw [h1, ← h2]
  have h5 := Lib.cells_of_tab underQ4 underI cellsI1 cellsQ4 h4
  have h6 := rowsQ_at i j hi hj
  rw [← h5, List.getElem?_take, if_pos hj, List.getElem?_drop] at h6
  exact h6

set_option maxRecDepth 100000 in
theorem gc_of_laid {W : World} (h0 : laidMet Tryd.prog laidCha W) : Gc W ∧ 2 ≤ W.heap.size := by
  have h : laidMet Tryd.prog [("hourglass/chacha.first", Lib.tabData .u32 (ints first4)), ("hourglass/chacha.quarters", .agg (rowsQ.map fun r => Lib.tabData .i64 r))] W := h0
  obtain ⟨ps, ⟨g, t, cs, f, p, q, hg, ht, hv, hd, ⟨g1, t1, cs1, f1, p1, q1, hg1, ht1, hv1, hd1, _, _⟩, _⟩, _⟩ := h
  obtain rfl := Option.some.inj (gF.symm.trans hg)
  obtain rfl := Option.some.inj (gQ.symm.trans hg1)
  obtain rfl := Option.some.inj (gFt.symm.trans ht)
  obtain rfl := Option.some.inj (gQt.symm.trans ht1)
  have c0 := Lib.cells_of_tab under4w underU32 cellsU cellsF hd
  have k0 : ∀ i, i < 4 → W.cell? ⟨0, i, none⟩ = some (.int .u32 (first4.getD i 0 : Nat)) := by
    intro i hi
    have := World.var?_cell hg hv i
    have hc : cs[i]? = some (.int .u32 (first4.getD i 0 : Nat)) := by
      rw [← Array.getElem?_toList, c0, List.getElem?_map, ← ints_get first4 i hi, List.getD_eq_getElem?_getD, List.getElem?_eq_getElem (by show i < 4; exact hi)]
      rfl
    rw [← hc]
    exact this
  have k1 : ∀ i, i < 32 → W.cell? ⟨1, i, none⟩ = some (.int .i64 (quartersL.getD i 0 : Nat)) := by
    intro i hi
    have := World.var?_cell hg1 hv1 i
    have hc := cells_of_rows hd1 (i / 4) (i % 4) (by omega) (by omega)
    rw [show i / 4 * 4 + i % 4 = i by omega, Array.getElem?_toList] at hc
    rw [← hc]
    exact this
  exact ⟨⟨k0, k1⟩, World.block_lt_of_cell? W _ (k1 0 (by omega))⟩

def layF : Obj → Obj
  | .cells _ t frozen => .cells (cellsW first4).toArray t frozen
  | o => o
def layQ : Obj → Obj
  | .cells _ t frozen => .cells (cellsI quartersL).toArray t frozen
  | o => o
/-- A world for the witness: the settled one, the tables as their initialisers lay them. -/
noncomputable def laidWorld (os : Os) : World :=
  { World.holding Tryd.prog os ⟨#[], #[], []⟩ with heap := ((World.holding Tryd.prog os ⟨#[], #[], []⟩).heap.modify 0 layF).modify 1 layQ }
end Go.Proofs.YtjdffceeinflcaaDoor
