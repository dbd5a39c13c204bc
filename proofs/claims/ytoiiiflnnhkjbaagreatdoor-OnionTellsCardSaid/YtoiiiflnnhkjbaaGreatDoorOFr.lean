/-
  What a law's proof needs of its arguments and of the four tables: packets, slots, rows of hops, arrays of bytes.
-/
import Derived.Test.YtoiiiflnnhkjbaaGreatDoorOnSh
import Derived.Test.YtoiiiflnnhkjbaaGreatDoorOnH
import Derived.Test.YtoiiiflnnhkjbaaGreatDoorCards
import Derived.Test.YtoiiiflnnhkjbaaGreatDoorTie
import Derived.ProofKit
import Derived.OpenShut
import Derived.ShutString
import Derived.ChangeOld
import Derived.Deep.DeepHandedRow
import Derived.Deep.Matrix
import Derived.Lib.LaidTab
import Derived.ChangeMaps5
namespace Go.Proofs.YtoiiiflnnhkjbaaGreatDoor
set_option linter.unusedVariables false
set_option linter.unusedSimpArgs false
open Go.ChangeShapes Go.WideShapes Go.ChangeAt Go.RowKit

theorem ownKn : ownKnob Tryz.prog.godebug = none := by kernel_rfl
theorem laidOut : laidOutB Tryz.prog = true := by kernel_rfl
theorem wf_u8 {n : Int} (h : (Lit.int .u8 n).wf = true) : 0 ≤ n ∧ n < 256 := by
  have := bounds_u8 h
  omega
theorem u64_bounds {n : Int} (h : (Lit.int .u64 n).wf = true) : 0 ≤ n ∧ n < 18446744073709551616 := by
  have := bounds_u64 h
  omega
theorem u32_bounds {n : Int} (h : (Lit.int .u32 n).wf = true) : 0 ≤ n ∧ n < 4294967296 := by
  have := bounds_u32 h
  omega
theorem u16_bounds {n : Int} (h : (Lit.int .u16 n).wf = true) : 0 ≤ n ∧ n < 65536 := by
  have := bounds_u16 h
  omega
theorem cellsPk : Tryz.prog.cellsOf 34 = 610 := by kernel_rfl
theorem cellsAd : Tryz.prog.cellsOf 48 = 1 := by kernel_rfl
theorem cellsWh : Tryz.prog.cellsOf 27 = 1 := by kernel_rfl
theorem cells32u : Tryz.prog.cellsOf 28 = 1 := by kernel_rfl
theorem cells64u : Tryz.prog.cellsOf 49 = 1 := by kernel_rfl
theorem cellsNo : Tryz.prog.cellsOf 30 = 16 := by kernel_rfl
theorem cellsMa : Tryz.prog.cellsOf 31 = 16 := by kernel_rfl
theorem cellsHd : Tryz.prog.cellsOf 32 = 320 := by kernel_rfl
theorem cellsBd : Tryz.prog.cellsOf 24 = 256 := by kernel_rfl
set_option maxRecDepth 100000 in
/-- Cells of bytes that read as an array's are bytes. -/
theorem trod_bytes {t : TypeId} {N : Nat} (hu : Tryz.prog.underlying t = some (.array N 5)) (hC : Tryz.prog.cellsOf t = N) {H : Type} {enc : TypeId × Value → H} {W : World} {base : Nat} {sp : Nat → Bool} {held : Bool} {fuel : Nat} {cs : List Value} {x : DataW H × List MemPlace}
    (hf : DataW.trod enc Tryz.prog W base sp held fuel t cs = some x) : ∃ l : List UInt8, cs = cellsB l ∧ l.length = N := by
  obtain ⟨xs, m, _, _, hl, hxl, hel⟩ := DataW.trod_array hu hf
  rw [hC] at hl
  have each : ∀ i, i < N → ∃ b : UInt8, cs[i]? = some (.int .u8 (b.toNat : Int)) := by
    intro i hi
    have h1 := hel i hi
    rw [cells5, Nat.mul_one] at h1
    have hc : cs[i]? = some (cs[i]'(by omega)) := List.getElem?_eq_getElem (by omega)
    have h2 : (cs.drop i).take 1 = [cs[i]'(by omega)] := by
      rw [List.drop_eq_getElem_cons (by omega)]
      rfl
    rw [h2] at h1
    have h3 : xs[i]? = some (xs[i]'(by omega)) := List.getElem?_eq_getElem (by omega)
    rw [h3] at h1
    obtain ⟨n, hn, _, hw⟩ := DataW.trod_int Tryz.underlying5 h1
    have hb := wf_u8 hw
    refine ⟨UInt8.ofNat n.toNat, ?_⟩
    rw [hc]
    have : cs[i]'(by omega) = .int .u8 n := by simpa using hn
    rw [this, UInt8.toNat_ofNat']
    congr 2
    omega
  refine ⟨List.ofFn (n := N) fun i => (each i.1 i.2).choose, ?_, by simp⟩
  apply List.ext_getElem?
  intro j
  by_cases hj : j < N
  · rw [(each j hj).choose_spec, cellsB_get, List.getElem?_ofFn, dif_pos hj]
    rfl
  · rw [List.getElem?_eq_none (by omega), List.getElem?_eq_none (by rw [cellsB_length]; simp; omega)]
theorem split_at {α : Type} (l : List α) (i j : Nat) : (l.drop i) = (l.drop i).take j ++ l.drop (i + j) := by
  rw [← List.drop_drop]
  exact (List.take_append_drop j (l.drop i)).symm
set_option maxRecDepth 100000 in
/-- Cells that read as a packet are a packet's. -/
theorem pkt_cells {H : Type} {enc : TypeId × Value → H} {W : World} {base : Nat} {sp : Nat → Bool} {held : Bool} {fuel : Nat} {cs : List Value} {x : DataW H × List MemPlace}
    (h : DataW.trod enc Tryz.prog W base sp held fuel 34 cs = some x) : ∃ p : Pkt, cs = pktC p ∧ p.ok := by
  obtain ⟨xs, n, _, _, hl, hlen, hf⟩ := DataW.trod_struct Tryz.underlying34 h
  rw [cellsPk] at hl
  match xs, hlen with
  | [y0, y1, y2, y3, y4, y5], _ =>
    have h0 : DataW.trod enc Tryz.prog W base sp held n 27 ((cs.drop 0).take (Tryz.prog.cellsOf 27)) = some y0 := hf 0 _ rfl
    rw [cellsWh] at h0
    have h1 : DataW.trod enc Tryz.prog W base sp held n 28 ((cs.drop 1).take (Tryz.prog.cellsOf 28)) = some y1 := hf 1 _ rfl
    rw [cells32u] at h1
    have h2 : DataW.trod enc Tryz.prog W base sp held n 30 ((cs.drop 2).take (Tryz.prog.cellsOf 30)) = some y2 := hf 2 _ rfl
    rw [cellsNo] at h2
    have h3 : DataW.trod enc Tryz.prog W base sp held n 31 ((cs.drop 18).take (Tryz.prog.cellsOf 31)) = some y3 := hf 3 _ rfl
    rw [cellsMa] at h3
    have h4 : DataW.trod enc Tryz.prog W base sp held n 32 ((cs.drop 34).take (Tryz.prog.cellsOf 32)) = some y4 := hf 4 _ rfl
    rw [cellsHd] at h4
    have h5 : DataW.trod enc Tryz.prog W base sp held n 24 ((cs.drop 354).take (Tryz.prog.cellsOf 24)) = some y5 := hf 5 _ rfl
    rw [cellsBd] at h5
    obtain ⟨n0, q0, _, w0⟩ := DataW.trod_int Tryz.underlying27 h0
    obtain ⟨n1, q1, _, w1⟩ := DataW.trod_int Tryz.underlying28 h1
    obtain ⟨l2, q2, w2⟩ := trod_bytes underN cellsNo h2
    obtain ⟨l3, q3, w3⟩ := trod_bytes underM cellsMa h3
    obtain ⟨l4, q4, w4⟩ := trod_bytes under320 cellsHd h4
    obtain ⟨l5, q5, w5⟩ := trod_bytes under256 cellsBd h5
    have b0 := u16_bounds w0
    have b1 := u32_bounds w1
    refine ⟨⟨n0.toNat, n1.toNat, l2, l3, l4, l5⟩, ?_, by simp only; omega, by simp only; omega, w2, w3, w4, w5⟩
    simp only [pktC]
    rw [Int.toNat_of_nonneg b0.1, Int.toNat_of_nonneg b1.1]
    have e : cs = cs.drop 0 := rfl
    rw [e, split_at cs 0 1, split_at cs (0 + 1) 1, split_at cs (0 + 1 + 1) 16, split_at cs (0 + 1 + 1 + 16) 16, split_at cs (0 + 1 + 1 + 16 + 16) 320, split_at cs (0 + 1 + 1 + 16 + 16 + 320) 256]
    simp only [Nat.zero_add, Nat.reduceAdd]
    rw [q0, q1, q2, q3, q4, q5, List.drop_eq_nil_of_le (by omega)]
    simp
set_option maxRecDepth 100000 in
theorem open_bytes {t : TypeId} {N : Nat} (hu : Tryz.prog.underlying t = some (.array N 5)) (hC : Tryz.prog.cellsOf t = N) {H : Type} {enc : TypeId × Value → H} {W : World} {r : Reach} {b0 base : Nat} {sp : Nat → Bool} {held : Bool} {v : Value} {d : DataW H} {p : List MemPlace}
    (hv : Value.okWide Tryz.prog W r b0 t v) (h : DataW.Trod enc Tryz.prog W base sp held t v d p) : ∃ l : List UInt8, v = .agg (cellsB l).toArray ∧ l.length = N := by
  simp only [Value.okWide, hu] at hv
  obtain ⟨cs, rfl, hsz, _⟩ := hv
  obtain ⟨fuel, hf⟩ := h
  obtain ⟨l, hl, hn⟩ := trod_bytes hu hC (cs := cs.toList) (by simpa [Value.cells] using hf)
  exact ⟨l, by rw [← hl, Array.toArray_toList], hn⟩
set_option maxRecDepth 100000 in
theorem open_pkt {H : Type} {enc : TypeId × Value → H} {W : World} {r : Reach} {b0 base : Nat} {sp : Nat → Bool} {held : Bool} {v : Value} {d : DataW H} {p : List MemPlace}
    (hv : Value.okWide Tryz.prog W r b0 34 v) (h : DataW.Trod enc Tryz.prog W base sp held 34 v d p) : ∃ s : Pkt, v = .agg (pktC s).toArray ∧ s.ok := by
  obtain ⟨cs, rfl, hsz⟩ := okWide_struct Tryz.underlying34 hv
  obtain ⟨fuel, hf⟩ := h
  obtain ⟨r, hr, hi⟩ := pkt_cells (cs := cs.toList) (by simpa [Value.cells] using hf)
  exact ⟨r, by rw [← hr, Array.toArray_toList], hi⟩
theorem gSk : Tryz.prog.globalNamed "hourglass/sha.k" = some 2 := by kernel_rfl
theorem gSf : Tryz.prog.globalNamed "hourglass/sha.first" = some 3 := by kernel_rfl
theorem gSkt : (Tryz.prog.globals[2]?).map (·.type) = some 183 := by kernel_rfl
theorem gSft : (Tryz.prog.globals[3]?).map (·.type) = some 144 := by kernel_rfl
theorem cellsSk : Tryz.prog.cellsOf 183 = 64 := by kernel_rfl
theorem cellsSf : Tryz.prog.cellsOf 144 = 8 := by kernel_rfl
theorem cellsU32 : Tryz.prog.cellsOf 28 = 1 := by kernel_rfl
theorem underSk : Tryz.prog.underlying 183 = some (.array 64 28) := by kernel_rfl
theorem underSf : Tryz.prog.underlying 144 = some (.array 8 28) := by kernel_rfl
def ints (l : List Nat) : List Int := l.map fun n : Nat => (n : Int)
theorem ints_get (l : List Nat) (i : Nat) (h : i < l.length) : (ints l).getD i 0 = ((l.getD i 0 : Nat) : Int) := by
  simp [ints, List.getD_eq_getElem?_getD, List.getElem?_eq_getElem h]
def laySk : Obj → Obj
  | .cells _ t frozen => .cells (cellsW kL).toArray t frozen
  | o => o
def laySf : Obj → Obj
  | .cells _ t frozen => .cells (cellsW firstL).toArray t frozen
  | o => o
theorem cellsKey : Tryz.prog.cellsOf 26 = 32 := by kernel_rfl
theorem gCf : Tryz.prog.globalNamed "hourglass/chacha.first" = some 0 := by kernel_rfl
theorem gCq : Tryz.prog.globalNamed "hourglass/chacha.quarters" = some 1 := by kernel_rfl
theorem gCft : (Tryz.prog.globals[0]?).map (·.type) = some 176 := by kernel_rfl
theorem gCqt : (Tryz.prog.globals[1]?).map (·.type) = some 179 := by kernel_rfl
theorem cellsCf : Tryz.prog.cellsOf 176 = 4 := by kernel_rfl
theorem cellsQ4 : Tryz.prog.cellsOf 178 = 4 := by kernel_rfl
theorem cellsI1 : Tryz.prog.cellsOf 3 = 1 := by kernel_rfl
theorem underI : Tryz.prog.underlying 3 = some (.int .i64) := by kernel_rfl
theorem underQ : Tryz.prog.underlying 179 = some (.array 8 178) := by kernel_rfl
theorem underQ4 : Tryz.prog.underlying 178 = some (.array 4 3) := by kernel_rfl
def rowsQ : List (List Int) := [ints [0, 4, 8, 12], ints [1, 5, 9, 13], ints [2, 6, 10, 14], ints [3, 7, 11, 15], ints [0, 5, 10, 15], ints [1, 6, 11, 12], ints [2, 7, 8, 13], ints [3, 4, 9, 14]]
theorem rowsQ_at (i j : Nat) (hi : i < 8) (hj : j < 4) : ((rowsQ.getD i []).map fun z => Value.int .i64 z)[j]? = some (.int .i64 (quartersL.getD (i * 4 + j) 0 : Nat)) := by
  have all : ∀ (i : Fin 8) (j : Fin 4), ((rowsQ.getD i.val [])[j.val]?) = some ((quartersL.getD (i.val * 4 + j.val) 0 : Nat) : Int) := by decide
  rw [List.getElem?_map, all ⟨i, hi⟩ ⟨j, hj⟩]
  rfl
theorem cells_of_rows {H : Type} {enc : TypeId × Value → H} {w : World} {base : Nat} {sp : Nat → Bool} {held : Bool} {fuel : Nat} {cs : List Value} {p : List MemPlace}
    (h : DataW.trod enc Tryz.prog w base sp held fuel 179 cs = some (.agg (rowsQ.map fun r => Lib.tabData .i64 r), p)) (i j : Nat) (hi : i < 8) (hj : j < 4) : cs[i * 4 + j]? = some (.int .i64 (quartersL.getD (i * 4 + j) 0 : Nat)) := by
  obtain ⟨xs, m, _, hx, hl, hxl, hel⟩ := DataW.trod_array underQ h
  have hxs : xs.map (·.1) = rowsQ.map fun r => (Lib.tabData .i64 r : DataW H) := by
    have := congrArg Prod.fst hx
    simpa using this.symm
  have h1 := hel i hi
  have hxi : xs[i]? = some (xs[i]'(by omega)) := List.getElem?_eq_getElem (by omega)
  rw [hxi, cellsQ4] at h1
  have h2 : (xs[i]'(by omega)).1 = Lib.tabData .i64 (rowsQ.getD i []) := by
    have h3 : (xs.map (·.1))[i]? = (rowsQ.map fun r => (Lib.tabData .i64 r : DataW H))[i]? := by rw [hxs]
    rw [List.getElem?_map, List.getElem?_map, hxi, List.getElem?_eq_getElem (by show i < 8; exact hi)] at h3
    simp only [Option.map_some, Option.some.injEq] at h3
    rw [h3, List.getD_eq_getElem?_getD, List.getElem?_eq_getElem (by show i < 8; exact hi)]
    rfl
  have h4 : DataW.trod enc Tryz.prog w base sp held m 178 ((cs.drop (i * 4)).take 4) = some (Lib.tabData .i64 (rowsQ.getD i []), (xs[i]'(by omega)).2) := by rw [h1, ← h2]
  have h5 := Lib.cells_of_tab underQ4 underI cellsI1 cellsQ4 h4
  have h6 := rowsQ_at i j hi hj
  rw [← h5, List.getElem?_take, if_pos hj, List.getElem?_drop] at h6
  exact h6
def layCf : Obj → Obj
  | .cells _ t frozen => .cells (cellsW first4).toArray t frozen
  | o => o
def layCq : Obj → Obj
  | .cells _ t frozen => .cells (cellsI quartersL).toArray t frozen
  | o => o
def laidAll : List (String × DataW Unit) := [("hourglass/sha.k", Rows.laid_hourglass_sha_k), ("hourglass/sha.first", Rows.laid_hourglass_sha_first), ("hourglass/chacha.first", Rows.laid_hourglass_chacha_first), ("hourglass/chacha.quarters", Rows.laid_hourglass_chacha_quarters)]

set_option maxRecDepth 100000 in
theorem tb_of_laid {W : World} (h0 : laidMet Tryz.prog laidAll W) : Tb W := by
  have h : laidMet Tryz.prog [("hourglass/sha.k", Lib.tabData .u32 (ints kL)), ("hourglass/sha.first", Lib.tabData .u32 (ints firstL)), ("hourglass/chacha.first", Lib.tabData .u32 (ints first4)), ("hourglass/chacha.quarters", .agg (rowsQ.map fun r => Lib.tabData .i64 r))] W := h0
  obtain ⟨ps, ⟨g, t, cs, f, p, q, hg, ht, hv, hd, ⟨g1, t1, cs1, f1, p1, q1, hg1, ht1, hv1, hd1, ⟨g2, t2, cs2, f2, p2, q2, hg2, ht2, hv2, hd2, ⟨g3, t3, cs3, f3, p3, q3, hg3, ht3, hv3, hd3, _, _⟩, _⟩, _⟩, _⟩, _⟩ := h
  obtain rfl := Option.some.inj (gSk.symm.trans hg)
  obtain rfl := Option.some.inj (gSf.symm.trans hg1)
  obtain rfl := Option.some.inj (gCf.symm.trans hg2)
  obtain rfl := Option.some.inj (gCq.symm.trans hg3)
  obtain rfl := Option.some.inj (gSkt.symm.trans ht)
  obtain rfl := Option.some.inj (gSft.symm.trans ht1)
  obtain rfl := Option.some.inj (gCft.symm.trans ht2)
  obtain rfl := Option.some.inj (gCqt.symm.trans ht3)
  have c0 := Lib.cells_of_tab underSk underU32 cellsU32 cellsSk hd
  have c1 := Lib.cells_of_tab underSf underU32 cellsU32 cellsSf hd1
  have c2 := Lib.cells_of_tab under4w underU32 cellsU32 cellsCf hd2
  have k0 : ∀ i, i < 64 → W.cell? ⟨2, i, none⟩ = some (.int .u32 (kL.getD i 0 : Nat)) := by
    intro i hi
    have := World.var?_cell hg hv i
    have hc : cs[i]? = some (.int .u32 (kL.getD i 0 : Nat)) := by
      rw [← Array.getElem?_toList, c0, List.getElem?_map, ← ints_get kL i hi, List.getD_eq_getElem?_getD, List.getElem?_eq_getElem (by show i < 64; exact hi)]
      rfl
    rw [← hc]
    exact this
  have k1 : ∀ i, i < 8 → W.cell? ⟨3, i, none⟩ = some (.int .u32 (firstL.getD i 0 : Nat)) := by
    intro i hi
    have := World.var?_cell hg1 hv1 i
    have hc : cs1[i]? = some (.int .u32 (firstL.getD i 0 : Nat)) := by
      rw [← Array.getElem?_toList, c1, List.getElem?_map, ← ints_get firstL i hi, List.getD_eq_getElem?_getD, List.getElem?_eq_getElem (by show i < 8; exact hi)]
      rfl
    rw [← hc]
    exact this
  have k2 : ∀ i, i < 4 → W.cell? ⟨0, i, none⟩ = some (.int .u32 (first4.getD i 0 : Nat)) := by
    intro i hi
    have := World.var?_cell hg2 hv2 i
    have hc : cs2[i]? = some (.int .u32 (first4.getD i 0 : Nat)) := by
      rw [← Array.getElem?_toList, c2, List.getElem?_map, ← ints_get first4 i hi, List.getD_eq_getElem?_getD, List.getElem?_eq_getElem (by show i < 4; exact hi)]
      rfl
    rw [← hc]
    exact this
  have k3 : ∀ i, i < 32 → W.cell? ⟨1, i, none⟩ = some (.int .i64 (quartersL.getD i 0 : Nat)) := by
    intro i hi
    have := World.var?_cell hg3 hv3 i
    have hc := cells_of_rows hd3 (i / 4) (i % 4) (by omega) (by omega)
    rw [show i / 4 * 4 + i % 4 = i by omega, Array.getElem?_toList] at hc
    rw [← hc]
    exact this
  have n0 := World.block_lt_of_cell? W _ (k0 0 (by omega))
  have n1 := World.block_lt_of_cell? W _ (k1 0 (by omega))
  have n2 := World.block_lt_of_cell? W _ (k2 0 (by omega))
  have n3 := World.block_lt_of_cell? W _ (k3 0 (by omega))
  exact ⟨⟨k0, k1⟩, ⟨k2, k3⟩, by simp only at n0 n1 n2 n3; omega⟩
/-- A world for the witness: the settled one, the tables as their initialisers lay them. -/
noncomputable def laidWorld (os : Os) : World :=
  { World.holding Tryz.prog os ⟨#[], #[], []⟩ with heap := ((((World.holding Tryz.prog os ⟨#[], #[], []⟩).heap.modify 2 laySk).modify 3 laySf).modify 0 layCf).modify 1 layCq }

theorem cellsHop : Tryz.prog.cellsOf 63 = 54 := by kernel_rfl
theorem cells256b : Tryz.prog.cellsOf 24 = 256 := by kernel_rfl
set_option maxRecDepth 100000 in
/-- Cells that read as a hop are a hop's. -/
theorem hop_cells {H : Type} {enc : TypeId × Value → H} {W : World} {base : Nat} {sp : Nat → Bool} {held : Bool} {fuel : Nat} {cs : List Value} {x : DataW H × List MemPlace}
    (h : DataW.trod enc Tryz.prog W base sp held fuel 63 cs = some x) : ∃ p : HopL, cs = hopC p ∧ p.ok := by
  obtain ⟨xs, n, _, _, hl, hlen, hf⟩ := DataW.trod_struct Tryz.underlying63 h
  rw [cellsHop] at hl
  match xs, hlen with
  | [y0, y1, y2, y3, y4, y5, y6, y7], _ =>
    have h0 : DataW.trod enc Tryz.prog W base sp held n 48 ((cs.drop 0).take (Tryz.prog.cellsOf 48)) = some y0 := hf 0 _ rfl
    rw [cellsAd] at h0
    have h1 : DataW.trod enc Tryz.prog W base sp held n 27 ((cs.drop 1).take (Tryz.prog.cellsOf 27)) = some y1 := hf 1 _ rfl
    rw [cellsWh] at h1
    have h2 : DataW.trod enc Tryz.prog W base sp held n 26 ((cs.drop 2).take (Tryz.prog.cellsOf 26)) = some y2 := hf 2 _ rfl
    rw [cellsKey] at h2
    have h3 : DataW.trod enc Tryz.prog W base sp held n 28 ((cs.drop 34).take (Tryz.prog.cellsOf 28)) = some y3 := hf 3 _ rfl
    rw [cells32u] at h3
    have h4 : DataW.trod enc Tryz.prog W base sp held n 30 ((cs.drop 35).take (Tryz.prog.cellsOf 30)) = some y4 := hf 4 _ rfl
    rw [cellsNo] at h4
    have h5 : DataW.trod enc Tryz.prog W base sp held n 49 ((cs.drop 51).take (Tryz.prog.cellsOf 49)) = some y5 := hf 5 _ rfl
    rw [cells64u] at h5
    have h6 : DataW.trod enc Tryz.prog W base sp held n 49 ((cs.drop 52).take (Tryz.prog.cellsOf 49)) = some y6 := hf 6 _ rfl
    rw [cells64u] at h6
    have h7 : DataW.trod enc Tryz.prog W base sp held n 28 ((cs.drop 53).take (Tryz.prog.cellsOf 28)) = some y7 := hf 7 _ rfl
    rw [cells32u] at h7
    obtain ⟨n0, q0, _, w0⟩ := DataW.trod_int Tryz.underlying48 h0
    have b0 := u16_bounds w0
    obtain ⟨n1, q1, _, w1⟩ := DataW.trod_int Tryz.underlying27 h1
    have b1 := u16_bounds w1
    obtain ⟨l2, q2, w2⟩ := trod_bytes underK32 cellsKey h2
    obtain ⟨n3, q3, _, w3⟩ := DataW.trod_int Tryz.underlying28 h3
    have b3 := u32_bounds w3
    obtain ⟨l4, q4, w4⟩ := trod_bytes underN cellsNo h4
    obtain ⟨n5, q5, _, w5⟩ := DataW.trod_int Tryz.underlying49 h5
    have b5 := u64_bounds w5
    obtain ⟨n6, q6, _, w6⟩ := DataW.trod_int Tryz.underlying49 h6
    have b6 := u64_bounds w6
    obtain ⟨n7, q7, _, w7⟩ := DataW.trod_int Tryz.underlying28 h7
    have b7 := u32_bounds w7
    refine ⟨⟨n0.toNat, n1.toNat, l2, n3.toNat, l4, n5.toNat, n6.toNat, n7.toNat⟩, ?_, by simp only; omega, by simp only; omega, w2, by simp only; omega, w4, by simp only; omega, by simp only; omega, by simp only; omega⟩
    simp only [hopC]
    rw [Int.toNat_of_nonneg b0.1, Int.toNat_of_nonneg b1.1, Int.toNat_of_nonneg b3.1, Int.toNat_of_nonneg b5.1, Int.toNat_of_nonneg b6.1, Int.toNat_of_nonneg b7.1]
    have e : cs = cs.drop 0 := rfl
    rw [e, split_at cs 0 1, split_at cs (0 + 1) 1, split_at cs (0 + 1 + 1) 32, split_at cs (0 + 1 + 1 + 32) 1, split_at cs (0 + 1 + 1 + 32 + 1) 16, split_at cs (0 + 1 + 1 + 32 + 1 + 16) 1, split_at cs (0 + 1 + 1 + 32 + 1 + 16 + 1) 1, split_at cs (0 + 1 + 1 + 32 + 1 + 16 + 1 + 1) 1]
    simp only [Nat.zero_add, Nat.reduceAdd]
    rw [q0, q1, q2, q3, q4, q5, q6, q7, List.drop_eq_nil_of_le (by omega)]
    simp
set_option maxRecDepth 100000 in
theorem row_hops {H : Type} {enc : TypeId × Value → H} {W : World} {base : Nat} {held : Bool} {fuel : Nat} {x : DataW H × List MemPlace} {A : Option Addr} {len cap : Nat}
    (h : DataW.trod enc Tryz.prog W base (fun _ => true) held fuel 22 [.slice A len cap] = some x) :
    ∃ L : List HopL, HRow W A len L ∧ len ≤ cap ∧ cap ≤ 9223372036854775807 := by
  rcases Go.Deep.open_slice Tryz.underlying22 h with ⟨hcs, _⟩ | ⟨a, l, c, m, n, D, Pl, hcs, _, hl, hm, hmm, _, hx⟩
  · simp only [List.cons.injEq, Value.slice.injEq, and_true] at hcs
    obtain ⟨rfl, rfl, rfl⟩ := hcs
    exact ⟨[], ⟨rfl, fun _ h => by simp at h, fun h => by omega⟩, by omega, by omega⟩
  · simp only [List.cons.injEq, Value.slice.injEq, and_true] at hcs
    obtain ⟨rfl, rfl, rfl⟩ := hcs
    have hlm : len ≤ m := by rw [hmm]; split <;> omega
    have each : ∀ i, i < len → ∃ r : HopL, r.ok ∧ ∀ q u, (hopC r)[q]? = some u → W.cell? (a.add (i * 54 + q)) = some u := by
      intro i hi
      obtain ⟨cs', h1, h2⟩ := hx i (by omega)
      rw [cellsHop] at h1
      obtain ⟨_, hlen, hcell⟩ := World.cells?_some h1
      obtain ⟨r, hr, hin⟩ := hop_cells h2
      refine ⟨r, hin, fun q u hq => ?_⟩
      have hq4 : q < 54 := by have := (List.getElem?_eq_some_iff.1 hq).1; rwa [hopC_length hin] at this
      have e := hcell q (by omega)
      rw [hr, add_add] at e
      rw [e]
      exact hq
    refine ⟨List.ofFn (n := len) fun i => (each i.1 i.2).choose, ⟨by simp, fun r hr => ?_, fun _ => ⟨a, rfl, fun j hj q u hq => ?_⟩⟩, hl, by simpa only [maxLen] using hm⟩
    · rw [List.mem_ofFn] at hr
      obtain ⟨i, hi⟩ := hr
      rw [← hi]
      exact (each i.1 i.2).choose_spec.1
    · have e : (List.ofFn (n := len) fun i => (each i.1 i.2).choose).getD j hop0 = (each j hj).choose := by
        rw [List.getD_eq_getElem?_getD, List.getElem?_eq_getElem (by simpa using hj)]
        simp
      rw [e] at hq
      exact (each j hj).choose_spec.2 q u hq
end Go.Proofs.YtoiiiflnnhkjbaaGreatDoor
