/-
  What a law's proof needs of its arguments: slots, packets, arrays of bytes, rows of bytes and of slots.
-/
import Derived.Test.YtedodbejbkdplaaSlSh
import Derived.ProofKit
import Derived.OpenShut
import Derived.ShutString
import Derived.ChangeOld
import Derived.Deep.Matrix
namespace Go.Proofs.Ytedodbejbkdplaa
set_option linter.unusedVariables false
set_option linter.unusedSimpArgs false
open Go.ChangeShapes Go.WideShapes Go.ChangeAt Go.RowKit

theorem ownKn : ownKnob Try.prog.godebug = none := by kernel_rfl
theorem laidOut : laidOutB Try.prog = true := by kernel_rfl
theorem wf_u8 {n : Int} (h : (Lit.int .u8 n).wf = true) : 0 ≤ n ∧ n < 256 := by
  have := bounds_u8 h
  omega
/-- Numbers that fit bytes are bytes. -/
theorem bytes_of_wf : ∀ (zs : List Int), (∀ n ∈ zs, (Lit.int .u8 n).wf = true) → ∃ l : List UInt8, l.length = zs.length ∧ cellsB l = zs.map (Value.int .u8)
  | [], _ => ⟨[], rfl, rfl⟩
  | z :: zs, h => by
    obtain ⟨l, h1, h2⟩ := bytes_of_wf zs (fun n hn => h n (List.mem_cons_of_mem _ hn))
    have hz := wf_u8 (h z (List.mem_cons_self ..))
    refine ⟨UInt8.ofNat z.toNat :: l, by simp [h1], ?_⟩
    have e : ((UInt8.ofNat z.toNat).toNat : Int) = z := by
      rw [UInt8.toNat_ofNat']
      omega
    simp only [cellsB, List.map_cons] at h2 ⊢
    rw [h2, e]
/-- A slice of bytes that came in. -/
theorem row_u8 {W : World} {x : Addr} {len cap : Nat} {zs : List Int} (hl : len ≤ cap) (hz : zs.length = cap) (hcell : ∀ i, i < zs.length → W.cell? (x.add i) = some (.int .u8 (zs.getD i 0))) (hw : ∀ n ∈ zs, (Lit.int .u8 n).wf = true) :
    ∃ l : List UInt8, Rds W (some x) len (cellsB l) := by
  obtain ⟨l, h1, h2⟩ := bytes_of_wf zs hw
  refine ⟨l.take len, ?_⟩
  rw [show cellsB (l.take len) = (cellsB l).take len by simp [cellsB, List.map_take], h2]
  refine ⟨by simp; omega, fun _ => ⟨x, rfl, fun j u hu => ?_⟩⟩
  rw [List.getElem?_take] at hu
  split at hu
  · have hj : j < zs.length := by omega
    rw [hcell j hj]
    rw [List.getElem?_map, List.getElem?_eq_getElem hj] at hu
    simp only [Option.map_some, Option.some.injEq] at hu
    rw [← hu]
    simp [List.getD, List.getElem?_eq_getElem hj]
  · cases hu
theorem i64_bounds {n : Int} (h : (Lit.int .i64 n).wf = true) : -9223372036854775808 ≤ n ∧ n ≤ 9223372036854775807 := by
  have := bounds_i64 h
  omega
theorem u64_bounds {n : Int} (h : (Lit.int .u64 n).wf = true) : 0 ≤ n ∧ n < 18446744073709551616 := by
  have := bounds_u64 h
  omega
theorem u32_bounds {n : Int} (h : (Lit.int .u32 n).wf = true) : 0 ≤ n ∧ n < 4294967296 := by
  have := bounds_u32 h
  omega
theorem u16_bounds {n : Int} (h : (Lit.int .u16 n).wf = true) : 0 ≤ n ∧ n < 65536 := by
  have := bounds_u16 h
  omega
theorem u8_bounds {n : Int} (h : (Lit.int .u8 n).wf = true) : 0 ≤ n ∧ n < 256 := wf_u8 h

theorem cellsS : Try.prog.cellsOf 32 = 40 := by kernel_rfl
theorem cellsPk : Try.prog.cellsOf 50 = 610 := by kernel_rfl
theorem cellsBo : Try.prog.cellsOf 4 = 1 := by kernel_rfl
theorem cellsAd : Try.prog.cellsOf 23 = 1 := by kernel_rfl
theorem cellsBx : Try.prog.cellsOf 24 = 1 := by kernel_rfl
theorem cellsWh : Try.prog.cellsOf 25 = 1 := by kernel_rfl
theorem cells32u : Try.prog.cellsOf 26 = 1 := by kernel_rfl
theorem cells64u : Try.prog.cellsOf 30 = 1 := by kernel_rfl
theorem cellsNo : Try.prog.cellsOf 28 = 16 := by kernel_rfl
theorem cellsMa : Try.prog.cellsOf 29 = 16 := by kernel_rfl
theorem cellsHd : Try.prog.cellsOf 47 = 320 := by kernel_rfl
theorem cellsBd : Try.prog.cellsOf 48 = 256 := by kernel_rfl
theorem cells64b : Try.prog.cellsOf 33 = 64 := by kernel_rfl
theorem one_cell {cs : List Value} {i : Nat} {v : Value} (h : (cs.drop i).take 1 = [v]) : cs[i]? = some v := by
  have h0 := congrArg (fun l => l[0]?) h
  simpa [List.getElem?_take, List.getElem?_drop] using h0
set_option maxRecDepth 100000 in
/-- Cells of bytes that read as an array's are bytes. -/
theorem trod_bytes {t : TypeId} {N : Nat} (hu : Try.prog.underlying t = some (.array N 5)) (hC : Try.prog.cellsOf t = N) {H : Type} {enc : TypeId × Value → H} {W : World} {base : Nat} {sp : Nat → Bool} {held : Bool} {fuel : Nat} {cs : List Value} {x : DataW H × List MemPlace}
    (hf : DataW.trod enc Try.prog W base sp held fuel t cs = some x) : ∃ l : List UInt8, cs = cellsB l ∧ l.length = N := by
  obtain ⟨xs, m, _, _, hl, hxl, hel⟩ := DataW.trod_array hu hf
  rw [hC] at hl
  have each : ∀ i, i < N → ∃ b : UInt8, cs[i]? = some (.int .u8 (b.toNat : Int)) := by
    intro i hi
    have h1 := hel i hi
    rw [cells5, Nat.mul_one] at h1
    have hc : cs[i]? = some (cs[i]'(by omega)) := List.getElem?_eq_getElem (by omega)
    have h2 : (cs.drop i).take 1 = [cs[i]'(by omega)] := by
      rw [List.drop_eq_getElem_cons (by omega)]
      rfl
    rw [h2] at h1
    have h3 : xs[i]? = some (xs[i]'(by omega)) := List.getElem?_eq_getElem (by omega)
    rw [h3] at h1
    obtain ⟨n, hn, _, hw⟩ := DataW.trod_int Try.underlying5 h1
    have hb := wf_u8 hw
    refine ⟨UInt8.ofNat n.toNat, ?_⟩
    rw [hc]
    have : cs[i]'(by omega) = .int .u8 n := by simpa using hn
    rw [this, UInt8.toNat_ofNat']
    congr 2
    omega
  refine ⟨List.ofFn (n := N) fun i => (each i.1 i.2).choose, ?_, by simp⟩
  apply List.ext_getElem?
  intro j
  by_cases hj : j < N
  · rw [(each j hj).choose_spec, cellsB_get, List.getElem?_ofFn, dif_pos hj]
    rfl
  · rw [List.getElem?_eq_none (by omega), List.getElem?_eq_none (by rw [cellsB_length]; simp; omega)]
theorem split_at {α : Type} (l : List α) (i j : Nat) : (l.drop i) = (l.drop i).take j ++ l.drop (i + j) := by
  rw [← List.drop_drop]
  exact (List.take_append_drop j (l.drop i)).symm

set_option maxRecDepth 100000 in
/-- Forty cells that read as a slot are a slot's. -/
theorem slot_cells {H : Type} {enc : TypeId × Value → H} {W : World} {base : Nat} {sp : Nat → Bool} {held : Bool} {fuel : Nat} {cs : List Value} {x : DataW H × List MemPlace}
    (h : DataW.trod enc Try.prog W base sp held fuel 32 cs = some x) : ∃ s : Slot, cs = slotC s ∧ s.ok := by
  obtain ⟨xs, n, _, _, hl, hlen, hf⟩ := DataW.trod_struct Try.underlying32 h
  rw [cellsS] at hl
  match xs, hlen with
  | [y0, y1, y2, y3, y4, y5, y6, y7, y8, y9], _ =>
    have h0 : DataW.trod enc Try.prog W base sp held n 4 ((cs.drop 0).take (Try.prog.cellsOf 4)) = some y0 := hf 0 _ rfl
    rw [cellsBo] at h0
    have h1 : DataW.trod enc Try.prog W base sp held n 23 ((cs.drop 1).take (Try.prog.cellsOf 23)) = some y1 := hf 1 _ rfl
    rw [cellsAd] at h1
    have h2 : DataW.trod enc Try.prog W base sp held n 24 ((cs.drop 2).take (Try.prog.cellsOf 24)) = some y2 := hf 2 _ rfl
    rw [cellsBx] at h2
    have h3 : DataW.trod enc Try.prog W base sp held n 25 ((cs.drop 3).take (Try.prog.cellsOf 25)) = some y3 := hf 3 _ rfl
    rw [cellsWh] at h3
    have h4 : DataW.trod enc Try.prog W base sp held n 26 ((cs.drop 4).take (Try.prog.cellsOf 26)) = some y4 := hf 4 _ rfl
    rw [cells32u] at h4
    have h5 : DataW.trod enc Try.prog W base sp held n 28 ((cs.drop 5).take (Try.prog.cellsOf 28)) = some y5 := hf 5 _ rfl
    rw [cellsNo] at h5
    have h6 : DataW.trod enc Try.prog W base sp held n 29 ((cs.drop 21).take (Try.prog.cellsOf 29)) = some y6 := hf 6 _ rfl
    rw [cellsMa] at h6
    have h7 : DataW.trod enc Try.prog W base sp held n 30 ((cs.drop 37).take (Try.prog.cellsOf 30)) = some y7 := hf 7 _ rfl
    rw [cells64u] at h7
    have h8 : DataW.trod enc Try.prog W base sp held n 30 ((cs.drop 38).take (Try.prog.cellsOf 30)) = some y8 := hf 8 _ rfl
    rw [cells64u] at h8
    have h9 : DataW.trod enc Try.prog W base sp held n 26 ((cs.drop 39).take (Try.prog.cellsOf 26)) = some y9 := hf 9 _ rfl
    rw [cells32u] at h9
    obtain ⟨n0, q0, _⟩ := DataW.trod_bool Try.underlying4 h0
    obtain ⟨n1, q1, _, w1⟩ := DataW.trod_int Try.underlying23 h1
    obtain ⟨n2, q2, _, w2⟩ := DataW.trod_int Try.underlying24 h2
    obtain ⟨n3, q3, _, w3⟩ := DataW.trod_int Try.underlying25 h3
    obtain ⟨n4, q4, _, w4⟩ := DataW.trod_int Try.underlying26 h4
    obtain ⟨l5, q5, w5⟩ := trod_bytes underN cellsNo h5
    obtain ⟨l6, q6, w6⟩ := trod_bytes underM cellsMa h6
    obtain ⟨n7, q7, _, w7⟩ := DataW.trod_int Try.underlying30 h7
    obtain ⟨n8, q8, _, w8⟩ := DataW.trod_int Try.underlying30 h8
    obtain ⟨n9, q9, _, w9⟩ := DataW.trod_int Try.underlying26 h9
    have b1 := u16_bounds w1
    have b2 := u16_bounds w2
    have b3 := u16_bounds w3
    have b4 := u32_bounds w4
    have b7 := u64_bounds w7
    have b8 := u64_bounds w8
    have b9 := u32_bounds w9
    refine ⟨⟨n0, n1.toNat, n2.toNat, n3.toNat, n4.toNat, l5, l6, n7.toNat, n8.toNat, n9.toNat⟩, ?_, by simp only; omega, by simp only; omega, by simp only; omega, by simp only; omega, by simp only; omega, by simp only; omega, by simp only; omega, w5, w6⟩
    simp only [slotC]
    rw [Int.toNat_of_nonneg b1.1, Int.toNat_of_nonneg b2.1, Int.toNat_of_nonneg b3.1, Int.toNat_of_nonneg b4.1, Int.toNat_of_nonneg b7.1, Int.toNat_of_nonneg b8.1, Int.toNat_of_nonneg b9.1]
    have e : cs = cs.drop 0 := rfl
    rw [e, split_at cs 0 1, split_at cs (0 + 1) 1, split_at cs (0 + 1 + 1) 1, split_at cs (0 + 1 + 1 + 1) 1, split_at cs (0 + 1 + 1 + 1 + 1) 1, split_at cs (0 + 1 + 1 + 1 + 1 + 1) 16, split_at cs (0 + 1 + 1 + 1 + 1 + 1 + 16) 16, split_at cs (0 + 1 + 1 + 1 + 1 + 1 + 16 + 16) 1, split_at cs (0 + 1 + 1 + 1 + 1 + 1 + 16 + 16 + 1) 1, split_at cs (0 + 1 + 1 + 1 + 1 + 1 + 16 + 16 + 1 + 1) 1]
    simp only [Nat.zero_add, Nat.reduceAdd]
    rw [q0, q1, q2, q3, q4, q5, q6, q7, q8, q9, List.drop_eq_nil_of_le (by omega)]
    simp
set_option maxRecDepth 100000 in
/-- Cells that read as a packet are a packet's. -/
theorem pkt_cells {H : Type} {enc : TypeId × Value → H} {W : World} {base : Nat} {sp : Nat → Bool} {held : Bool} {fuel : Nat} {cs : List Value} {x : DataW H × List MemPlace}
    (h : DataW.trod enc Try.prog W base sp held fuel 50 cs = some x) : ∃ p : Pkt, cs = pktC p ∧ p.ok := by
  obtain ⟨xs, n, _, _, hl, hlen, hf⟩ := DataW.trod_struct Try.underlying50 h
  rw [cellsPk] at hl
  match xs, hlen with
  | [y0, y1, y2, y3, y4, y5], _ =>
    have h0 : DataW.trod enc Try.prog W base sp held n 25 ((cs.drop 0).take (Try.prog.cellsOf 25)) = some y0 := hf 0 _ rfl
    rw [cellsWh] at h0
    have h1 : DataW.trod enc Try.prog W base sp held n 26 ((cs.drop 1).take (Try.prog.cellsOf 26)) = some y1 := hf 1 _ rfl
    rw [cells32u] at h1
    have h2 : DataW.trod enc Try.prog W base sp held n 28 ((cs.drop 2).take (Try.prog.cellsOf 28)) = some y2 := hf 2 _ rfl
    rw [cellsNo] at h2
    have h3 : DataW.trod enc Try.prog W base sp held n 29 ((cs.drop 18).take (Try.prog.cellsOf 29)) = some y3 := hf 3 _ rfl
    rw [cellsMa] at h3
    have h4 : DataW.trod enc Try.prog W base sp held n 47 ((cs.drop 34).take (Try.prog.cellsOf 47)) = some y4 := hf 4 _ rfl
    rw [cellsHd] at h4
    have h5 : DataW.trod enc Try.prog W base sp held n 48 ((cs.drop 354).take (Try.prog.cellsOf 48)) = some y5 := hf 5 _ rfl
    rw [cellsBd] at h5
    obtain ⟨n0, q0, _, w0⟩ := DataW.trod_int Try.underlying25 h0
    obtain ⟨n1, q1, _, w1⟩ := DataW.trod_int Try.underlying26 h1
    obtain ⟨l2, q2, w2⟩ := trod_bytes underN cellsNo h2
    obtain ⟨l3, q3, w3⟩ := trod_bytes underM cellsMa h3
    obtain ⟨l4, q4, w4⟩ := trod_bytes under320 cellsHd h4
    obtain ⟨l5, q5, w5⟩ := trod_bytes under256 cellsBd h5
    have b0 := u16_bounds w0
    have b1 := u32_bounds w1
    refine ⟨⟨n0.toNat, n1.toNat, l2, l3, l4, l5⟩, ?_, by simp only; omega, by simp only; omega, w2, w3, w4, w5⟩
    simp only [pktC]
    rw [Int.toNat_of_nonneg b0.1, Int.toNat_of_nonneg b1.1]
    have e : cs = cs.drop 0 := rfl
    rw [e, split_at cs 0 1, split_at cs (0 + 1) 1, split_at cs (0 + 1 + 1) 16, split_at cs (0 + 1 + 1 + 16) 16, split_at cs (0 + 1 + 1 + 16 + 16) 320, split_at cs (0 + 1 + 1 + 16 + 16 + 320) 256]
    simp only [Nat.zero_add, Nat.reduceAdd]
    rw [q0, q1, q2, q3, q4, q5, List.drop_eq_nil_of_le (by omega)]
    simp
set_option maxRecDepth 100000 in
theorem open_bytes {t : TypeId} {N : Nat} (hu : Try.prog.underlying t = some (.array N 5)) (hC : Try.prog.cellsOf t = N) {H : Type} {enc : TypeId × Value → H} {W : World} {r : Reach} {b0 base : Nat} {sp : Nat → Bool} {held : Bool} {v : Value} {d : DataW H} {p : List MemPlace}
    (hv : Value.okWide Try.prog W r b0 t v) (h : DataW.Trod enc Try.prog W base sp held t v d p) : ∃ l : List UInt8, v = .agg (cellsB l).toArray ∧ l.length = N := by
  simp only [Value.okWide, hu] at hv
  obtain ⟨cs, rfl, hsz, _⟩ := hv
  obtain ⟨fuel, hf⟩ := h
  obtain ⟨l, hl, hn⟩ := trod_bytes hu hC (cs := cs.toList) (by simpa [Value.cells] using hf)
  exact ⟨l, by rw [← hl, Array.toArray_toList], hn⟩
set_option maxRecDepth 100000 in
theorem open_slot {H : Type} {enc : TypeId × Value → H} {W : World} {r : Reach} {b0 base : Nat} {sp : Nat → Bool} {held : Bool} {v : Value} {d : DataW H} {p : List MemPlace}
    (hv : Value.okWide Try.prog W r b0 32 v) (h : DataW.Trod enc Try.prog W base sp held 32 v d p) : ∃ s : Slot, v = .agg (slotC s).toArray ∧ s.ok := by
  obtain ⟨cs, rfl, hsz⟩ := okWide_struct Try.underlying32 hv
  obtain ⟨fuel, hf⟩ := h
  obtain ⟨r, hr, hi⟩ := slot_cells (cs := cs.toList) (by simpa [Value.cells] using hf)
  exact ⟨r, by rw [← hr, Array.toArray_toList], hi⟩
set_option maxRecDepth 100000 in
theorem open_pkt {H : Type} {enc : TypeId × Value → H} {W : World} {r : Reach} {b0 base : Nat} {sp : Nat → Bool} {held : Bool} {v : Value} {d : DataW H} {p : List MemPlace}
    (hv : Value.okWide Try.prog W r b0 50 v) (h : DataW.Trod enc Try.prog W base sp held 50 v d p) : ∃ s : Pkt, v = .agg (pktC s).toArray ∧ s.ok := by
  obtain ⟨cs, rfl, hsz⟩ := okWide_struct Try.underlying50 hv
  obtain ⟨fuel, hf⟩ := h
  obtain ⟨r, hr, hi⟩ := pkt_cells (cs := cs.toList) (by simpa [Value.cells] using hf)
  exact ⟨r, by rw [← hr, Array.toArray_toList], hi⟩
/-- Slots that came in, in a row. -/
def SRow (w : World) (A : Option Addr) (n : Nat) (L : List Slot) : Prop :=
  L.length = n ∧ (∀ r ∈ L, r.ok) ∧ (0 < n → ∃ a, A = some a ∧ ∀ j q u, j < n → (slotC (L.getD j slot0))[q]? = some u → w.cell? ((a.add (j * 40)).add q) = some u)
theorem SRow.below {w w' : World} {A : Option Addr} {n : Nat} {L : List Slot} (h : SRow w A n L) (f : Below w.heap.size w w') : SRow w' A n L := by
  refine ⟨h.1, h.2.1, fun hn => ?_⟩
  obtain ⟨a, rfl, hc⟩ := h.2.2 hn
  refine ⟨a, rfl, fun j q u hj hq => ?_⟩
  have h1 := hc j q u hj hq
  rw [f.cell (World.block_lt_of_cell? w _ h1)]
  exact h1
set_option maxRecDepth 100000 in
theorem row_slots {H : Type} {enc : TypeId × Value → H} {W : World} {base : Nat} {held : Bool} {fuel : Nat} {x : DataW H × List MemPlace} {A : Option Addr} {len cap : Nat}
    (h : DataW.trod enc Try.prog W base (fun _ => true) held fuel 72 [.slice A len cap] = some x) :
    ∃ L : List Slot, SRow W A len L ∧ len ≤ cap ∧ cap ≤ 9223372036854775807 := by
  rcases Go.Deep.open_slice Try.underlying72 h with ⟨hcs, _⟩ | ⟨a, l, c, m, n, D, Pl, hcs, _, hl, hm, hmm, _, hx⟩
  · simp only [List.cons.injEq, Value.slice.injEq, and_true] at hcs
    obtain ⟨rfl, rfl, rfl⟩ := hcs
    exact ⟨[], ⟨rfl, fun _ h => by simp at h, fun h => by omega⟩, by omega, by omega⟩
  · simp only [List.cons.injEq, Value.slice.injEq, and_true] at hcs
    obtain ⟨rfl, rfl, rfl⟩ := hcs
    have hlm : len ≤ m := by rw [hmm]; split <;> omega
    have each : ∀ i, i < len → ∃ r : Slot, r.ok ∧ ∀ q u, (slotC r)[q]? = some u → W.cell? ((a.add (i * 40)).add q) = some u := by
      intro i hi
      obtain ⟨cs', h1, h2⟩ := hx i (by omega)
      rw [cellsS] at h1
      obtain ⟨_, hlen, hcell⟩ := World.cells?_some h1
      obtain ⟨r, hr, hin⟩ := slot_cells h2
      refine ⟨r, hin, fun q u hq => ?_⟩
      have hq4 : q < 40 := by have := (List.getElem?_eq_some_iff.1 hq).1; rwa [slotC_length r hin.nonce hin.mac] at this
      have e := hcell q (by omega)
      rw [e, hr]
      exact hq
    refine ⟨List.ofFn (n := len) fun i => (each i.1 i.2).choose, ⟨by simp, fun r hr => ?_, fun _ => ⟨a, rfl, fun j q u hj hq => ?_⟩⟩, hl, by simpa only [maxLen] using hm⟩
    · rw [List.mem_ofFn] at hr
      obtain ⟨i, hi⟩ := hr
      rw [← hi]
      exact (each i.1 i.2).choose_spec.1
    · have e : (List.ofFn (n := len) fun i => (each i.1 i.2).choose).getD j slot0 = (each j hj).choose := by
        rw [List.getD_eq_getElem?_getD, List.getElem?_eq_getElem (by simpa using hj)]
        simp
      rw [e] at hq
      exact (each j hj).choose_spec.2 q u hq
end Go.Proofs.Ytedodbejbkdplaa
