/-
  The calls of layer 4, seen from a law's own beginning.
-/
import Derived.Test.YtbicjcpdcopbhaaDoorHm6
namespace Go.Proofs.YtbicjcpdcopbhaaDoor
set_option linter.unusedVariables false
open Go.RowKit

theorem mac_row (w0 w : World) (A : Option Addr) (n c : Nat) (key : List UInt8) (vs : List Value) (ls : List (List UInt8)) (all : List UInt8) (hr : Rds w A n (cellsB key)) (hc : n ≤ c) (hn : n ≤ 100000) (hA : All2 w vs ls) (hall : ls.flatten = all) (hR : Run w0 w) (hl : all.length ≤ 1000000) (hln : ls.length ≤ 1000) :
    Calls Tryd.prog 27 #[.slice A n c, .slice (some ⟨w.heap.size, 0, none⟩) vs.length vs.length] (w.alloc (.cells vs.toArray 24)) fun e w' => e = .returned (.agg (cellsB (macL key all)).toArray) ∧ Frm (fun _ => False) w w' ∧ Run w0 w' := by
  subst hall
  have hF : Frm (fun _ => False) w (w.alloc (.cells vs.toArray 24)) := Frm.alloc _ _ _
  have hm := mac_any A n c key (some ⟨w.heap.size, 0, none⟩) vs.length vs ls _ (hR.gl.frm hF (fun h => h) (fun h => h)) (by have := hR.two; have := hR.size; have := hF.size; omega) (hr.frm hF (fun _ _ _ h => h)) hc (by omega) (parts_alloc w vs ls _ hA) (by omega) (by omega)
  rw [← hA.length] at hm
  refine hm.mono fun e w' ⟨he, hb⟩ => ?_
  have hF2 := hF.trans (Frm.of_below (S := fun _ => False) hb) (fun _ _ h => h)
  exact ⟨he, hF2, hR.frm hF2 (fun _ h => h.elim)⟩
/-- .. of a row that reads so now. -/
theorem mac_now (w0 w : World) (A : Option Addr) (n c : Nat) (key : List UInt8) (PA : Option Addr) (pn pc : Nat) (vs : List Value) (ls : List (List UInt8)) (all : List UInt8) (hr : Rds w A n (cellsB key)) (hc : n ≤ c) (hn : n ≤ 100000) (hrow : Rds w PA pn vs) (hA : All2 w vs ls) (hall : ls.flatten = all) (hR : Run w0 w) (hl : all.length ≤ 1000000) (hln : ls.length ≤ 1000) :
    Calls Tryd.prog 27 #[.slice A n c, .slice PA pn pc] w fun e w' => e = .returned (.agg (cellsB (macL key all)).toArray) ∧ Frm (fun _ => False) w w' ∧ Run w0 w' := by
  subst hall
  have hlen : pn = ls.length := by rw [← hA.length]; exact hrow.1.symm
  subst hlen
  exact (mac_any A n c key PA pc vs ls w hR.gl (by have := hR.two; have := hR.size; omega) hr hc (by omega) ⟨hrow, hA.at⟩ (by omega) (by omega)).mono fun e w' ⟨he, hb⟩ => ⟨he, Frm.of_below hb, hR.frm (Frm.of_below (S := fun _ => False) hb) (fun _ h => h.elim)⟩
theorem short_row (w0 w : World) (key : List UInt8) (hk : key.length = 32) (vs : List Value) (ls : List (List UInt8)) (all : List UInt8) (hA : All2 w vs ls) (hall : ls.flatten = all) (hR : Run w0 w) (hl : all.length ≤ 1000000) (hln : ls.length ≤ 1000) :
    Calls Tryd.prog 28 #[.agg (cellsB key).toArray, .slice (some ⟨w.heap.size, 0, none⟩) vs.length vs.length] (w.alloc (.cells vs.toArray 24)) fun e w' => e = .returned (.agg (cellsB ((macL key all).take 16)).toArray) ∧ Frm (fun _ => False) w w' ∧ Run w0 w' := by
  subst hall
  have hF : Frm (fun _ => False) w (w.alloc (.cells vs.toArray 24)) := Frm.alloc _ _ _
  have hm := short_any key hk (some ⟨w.heap.size, 0, none⟩) vs.length vs ls _ (hR.gl.frm hF (fun h => h) (fun h => h)) (by have := hR.two; have := hR.size; have := hF.size; omega) (parts_alloc w vs ls _ hA) (by omega) (by omega)
  rw [← hA.length] at hm
  refine hm.mono fun e w' ⟨he, hb⟩ => ?_
  have hF2 := hF.trans (Frm.of_below (S := fun _ => False) hb) (fun _ _ h => h)
  exact ⟨he, hF2, hR.frm hF2 (fun _ h => h.elim)⟩
theorem short_now (w0 w : World) (key : List UInt8) (hk : key.length = 32) (PA : Option Addr) (pn pc : Nat) (vs : List Value) (ls : List (List UInt8)) (all : List UInt8) (hrow : Rds w PA pn vs) (hA : All2 w vs ls) (hall : ls.flatten = all) (hR : Run w0 w) (hl : all.length ≤ 1000000) (hln : ls.length ≤ 1000) :
    Calls Tryd.prog 28 #[.agg (cellsB key).toArray, .slice PA pn pc] w fun e w' => e = .returned (.agg (cellsB ((macL key all).take 16)).toArray) ∧ Frm (fun _ => False) w w' ∧ Run w0 w' := by
  subst hall
  have hlen : pn = ls.length := by rw [← hA.length]; exact hrow.1.symm
  subst hlen
  exact (short_any key hk PA pc vs ls w hR.gl (by have := hR.two; have := hR.size; omega) ⟨hrow, hA.at⟩ (by omega) (by omega)).mono fun e w' ⟨he, hb⟩ => ⟨he, Frm.of_below hb, hR.frm (Frm.of_below (S := fun _ => False) hb) (fun _ h => h.elim)⟩
theorem hshown_run (w : World) (hG : Gl w) (h2 : 2 ≤ w.heap.size) :
    Calls Tryd.prog 25 #[] w fun e w' => e = .returned (.bool true) ∧ Run w w' :=
  (hshown_any w hG h2).mono fun e w' ⟨he, hb⟩ => ⟨he, hG.frm (Frm.of_below (S := fun _ => False) hb) (fun h => h) (fun h => h), hb, h2⟩

/-- The block of a row of one's own. -/
theorem own_block {w : World} {base n : Nat} {e : TypeId} {A : Option Addr} {c : Nat} {xs : List Value} (h : w.ownsRow base e 1 (.slice A n c) n xs) (hn : 0 < n) :
    ∃ g cur, A = some ⟨g, 0, none⟩ ∧ base ≤ g ∧ Blk w g e cur ∧ n ≤ cur.size ∧ cur.toList.take n = xs ∧ n ≤ c := by
  rcases h.2 with ⟨_, h0⟩ | ⟨g, cap, cur, hv, hb, hg, hnc, hcm, hcs, ht⟩
  · omega
  · injection hv with h1 h2 h3
    subst h3
    exact ⟨g, cur, h1, hb, hg, by omega, by simpa using ht, hnc⟩
/-- .. with one cell written. -/
theorem own_put {w : World} {g n k : Nat} {e : TypeId} {cur : Array Value} {l : List UInt8} (hb : Blk w g e cur) (hn : n ≤ cur.size) (ht : cur.toList.take n = cellsB l) (u : UInt8) (hk : k < n) :
    Rds (w.setCell ⟨g, k, none⟩ (.int .u8 (u.toNat : Int))) (some ⟨g, 0, none⟩) n (cellsB (l.set k u)) := by
  have hl : l.length = n := by have := congrArg List.length ht; rw [List.length_take, cellsB_length] at this; simp at this; omega
  refine ⟨by rw [cellsB_length, List.length_set, hl], fun _ => ⟨_, rfl, fun j v hv => ?_⟩⟩
  have hj : j < n := by
    have := (List.getElem?_eq_some_iff.1 hv).1
    rw [cellsB_length, List.length_set, hl] at this
    exact this
  rw [addr_add, Nat.zero_add, (hb.set k _).cell, Array.getElem?_setIfInBounds]
  rw [← cellsB_set, List.getElem?_set] at hv
  by_cases hkj : k = j
  · subst hkj
    rw [if_pos rfl] at hv ⊢
    have : k < (cellsB l).length := by rw [cellsB_length]; omega
    rw [if_pos this] at hv
    rw [if_pos (by omega)]
    exact hv
  · rw [if_neg hkj] at hv ⊢
    rw [← ht, List.getElem?_take, if_pos hj] at hv
    simpa using hv
theorem own_get {n k : Nat} {cur : Array Value} {l : List UInt8} (hn : n ≤ cur.size) (ht : cur.toList.take n = cellsB l) (hk : k < n) : cur[k]? = some (.int .u8 ((l.getD k 0).toNat : Int)) := by
  have hl : l.length = n := by have := congrArg List.length ht; rw [List.length_take, cellsB_length] at this; simp at this; omega
  have h := getD_byte l k (by omega)
  rw [← ht, List.getElem?_take, if_pos hk] at h
  simpa using h
end Go.Proofs.YtbicjcpdcopbhaaDoor
