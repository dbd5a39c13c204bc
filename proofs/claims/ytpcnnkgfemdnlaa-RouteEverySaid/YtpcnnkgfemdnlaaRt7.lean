/-
  The laws' own helpers by contracts: two rows compared; what must be in any case.
-/
import Derived.Test.YtpcnnkgfemdnlaaRt6
namespace Go.Proofs.Ytpcnnkgfemdnlaa
set_option linter.unusedVariables false
open Go.RowKit

theorem take_next (l : List Nat) (k : Nat) (h : k < l.length) : l.take (k + 1) = l.take k ++ [l.getD k 0] := by
  rw [List.take_succ_eq_append_getElem h, List.getD_eq_getElem?_getD, List.getElem?_eq_getElem h]; rfl

set_option maxHeartbeats 2000000 in
theorem same_any (A B : Option Addr) (n m c d : Nat) (a b : List Nat) (w : World) (hA : Rds w A n (cellsI .u16 a)) (hB : Rds w B m (cellsI .u16 b)) (hn : n ≤ 1000000) (hm : m ≤ 1000000) :
    Calls Try.prog 11 #[.slice A n c, .slice B m d] w fun e w' => (∃ r, e = .returned (.bool r) ∧ (r = true ↔ a = b)) ∧ ∃ q, w' = w.drewN q := by
  have hal : a.length = n := by have := hA.1; rwa [cellsI_length] at this
  have hbl : b.length = m := by have := hB.1; rwa [cellsI_length] at this
  by_cases hnm : n = m
  · subst hnm
    have Hal := hide hal
    have Hbl := hide hbl
    have HA := hide hA
    have HB := hide hB
    clear hA hB hal hbl
    go_enter Try.func11, Try.ntmps11
    go_wp2_with fail
    go_loopw [5] (fun i wr => ∃ (k q : Nat), k ≤ n ∧ i = .int .i64 k ∧ a.take k = b.take k ∧ wr = w.drewN q) (fun i _ => n - (intOf i).toNat)
    case atStart => exact ⟨0, 0, by omega, rfl, rfl, rfl⟩
    case round =>
      obtain ⟨k, q, hk, rfl, hu, rfl⟩ := hrel
      have HU := hide hu
      clear hu
      by_cases hlt : k < n
      · obtain ⟨pa, rfl, hca⟩ := HA.out.2 (by omega)
        obtain ⟨pb, rfl, hcb⟩ := HB.out.2 (by omega)
        have ca := hca k _ (cellsI_at a k (by rw [Hal.out]; exact hlt))
        have cb := hcb k _ (cellsI_at b k (by rw [Hbl.out]; exact hlt))
        have ca' : ∀ q, (w.drewN q).cell? (pa.add k) = some (.int .u16 ((a.getD k 0 : Nat) : Int)) := fun _ => ca
        have cb' : ∀ q, (w.drewN q).cell? (pb.add k) = some (.int .u16 ((b.getD k 0 : Nat) : Int)) := fun _ => cb
        have hki : (k : Int) < (n : Int) := by omega
        have ta := hide (take_next a k (by rw [Hal.out]; exact hlt))
        have tb := hide (take_next b k (by rw [Hbl.out]; exact hlt))
        clear ca cb hca hcb
        by_cases hx : a.getD k 0 = b.getD k 0
        · have HN : Hid (a.take (k + 1) = b.take (k + 1)) := by show _ = _; rw [ta.out, tb.out, HU.out, hx]
          rw [hx] at ca'
          clear ta tb hx
          generalize ((b.getD k 0 : Nat) : Int) = y at *
          go_wp2_with fail
          go_quiet (fail)
          go_wp2
          go_roundw
          case rel => exact ⟨k + 1, _, by omega, by go_num, HN.out, rfl⟩
          case measure => simp [intOf]; omega
        · have HN : Hid (¬ (a = b)) := by
            show ¬ _
            rintro rfl
            exact hx rfl
          have hx' : ¬ (((a.getD k 0 : Nat) : Int) = ((b.getD k 0 : Nat) : Int)) := by omega
          clear ta tb hx
          generalize ((b.getD k 0 : Nat) : Int) = y at *
          generalize ((a.getD k 0 : Nat) : Int) = x at *
          go_wp2_with fail
          go_quiet (fail)
          go_wp2
          go_ret
          exact ⟨⟨_, rfl, by simpa using HN.out⟩, _, World.drewN_drewN _ _ _⟩
      · obtain rfl : k = n := by omega
        have hki : ¬ ((k : Int) < (k : Int)) := by omega
        have HN : Hid (a = b) := by
          have := HU.out
          rw [List.take_of_length_le (by rw [Hal.out]; exact Nat.le_refl _), List.take_of_length_le (by rw [Hbl.out]; exact Nat.le_refl _)] at this
          exact this
        go_wp2_with fail
        go_ret
        exact ⟨.inr ⟨rfl, HN.out⟩, _, rfl⟩
  · have HN : Hid (¬ (a = b)) := by show ¬ _; rintro rfl; omega
    have hni : ¬ ((n : Int) = (m : Int)) := by omega
    clear hal hbl hA hB hnm
    go_enter Try.func11, Try.ntmps11
    go_wp2_with fail
    go_ret
    exact ⟨⟨_, rfl, by simpa using HN.out⟩, 0, rfl⟩
theorem same_yes {A B : Option Addr} {n m c d : Nat} {a : List Nat} (w : World) (hA : Rds w A n (cellsI .u16 a)) (hB : Rds w B m (cellsI .u16 a)) (hn : n ≤ 1000000) (hm : m ≤ 1000000) :
    Calls Try.prog 11 #[.slice A n c, .slice B m d] w fun e w' => e = .returned (.bool true) ∧ ∃ q, w' = w.drewN q := by
  refine (same_any A B n m c d a a w hA hB hn hm).mono ?_
  rintro e w' ⟨⟨r, rfl, hr⟩, hq⟩
  exact ⟨by rw [hr.2 rfl], hq⟩

theorem fine_shown : Fine 2 [1, 2, 3, 4] 3 2 := by
  refine ⟨by omega, by omega, by decide, ?_, by decide, by decide, by decide⟩
  intro i hi
  match i, hi with
  | 0, _ => decide
  | 1, _ => decide
  | 2, _ => decide
theorem fault_shown : Fault 0 [1, 2] 1 3 10 := by
  refine .none (by omega) (by omega) (by decide) ?_ (by decide)
  intro i hi
  match i, hi with
  | 0, _ => decide
theorem route_shown : routeL [7, 5] [1, 2, 3, 4] 3 2 = [3, 4, 2] := by decide
theorem cnt_shown : cnt 4 (3 - 1 : Int).toNat = 6 := by
  show IntKind.u64.wrap (IntKind.u64.wrap (1 * (4 - 1)) * (4 - 2)) = 6
  rfl

set_option maxHeartbeats 4000000 in
theorem shown_any (w : World) : Calls Try.prog 8 #[] w fun e w' => e = .returned (.bool true) ∧ Below w.heap.size w w' := by
  have hC := count_fine 4 3
  rw [cnt_shown] at hC
  go_enter Try.func8, Try.ntmps8
  go_wp2_with fail
  have h1 := (Blk.new w 31 (cellsI .u64 [7, 5]).toArray).frm (Frm.alloc (w.alloc (.cells (cellsI .u64 [7, 5]).toArray 31)) (.cells (cellsI .u16 [1, 2, 3, 4]).toArray 25) (fun _ => False)) (fun h => h)
  have h2 := (Blk.new (w.alloc (.cells (cellsI .u64 [7, 5]).toArray 31)) 25 (cellsI .u16 [1, 2, 3, 4]).toArray)
  rw [World.size_alloc] at h2
  have hB1 : Below w.heap.size w ((w.alloc (.cells (cellsI .u64 [7, 5]).toArray 31)).alloc (.cells (cellsI .u16 [1, 2, 3, 4]).toArray 25)) := ((Below.refl _ w).alloc (Nat.le_refl _) _).alloc (by simp) _
  refine (draw_fine _ _ 2 2 4 4 [7, 5] [1, 2, 3, 4] 3 2 _ h1.rds (by decide) h2.rds (by decide) fine_shown).mono ?_
  rw [route_shown]
  rintro e w1 ⟨A1, c1, rfl, hO1, hb1⟩
  obtain ⟨g1, rfl⟩ := own_some hO1 (by decide)
  have hB2 := hB1.trans (hb1.mono hB1.size)
  obtain ⟨W0, hW0⟩ : ∃ W, W = (w.alloc (.cells (cellsI .u64 [7, 5]).toArray 31)).alloc (.cells (cellsI .u16 [1, 2, 3, 4]).toArray 25) := ⟨_, rfl⟩
  rw [← hW0] at hO1
  have HO1 := hide hO1
  have HB2 := hide hB2
  clear h1 h2 hb1 hB1 hB2 hO1 hW0
  go_wp2_with fail
  have h3 := Blk.new w1 25 (cellsI .u16 [1, 2]).toArray
  refine (draw_bad none _ 0 0 2 2 [1, 2] 1 3 10 _ h3.rds (by decide) (by decide) fault_shown).mono ?_
  rintro e w2 ⟨A2, c2, rfl, hO2, hb2⟩
  have hF : Frm (fun _ => False) w1 w2 := (Frm.alloc w1 (.cells (cellsI .u16 [1, 2]).toArray 25) (fun _ => False)).trans (Frm.of_below hb2) (fun _ _ h => h)
  have hR := own_rds (own_frm HO1.out hF (fun _ _ h => h))
  obtain ⟨pa, e1, hc⟩ := hR.2 (by decide)
  injection e1 with e1
  subst e1
  have c0 := hc 0 (.int .u16 3) rfl
  have c1 := hc 1 (.int .u16 4) rfl
  have c2 := hc 2 (.int .u16 2) rfl
  simp only [addr_add, Nat.zero_add] at c0 c1 c2
  have HB3 := hide (HB2.out.trans (hF.below HB2.out.size (fun _ h => h.elim)))
  clear h3 hb2 hO2 hF hR hc
  go_wp2_with (go_at_call 12; refine (hC _ (by decide) (by decide) (by decide) (by decide)).mono ?_; rintro e w3 ⟨rfl, hb3⟩)
  go_ret
  exact ⟨rfl, HB3.out.trans (hb3.mono HB3.out.size)⟩
end Go.Proofs.Ytpcnnkgfemdnlaa
