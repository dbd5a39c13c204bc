/-
  route: the small functions by contracts: the counter, who fits, who rises, who is among nodes, which fault there is. What lay when a call began lies as it lay.
-/
import Derived.Test.YtpcnnkgfemdnlaaRt1
import Derived.Laws.EntriesVeiled
namespace Go.Proofs.Ytpcnnkgfemdnlaa
set_option linter.unusedVariables false
open Go.RowKit

theorem one_ad : One Try.prog 23 25 (.int .u16 0) 2 := One.of (by kernel_rfl) (by kernel_rfl) rfl
theorem one_wd : One Try.prog 22 31 (.int .u64 0) 8 := One.of (by kernel_rfl) (by kernel_rfl) rfl
theorem make_func (fn : Fn) (first cap : Array Value) (w : World) : (Instr.makeFunc fn first cap).run Try.prog w = .ok (.func fn first cap) w := rfl

set_option maxHeartbeats 400000 in
theorem hops_yes (n : Int) (w : World) (h1 : 1 ≤ n) (h2 : n ≤ 5) :
    Calls Try.prog 16 #[.int .i64 n] w fun e w' => e = .returned (.bool true) ∧ w = w' := by
  go_enter Try.func16, Try.ntmps16
  go_wp2
  go_ret
  exact ⟨rfl, rfl⟩
set_option maxHeartbeats 400000 in
theorem hops_no (n : Int) (w : World) (h : ¬ (1 ≤ n ∧ n ≤ 5)) :
    Calls Try.prog 16 #[.int .i64 n] w fun e w' => e = .returned (.bool false) ∧ w = w' := by
  by_cases h1 : 1 ≤ n
  · have h2 : decide (n ≤ 5) = false := by simp; omega
    clear h
    go_enter Try.func16, Try.ntmps16
    go_wp2
    go_ret
    exact ⟨rfl, rfl⟩
  · have h2 : decide (1 ≤ n) = false := by simp; omega
    clear h h1
    go_enter Try.func16, Try.ntmps16
    go_wp2
    go_ret
    exact ⟨rfl, rfl⟩

set_option maxHeartbeats 400000 in
theorem counter_any (n : Int) (w : World) (h0 : 0 ≤ n) (h1 : n ≤ 1000) :
    Calls Try.prog 17 #[.int .i64 n] w fun e w' => e = .returned (.func (.func 22) #[] #[.pointer (some ⟨w.heap.size, 0, none⟩)]) ∧ w' = w.alloc (.cells #[.int .u64 n] 31) := by
  have hmf := make_func
  go_enter Try.func17, Try.ntmps17
  go_wp2
  go_ret
  exact ⟨rfl, rfl⟩

set_option maxHeartbeats 400000 in
theorem count1_any (g : Nat) (n : Int) (w : World) (h0 : 1 ≤ n) (h1 : n ≤ 1000) (hb : Blk w g 31 #[.int .u64 n]) :
    Calls Try.prog 22 #[.pointer (some ⟨g, 0, none⟩)] w fun e w' => e = .returned (.int .u64 (n - 1)) ∧ Blk w' g 31 #[.int .u64 (n - 1)] ∧ Frm (fun k => k = g) w w' ∧ w'.heap.size = w.heap.size := by
  have hc := hb.cell 0
  have hf := hb.frozen 0
  simp at hc
  have hb2 := hide (hb.set 0 (.int .u64 (n - 1)))
  have hF := hide (Frm.setCell w ⟨g, 0, none⟩ (.int .u64 (n - 1)) (fun k => k = g) rfl)
  clear hb
  go_enter Try.func22, Try.ntmps22
  go_wp2
  go_ret
  exact ⟨rfl, hb2.out, hF.out, by simp [World.setCell]⟩

/-- The first k rise. -/
def RiseTo (l : List Nat) (k : Nat) : Prop := ∀ i, i + 1 < k → l.getD i 0 < l.getD (i + 1) 0

set_option maxHeartbeats 2000000 in
theorem rise_any (A : Option Addr) (n c : Nat) (l : List Nat) (w : World) (hA : Rds w A n (cellsI .u16 l)) (hn : n ≤ 1000000) :
    Calls Try.prog 18 #[.slice A n c] w fun e w' => (∃ b, e = .returned (.bool b) ∧ (b = true ↔ Rise l)) ∧ ∃ q, w' = w.drewN q := by
  have hal : l.length = n := by have := hA.1; rwa [cellsI_length] at this
  have Hal := hide hal
  have HA := hide hA
  clear hA hal
  go_enter Try.func18, Try.ntmps18
  go_wp2_with fail
  go_loopw [3] (fun i wr => ∃ (k q : Nat), 1 ≤ k ∧ k ≤ n + 1 ∧ i = .int .i64 k ∧ RiseTo l k ∧ wr = w.drewN q) (fun i _ => n + 1 - (intOf i).toNat)
  case atStart => exact ⟨1, 0, by omega, by omega, rfl, (fun i hi => by omega), rfl⟩
  case round =>
    obtain ⟨k, q, hk1, hk, rfl, hR, rfl⟩ := hrel
    by_cases hlt : k < n
    · obtain ⟨pa, rfl, hca⟩ := HA.out.2 (by omega)
      obtain ⟨j, hj⟩ : ∃ j, k = j + 1 := ⟨k - 1, by omega⟩
      have ca := hca k _ (cellsI_at l k (by rw [Hal.out]; exact hlt))
      have cb := hca j _ (cellsI_at l j (by rw [Hal.out]; omega))
      have ca' : ∀ q, (w.drewN q).cell? (pa.add k) = some (.int .u16 ((l.getD k 0 : Nat) : Int)) := fun _ => ca
      have cb' : ∀ q, (w.drewN q).cell? (pa.add j) = some (.int .u16 ((l.getD j 0 : Nat) : Int)) := fun _ => cb
      have hwr : IntKind.i64.wrap ((k : Int) - 1) = (j : Int) := by rw [IntKind.wrap_i64]; omega
      have hki1 : (j : Int) < (n : Int) := by omega
      have hki2 : (k : Int) < (n : Int) := by omega
      have hjn : j < n := by omega
      clear ca cb hca
      by_cases hlo : l.getD j 0 < l.getD k 0
      · have HN : Hid (RiseTo l (k + 1)) := by
          intro i hi
          by_cases hik : i + 1 < k
          · exact hR i hik
          · have : i = j := by omega
            subst this
            rw [← hj]
            exact hlo
        have hlo' : ((l.getD j 0 : Nat) : Int) < ((l.getD k 0 : Nat) : Int) := by omega
        clear hlo hR hj
        generalize ((l.getD j 0 : Nat) : Int) = y at *
        generalize ((l.getD k 0 : Nat) : Int) = x at *
        go_wp2_with fail
        go_quiet (fail)
        go_wp2
        go_roundw
        case rel => exact ⟨k + 1, _, by omega, by omega, by go_num, HN.out, rfl⟩
        case measure => simp [intOf]; omega
      · have HN : Hid (¬ Rise l) := by
          intro h
          have := h j (by rw [Hal.out]; omega)
          rw [← hj] at this
          omega
        have hlo' : ((l.getD k 0 : Nat) : Int) ≤ ((l.getD j 0 : Nat) : Int) := by omega
        clear hlo hR hj
        generalize ((l.getD j 0 : Nat) : Int) = y at *
        generalize ((l.getD k 0 : Nat) : Int) = x at *
        go_wp2_with fail
        go_quiet (fail)
        go_wp2
        go_ret
        exact ⟨⟨_, rfl, by simpa using HN.out⟩, _, World.drewN_drewN _ _ _⟩
    · have HN : Hid (Rise l) := by
        intro i hi
        rw [Hal.out] at hi
        exact hR i (by omega)
      have hki2 : (n : Int) ≤ (k : Int) := by omega
      clear hR
      go_wp2_with fail
      go_ret
      exact ⟨⟨_, rfl, by simpa using HN.out⟩, _, rfl⟩

set_option maxHeartbeats 2000000 in
theorem index_any (A : Option Addr) (n c : Nat) (l : List Nat) (x : Nat) (w : World) (hA : Rds w A n (cellsI .u16 l)) (hn : n ≤ 1000000) :
    Calls Try.prog 23 #[.slice A n c, .int .u16 (x : Int)] w fun e w' => (∃ r : Int, e = .returned (.int .i64 r) ∧ (0 ≤ r ↔ x ∈ l)) ∧ w = w' := by
  have hal : l.length = n := by have := hA.1; rwa [cellsI_length] at this
  have Hal := hide hal
  have HA := hide hA
  clear hA hal
  go_enter Try.func23, Try.ntmps23
  go_wp2_with fail
  go_loopw [8] (fun i wr => ∃ (k : Nat), k ≤ n ∧ i = .int .i64 k ∧ x ∉ l.take k ∧ wr = w) (fun i _ => n - (intOf i).toNat)
  case atStart => exact ⟨0, by omega, rfl, by simp, rfl⟩
  case round =>
    obtain ⟨k, hk, rfl, hR, rfl⟩ := hrel
    by_cases hlt : k < n
    · obtain ⟨pa, rfl, hca⟩ := HA.out.2 (by omega)
      have ca := hca k _ (cellsI_at l k (by rw [Hal.out]; exact hlt))
      have hki2 : (k : Int) < (n : Int) := by omega
      have hT : l.take (k + 1) = l.take k ++ [l.getD k 0] := by rw [List.take_succ_eq_append_getElem (by rw [Hal.out]; exact hlt), List.getD_eq_getElem?_getD, List.getElem?_eq_getElem (by rw [Hal.out]; exact hlt)]; rfl
      clear hca
      by_cases hq : x = l.getD k 0
      · have HM : Hid (x ∈ l) := by
          have : x ∈ l.take (k + 1) := by rw [hT, ← hq]; simp
          exact List.mem_of_mem_take this
        rw [← hq] at ca
        clear hT hR hq
        go_wp2_with fail
        go_ret
        exact ⟨⟨_, rfl, by simpa using HM.out⟩, rfl⟩
      · have HN : Hid (x ∉ l.take (k + 1)) := by
          show x ∉ _
          rw [hT]
          simp only [List.mem_append, List.mem_singleton, not_or]
          exact ⟨hR, hq⟩
        have hq' : ¬ ((x : Int) = ((l.getD k 0 : Nat) : Int)) := by omega
        clear hT hR hq
        generalize ((l.getD k 0 : Nat) : Int) = y at *
        go_wp2_with fail
        go_roundw
        case rel => exact ⟨k + 1, by omega, by go_num, HN.out, trivial⟩
        case measure => simp [intOf]; omega
    · obtain rfl : k = n := by omega
      have HM : Hid (x ∉ l) := by rw [List.take_of_length_le (by rw [Hal.out]; exact Nat.le_refl _)] at hR; exact hR
      clear hR
      go_wp2_with fail
      go_ret
      exact ⟨⟨_, rfl, by simpa using HM.out⟩, rfl⟩

set_option maxHeartbeats 400000 in
theorem contains_any (A : Option Addr) (n c : Nat) (l : List Nat) (x : Nat) (w : World) (hA : Rds w A n (cellsI .u16 l)) (hn : n ≤ 1000000) :
    Calls Try.prog 19 #[.slice A n c, .int .u16 (x : Int)] w fun e w' => (∃ b, e = .returned (.bool b) ∧ (b = true ↔ x ∈ l)) ∧ w = w' := by
  have HI := index_any A n c l x w hA hn
  clear hA
  go_enter Try.func19, Try.ntmps19
  go_wp2_with fail
  refine HI.mono ?_
  rintro e w' ⟨⟨r, rfl, hr⟩, rfl⟩
  have HR := hide hr
  clear hr HI
  go_wp2
  go_ret
  exact ⟨⟨_, rfl, by rw [← HR.out]; simp⟩, rfl⟩
end Go.Proofs.Ytpcnnkgfemdnlaa
