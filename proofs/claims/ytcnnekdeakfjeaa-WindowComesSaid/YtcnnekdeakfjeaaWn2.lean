/-
  window.Latest by a contract. What lay when the call began lies as it lay.
-/
import Derived.Test.YtcnnekdeakfjeaaWn1
namespace Go.Proofs.Ytcnnekdeakfjeaa
set_option linter.unusedVariables false
open Go.RowKit

/-- When the last of n hops is done. -/
def lastN (s : Nat) (d : List Nat) (L K n : Nat) : Nat := hiN s d L K (n - 1) + d.getD (n - 1) 0
/-- What Latest tells of n hops. -/
def Late (s : Nat) (d : List Nat) (L K n : Nat) (v : Int) (b : Bool) : Prop :=
  (1 ≤ n ∧ n ≤ 5 ∧ FitTo s d L K n ∧ lastN s d L K n < 18446744073709551616 ∧ v = (lastN s d L K n : Int) ∧ b = true) ∨
  (¬ (1 ≤ n ∧ n ≤ 5 ∧ FitTo s d L K n ∧ lastN s d L K n < 18446744073709551616) ∧ v = 0 ∧ b = false)

theorem add_still (a b : Int) (w : World) (v : Int) (c : Bool) (ha : 0 ≤ a) (ha1 : a < 18446744073709551616) (hb : 0 ≤ b) (hb1 : b < 18446744073709551616) (hv : addV a b = v) (hc : addB a b = c) :
    Calls Try.prog 20 #[.int .u64 a, .int .u64 b] w fun e w' => e = .returned (.tuple #[.int .u64 v, .bool c]) ∧ w' = w :=
  (add_any a b w ha ha1 hb hb1).mono fun e w' ⟨he, hw⟩ => ⟨by rw [he, hv, hc], hw.symm⟩

set_option maxHeartbeats 2000000 in
theorem late_any (s : Nat) (A : Option Addr) (n c : Nat) (d : List Nat) (L K : Nat) (w : World) (hs : s < 18446744073709551616) (hL : L < 18446744073709551616) (hK : K < 18446744073709551616) (hd : ∀ x ∈ d, x < 4294967296)
    (hA : Rds w A n (cellsI .u32 d)) :
    Calls Try.prog 12 #[.int .u64 (s : Int), .slice A n c, .int .u64 (L : Int), .int .u64 (K : Int)] w (fun en w' => (∃ v b, en = .returned (.tuple #[.int .u64 v, .bool b]) ∧ Late s d L K n v b) ∧ Below w.heap.size w w') := by
  have hal : d.length = n := by have := hA.1; rwa [cellsI_length] at this
  by_cases hn : n = 0 ∨ 5 < n
  · have HL : Hid (Late s d L K n 0 false) := .inr ⟨fun h => by omega, rfl, rfl⟩
    have HC := hide (fun W => win_arg s A n c L K W hn)
    clear hal hA hd hs hL hK hn
    go_enter Try.func12, Try.ntmps12
    go_wp2_with fail
    refine (HC.out _).mono ?_
    rintro e w1 ⟨rfl, hb⟩
    have HB := hide hb
    clear hb HC
    go_wp2_with fail
    go_ret2
    exact ⟨⟨_, _, rfl, HL.out⟩, HB.out⟩
  · have h1 : 1 ≤ n := by omega
    have h5 : n ≤ 5 := by omega
    have HC := hide (win_any s A n c d L K w hs hL hK hd hA h1 h5)
    have HA := hide hA
    have HAL := hide hal
    have HD := hide hd
    clear hal hA hd hs hL hK hn
    go_enter Try.func12, Try.ntmps12
    go_wp2_with fail
    refine HC.out.mono ?_
    rintro e w1 (⟨hf, A1, c1, rfl, ho, hb⟩ | ⟨hf, rfl, hb⟩)
    · have HF := hide hf
      have HO := hide ho
      have HB := hide hb
      clear hf ho hb HC
      obtain ⟨j, rfl⟩ : ∃ j, n = j + 1 := ⟨n - 1, by omega⟩
      obtain ⟨g, rfl, _, _, hcell⟩ := HO.out.cells (by omega)
      obtain ⟨pa, rfl, hca⟩ := HA.out.2 (by omega)
      have ca0 := hca j _ (cellsI_at d j (by rw [HAL.out]; omega))
      have ca : w1.drew.cell? (pa.add j) = some (.int .u32 ((d.getD j 0 : Nat) : Int)) := by
        show w1.cell? _ = _
        rw [HB.out.cell (World.block_lt_of_cell? _ _ ca0)]
        exact ca0
      have HX : Hid (d.getD j 0 < 4294967296) := by
        have hkl : j < d.length := by rw [HAL.out]; omega
        show d.getD j 0 < _
        rw [List.getD_eq_getElem?_getD, List.getElem?_eq_getElem hkl]
        exact HD.out _ (List.getElem_mem hkl)
      have hh := (hcell j (by omega)).2
      rw [winTo_at s d L K (j + 1) j (by omega)] at hh
      have hh' : w1.drew.cell? ⟨g, j * 2 + 1, none⟩ = some (.int .u64 (hiN s d L K j : Int)) := hh
      have HH := hide (HF.out j (by omega))
      have HLN : Hid (lastN s d L K (j + 1) = hiN s d L K j + d.getD j 0) := rfl
      clear ca0 hca hh hcell HO HA
      generalize d.getD j 0 = x at *
      generalize hiN s d L K j = hi at *
      have hji : IntKind.i64.wrap ((j + 1 : Int) - 1) = (j : Int) := by rw [IntKind.wrap_i64]; omega
      have hjn : (j : Int) < (j : Int) + 1 := by omega
      have hxw : IntKind.u64.wrap (x : Int) = (x : Int) := by rw [u64wrap]; have := HX.out; omega
      obtain ⟨v, b, hv, hb, hlate⟩ : ∃ v b, addV (hi : Int) (x : Int) = v ∧ addB (hi : Int) (x : Int) = b ∧ Late s d L K (j + 1) v b := by
        refine ⟨_, _, rfl, rfl, ?_⟩
        by_cases hlt : hi + x < 18446744073709551616
        · refine .inl ⟨h1, h5, HF.out, by rw [HLN.out]; exact hlt, ?_, ?_⟩
          · rw [HLN.out]; unfold addV; rw [if_pos (by omega)]; omega
          · unfold addB; rw [decide_eq_true (by omega)]
        · refine .inr ⟨fun h => hlt (by rw [HLN.out] at h; exact h.2.2.2), ?_, ?_⟩
          · unfold addV; rw [if_neg (by omega)]
          · unfold addB; rw [decide_eq_false (by omega)]
      have HLT := hide hlate
      have HV1 := hide hv
      have HV2 := hide hb
      have HB1 : Hid (0 ≤ (hi : Int) ∧ (hi : Int) < 18446744073709551616) := by have := HH.out; exact ⟨by omega, by omega⟩
      have HB2 : Hid (0 ≤ (x : Int) ∧ (x : Int) < 18446744073709551616) := by have := HX.out; exact ⟨by omega, by omega⟩
      clear hv hb hlate HF HLN
      go_wp2_with fail
      refine wp_region_still_lit (by kernel_rfl) (by kernel_rfl) ?_
      change wpStill _ _ w1.drew _ _ _
      iterate 10 still_step
      still_call (add_still hi x _ v b HB1.out.1 HB1.out.2 HB2.out.1 HB2.out.2 HV1.out HV2.out)
      iterate 4 still_step
      refine wpStill_nil ?_
      go_wp2_with fail
      go_ret2
      exact ⟨⟨_, _, rfl, HLT.out⟩, below_drewN HB.out 1⟩
    · have HL : Hid (Late s d L K n 0 false) := .inr ⟨fun h => hf h.2.2.1, rfl, rfl⟩
      have HB := hide hb
      clear hf hb HC
      go_wp2_with fail
      go_ret2
      exact ⟨⟨_, _, rfl, HL.out⟩, HB.out⟩
end Go.Proofs.Ytcnnekdeakfjeaa
