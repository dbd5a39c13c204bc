/-
  WindowMoves, walked.
-/
import Derived.Test.YtcnnekdeakfjeaaWn8
namespace Go.Proofs.Ytcnnekdeakfjeaa
set_option linter.unusedVariables false
open Go.RowKit

set_option maxHeartbeats 4000000 in
set_option maxRecDepth 100000 in
theorem wmoves_walk (s0 b0 : Nat) (A : Option Addr) (n c : Nat) (d : List Nat) (L0 K0 : Nat) (w : World) (hs : s0 < 18446744073709551616) (hb : b0 < 18446744073709551616) (hA : Rds w A n (cellsI .u32 d)) (hd : ∀ x ∈ d, x < 4294967296) (hc : n ≤ c) (hcm : c ≤ 9223372036854775807) (hL : L0 < 18446744073709551616) (hK : K0 < 18446744073709551616) :
    Calls Try.prog 7 #[.int .u64 (s0 : Int), .int .u64 (b0 : Int), .slice A n c, .int .u64 (L0 : Int), .int .u64 (K0 : Int)] w fun e w' => e = .returned (.bool true) ∧ Below w.heap.size w w' := by
  obtain ⟨s, es, ls⟩ := mask40 s0 hs
  obtain ⟨b, eb, lb⟩ := mask40 b0 hb
  obtain ⟨L, eL, lL⟩ := mask40 L0 hL
  obtain ⟨k, ek, lk⟩ := mask40 K0 hK
  obtain ⟨K, HKM, hK1, hK2, hKe⟩ := nat_min k s
  obtain ⟨m, HM, hm1, hm2, hme⟩ := nat_min n 5
  clear hme hKe
  obtain ⟨t, ht⟩ : ∃ t, t = s + b := ⟨_, rfl⟩
  have hwt : IntKind.u64.wrap ((s : Int) + (b : Int)) = (t : Int) := by rw [u64wrap]; omega
  have hR := hA.take m hm1
  rw [cellsI_take] at hR
  have hd' : ∀ x ∈ d.take m, x < 4294967296 := fun x hx => hd x (List.mem_of_mem_take hx)
  have HA : Hid (Args w s A m (d.take m) L K) := ⟨by omega, by omega, by omega, hd', hR⟩
  have HAt : Hid (Args w t A m (d.take m) L K) := ⟨by omega, by omega, by omega, hd', hR⟩
  generalize d.take m = d' at *
  have hmc : m ≤ c := by omega
  have HF := hide (fit_small (s := s) (n := m) (by omega) lL (K := K) (by omega) hd' hm2)
  have HFt := hide (fit_small (s := t) (n := m) (by omega) lL (K := K) (by omega) hd' hm2)
  have HLs : Hid (1 ≤ m → lastN s d' L K m < 9899899617280) := fun h1 => last_small (by omega) lL (by omega) hd' h1 hm2 HA.out.len
  have HLt : Hid (1 ≤ m → lastN t d' L K m < 9899899617280) := fun h1 => last_small (by omega) lL (by omega) hd' h1 hm2 HA.out.len
  have HLE : Hid (lastN t d' L K m = lastN s d' L K m + b) := by rw [ht]; exact lastN_add _ _ _ _ _ _
  have HW1 : Hid (∀ i, (winAt t d' L K i).1 = (winAt s d' L K i).1 + b) := fun i => by
    have := start_le s d' i
    show earl t d' i - K = earl s d' i - K + b
    rw [ht, earl_add]
    omega
  have HW2 : Hid (∀ i, (winAt t d' L K i).2 = (winAt s d' L K i).2 + b) := fun i => by
    show hiN t d' L K i = hiN s d' L K i + b
    rw [ht, hiN_add]
  have HS1 : Hid (∀ i, i < 5 → (winAt s d' L K i).2 < 9895604649984) := fun i hi => hiN_small (by omega) lL (by omega) hd' i hi
  have HS2 : Hid (∀ i, (winAt s d' L K i).1 ≤ (winAt s d' L K i).2) := fun i => by
    have := earl_le s d' L K i
    show earl s d' i - K ≤ hiN s d' L K i
    omega
  have HLB := hide lb
  clear hs hb hA hd hL hK hR hc hcm ls lb lL lk ht hd' hK1 hK2
  generalize (s0 : Int) = S0 at *
  generalize (b0 : Int) = B0 at *
  generalize (L0 : Int) = L1 at *
  generalize (K0 : Int) = K1 at *
  go_enter Try.func7, Try.ntmps7
  go_wp2_with fail
  refine (shown_any w).mono ?_
  rintro e w1 ⟨rfl, hb1⟩
  have HB1 := hide hb1
  have HA1 := hide (HA.out.below hb1)
  have HAt1 := hide (HAt.out.below hb1)
  clear hb1 HA HAt
  go_wp2_with (first
    | (refine wplk_min (.tmp 34) (.tmp 35) _ _ rfl _ .u64 (k : Int) (s : Int) (K : Int) rfl rfl HKM.out rfl ?_)
    | (refine wpl_min rfl (.tmp 39) (.const (.int .i64 5)) _ _ rfl _ (n : Int) 5 (m : Int) rfl rfl HM.out ?_)
    | (refine wpl_cutQ0 one_u32 rfl (.tmp 37) (.tmp 40) rfl A n c m (m : Int) rfl rfl rfl hmc ?_))
  clear es eb eL ek
  by_cases h0 : m = 0
  · subst h0
    refine (win_arg s A 0 c L K _ (.inl rfl)).mono ?_
    rintro e w2 ⟨rfl, hb⟩
    have HB2 := hide (below_call HB1.out hb)
    have HA2 := hide (HA1.out.below hb)
    have HAt2 := hide (HAt1.out.below hb)
    clear hb HB1 HA1 HAt1
    go_wp2_with fail
    refine (win_arg t A 0 c L K _ (.inl rfl)).mono ?_
    rintro e w3 ⟨rfl, hb⟩
    have HB3 := hide (below_call HB2.out hb)
    have HA3 := hide (HA2.out.below hb)
    have HAt3 := hide (HAt2.out.below hb)
    clear hb HB2 HA2 HAt2
    go_wp2_with fail
    refine (late_not HA3.out (fun h => by omega)).mono ?_
    rintro e w4 ⟨rfl, hb⟩
    have HB4 := hide (below_call HB3.out hb)
    have HAt4 := hide (HAt3.out.below hb)
    clear hb HB3 HA3 HAt3
    go_wp2_with fail
    refine (late_not HAt4.out (fun h => by omega)).mono ?_
    rintro e w5 ⟨rfl, hb⟩
    have HB5 := hide (below_call HB4.out hb)
    clear hb HB4 HAt4
    go_wp2_with fail
    go_ret
    exact ⟨rfl, HB5.out⟩
  · have h1 : 1 ≤ m := by omega
    refine (win_ok HA1.out h1 hm2 HF.out).mono ?_
    rintro e w2 ⟨A2, c2, rfl, ho2, hb⟩
    have HB2 := hide (below_call HB1.out hb)
    have HA2 := hide (HA1.out.below hb)
    have HAt2 := hide (HAt1.out.below hb)
    have HO2 := hide ho2
    clear hb HB1 HA1 HAt1 ho2
    go_wp2_with fail
    refine (win_ok HAt2.out h1 hm2 HFt.out).mono ?_
    rintro e w3 ⟨A3, c3, rfl, ho3, hb⟩
    have HB3 := hide (below_call HB2.out hb)
    have HA3 := hide (HA2.out.below hb)
    have HAt3 := hide (HAt2.out.below hb)
    have HO2' := hide (HO2.out.call hb)
    have HO3 := hide ho3
    clear hb HB2 HA2 HAt2 ho3 HO2
    go_wp2_with fail
    refine (late_ok HA3.out h1 hm2 HF.out (by have := HLs.out h1; omega)).mono ?_
    rintro e w4 ⟨rfl, hb⟩
    have HB4 := hide (below_call HB3.out hb)
    have HAt4 := hide (HAt3.out.below hb)
    have HO2 := hide (HO2'.out.call hb)
    have HO3' := hide (HO3.out.call hb)
    clear hb HB3 HA3 HAt3 HO2' HO3
    go_wp2_with fail
    refine (late_ok HAt4.out h1 hm2 HFt.out (by have := HLt.out h1; omega)).mono ?_
    rintro e w5 ⟨rfl, hb⟩
    have HB5 := hide (below_call HB4.out hb)
    have HO2' := hide (HO2.out.call hb)
    have HO3 := hide (HO3'.out.call hb)
    clear hb HB4 HAt4 HO2 HO3'
    obtain ⟨g2, rfl, _, _, hc2⟩ := cells_of HO2'.out (by omega)
    obtain ⟨g3, rfl, _, _, hc3⟩ := cells_of HO3.out (by omega)
    have HC2 := hide hc2
    have HC3 := hide hc3
    clear hc2 hc3 HO2' HO3
    have hsum : IntKind.u64.wrap ((lastN s d' L K m : Int) + (b : Int)) = (lastN t d' L K m : Int) := by
      have := HLs.out h1
      have := HLB.out
      rw [HLE.out, u64wrap]
      omega
    have hm0 : ¬ ((m : Int) = 0) := by omega
    generalize lastN s d' L K m = x at *
    generalize lastN t d' L K m = y at *
    clear h0
    go_wp2_with fail
    clear hsum hwt
    go_loopw [21] (fun i wr => ∃ (j q : Nat), j ≤ m ∧ i = .int .i64 j ∧ wr = w5.drewN q) (fun i _ => m - (intOf i).toNat)
    case atStart => exact ⟨0, 0, by omega, rfl, rfl⟩
    case round =>
      obtain ⟨j, q, hj, rfl, rfl⟩ := hrel
      by_cases hlt : j < m
      · have hji : (j : Int) < (m : Int) := by omega
        have e0 : ∀ q, (w5.drewN q).cell? ⟨g2, j * 2, none⟩ = some (.int .u64 ((winAt s d' L K j).1 : Int)) := fun _ => (HC2.out j (by omega)).1
        have e1 : ∀ q, (w5.drewN q).cell? ⟨g2, j * 2 + 1, none⟩ = some (.int .u64 ((winAt s d' L K j).2 : Int)) := fun _ => (HC2.out j (by omega)).2
        have e2 : ∀ q, (w5.drewN q).cell? ⟨g3, j * 2, none⟩ = some (.int .u64 ((winAt t d' L K j).1 : Int)) := fun _ => (HC3.out j (by omega)).1
        have e3 : ∀ q, (w5.drewN q).cell? ⟨g3, j * 2 + 1, none⟩ = some (.int .u64 ((winAt t d' L K j).2 : Int)) := fun _ => (HC3.out j (by omega)).2
        have r0 : IntKind.u64.wrap (((winAt s d' L K j).1 : Int) + (b : Int)) = ((winAt t d' L K j).1 : Int) := by
          have := HS1.out j (by omega)
          have := HS2.out j
          have := HLB.out
          rw [HW1.out, u64wrap]
          omega
        have r1 : IntKind.u64.wrap (((winAt s d' L K j).2 : Int) + (b : Int)) = ((winAt t d' L K j).2 : Int) := by
          have := HS1.out j (by omega)
          have := HLB.out
          rw [HW2.out, u64wrap]
          omega
        generalize ((winAt s d' L K j).1 : Int) = x0 at *
        generalize ((winAt s d' L K j).2 : Int) = x1 at *
        generalize ((winAt t d' L K j).1 : Int) = y0 at *
        generalize ((winAt t d' L K j).2 : Int) = y1 at *
        go_wp2_with fail
        go_quiet (fail)
        go_wp2
        go_roundw
        case rel => exact ⟨j + 1, _, by omega, by go_num, rfl⟩
        case measure => simp [intOf]; omega
      · obtain rfl : j = m := by omega
        have hkk : ¬ ((j : Int) < (j : Int)) := by omega
        go_wp2_with fail
        go_ret
        exact ⟨rfl, below_drewN HB5.out q⟩
end Go.Proofs.Ytcnnekdeakfjeaa
