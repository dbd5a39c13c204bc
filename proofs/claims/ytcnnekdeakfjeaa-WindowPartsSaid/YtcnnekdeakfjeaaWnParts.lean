/-
  WindowParts, walked.
-/
import Derived.Test.YtcnnekdeakfjeaaWn8
namespace Go.Proofs.Ytcnnekdeakfjeaa
set_option linter.unusedVariables false
open Go.RowKit

set_option maxHeartbeats 4000000 in
theorem wparts_walk (s : Nat) (A : Option Addr) (n c : Nat) (d : List Nat) (L K : Nat) (N : Int) (w : World) (hs : s < 18446744073709551616) (hA : Rds w A n (cellsI .u32 d)) (hd : ∀ x ∈ d, x < 4294967296) (hc : n ≤ c) (hcm : c ≤ 9223372036854775807) (hL : L < 18446744073709551616) (hK : K < 18446744073709551616) :
    Calls Try.prog 8 #[.int .u64 (s : Int), .slice A n c, .int .u64 (L : Int), .int .u64 (K : Int), .int .i64 N] w fun e w' => e = .returned (.bool true) ∧ Below w.heap.size w w' := by
  obtain ⟨m, HM, hm1, hm2, hme⟩ := nat_min n 5
  clear hme
  have hR := hA.take m hm1
  rw [cellsI_take] at hR
  have HA : Hid (Args w s A m (d.take m) L K) := ⟨hs, hL, hK, fun x hx => hd x (List.mem_of_mem_take hx), hR⟩
  generalize d.take m = d' at *
  have hmc : m ≤ c := by omega
  clear hs hA hd hL hK hR hc hcm
  go_enter Try.func8, Try.ntmps8
  go_wp2_with fail
  refine (shown_any w).mono ?_
  rintro e w1 ⟨rfl, hb1⟩
  have HB1 := hide hb1
  have HA1 := hide (HA.out.below hb1)
  clear hb1 HA
  go_wp2_with (first
    | (refine wpl_min rfl (.tmp 20) (.const (.int .i64 5)) _ _ rfl _ (n : Int) 5 (m : Int) rfl rfl HM.out ?_)
    | (refine wpl_cutQ0 one_u32 rfl (.tmp 18) (.tmp 21) rfl A n c m (m : Int) rfl rfl rfl hmc ?_))
  by_cases h0 : m = 0
  · refine (win_arg s A m c L K _ (.inl h0)).mono ?_
    rintro e w2 ⟨rfl, hb⟩
    have HB2 := hide (below_frm HB1.out (Frm.of_below (S := fun _ => False) hb) HB1.out.size (fun _ h => h.elim))
    clear hb
    go_wp2_with fail
    go_ret
    exact ⟨rfl, HB2.out⟩
  · have h1 : 1 ≤ m := by omega
    by_cases hf : FitTo s d' L K m
    · refine (win_ok HA1.out h1 hm2 hf).mono ?_
      rintro e w2 ⟨A2, c2, rfl, ho, hb⟩
      have HB2 := hide (below_frm HB1.out (Frm.of_below (S := fun _ => False) hb) HB1.out.size (fun _ h => h.elim))
      have HA2 := hide (HA1.out.below hb)
      have HO2 := hide ho
      have HF := hide hf
      obtain ⟨v, hv, hv1⟩ := mask_nat N
      obtain ⟨r, hr⟩ : ∃ r, r = v % m := ⟨_, rfl⟩
      have hrm : r < m := by rw [hr]; exact Nat.mod_lt _ (by omega)
      have hvr : (v : Int).tmod (m : Int) = (r : Int) := by rw [hr, Int.ofNat_tmod]
      obtain ⟨k, hk⟩ : ∃ k : Nat, k = 1 + r := ⟨_, rfl⟩
      have hrk : wrap64 (1 + (r : Int)) = (k : Int) := by unfold wrap64; omega
      have hmz : ¬ ((m : Int) = 0) := by omega
      have hk1 : 1 ≤ k := by omega
      have hkm : k ≤ m := by omega
      have hkc : k ≤ c := by omega
      have hmk : ¬ ((m : Int) < (k : Int)) := by omega
      have HA3 : Hid (Args w2 s A k (d'.take k) L K) := ⟨HA2.out.hs, HA2.out.hL, HA2.out.hK, fun x hx => HA2.out.hd x (List.mem_of_mem_take hx), by have := HA2.out.row.take k hkm; rwa [cellsI_take] at this⟩
      have HF3 := hide (fit_take HF.out hkm)
      clear hb ho hf h0 HA1 HB1 hr hk hrm hv1 HA2 HF
      go_wp2_with (refine wpl_cutQ0 one_u32 rfl (.tmp 42) (.tmp 43) rfl A m c k (k : Int) rfl rfl rfl hkc ?_)
      refine (win_ok HA3.out hk1 (by omega) HF3.out).mono ?_
      rintro e w3 ⟨A3, c3, rfl, ho, hb⟩
      try simp only [hrk]
      have HB3 := hide (below_call HB2.out hb)
      obtain ⟨g2, rfl, _, _, hc2⟩ := cells_of (HO2.out.call hb) (by omega)
      obtain ⟨g3, rfl, _, _, hc3⟩ := cells_of ho (by omega)
      have HC2 := hide hc2
      have HC3 := hide hc3
      clear hb ho HB2 HO2 HA3 HF3 hc2 hc3 hv hvr hrk
      go_wp2_with fail
      go_loopw [16] (fun i wr => ∃ (j q : Nat), j ≤ k ∧ i = .int .i64 j ∧ wr = w3.drewN q) (fun i _ => k - (intOf i).toNat)
      case atStart => exact ⟨0, 0, by omega, rfl, rfl⟩
      case round =>
        obtain ⟨j, q, hj, rfl, rfl⟩ := hrel
        by_cases hlt : j < k
        · have hji : (j : Int) < (k : Int) := by omega
          have hjm : (j : Int) < (m : Int) := by omega
          have hjm2 : j < m := by omega
          have e0 : ∀ q, (w3.drewN q).cell? ⟨g2, j * 2, none⟩ = some (.int .u64 ((winAt s d' L K j).1 : Int)) := fun _ => (HC2.out j (by omega)).1
          have e1 : ∀ q, (w3.drewN q).cell? ⟨g2, j * 2 + 1, none⟩ = some (.int .u64 ((winAt s d' L K j).2 : Int)) := fun _ => (HC2.out j (by omega)).2
          have e2 : ∀ q, (w3.drewN q).cell? ⟨g3, j * 2, none⟩ = some (.int .u64 ((winAt s d' L K j).1 : Int)) := fun _ => by rw [← winAt_take s d' L K k j hlt]; exact (HC3.out j (by omega)).1
          have e3 : ∀ q, (w3.drewN q).cell? ⟨g3, j * 2 + 1, none⟩ = some (.int .u64 ((winAt s d' L K j).2 : Int)) := fun _ => by rw [← winAt_take s d' L K k j hlt]; exact (HC3.out j (by omega)).2
          generalize ((winAt s d' L K j).1 : Int) = x at *
          generalize ((winAt s d' L K j).2 : Int) = y at *
          go_wp2_with fail
          go_quiet (fail)
          go_wp2
          go_roundw
          case rel => exact ⟨j + 1, _, by omega, by go_num, rfl⟩
          case measure => simp [intOf]; omega
        · obtain rfl : j = k := by omega
          have hkk : ¬ ((j : Int) < (j : Int)) := by omega
          go_wp2_with fail
          go_ret
          exact ⟨rfl, below_drewN HB3.out q⟩
    · refine (win_over HA1.out h1 hm2 hf).mono ?_
      rintro e w2 ⟨rfl, hb⟩
      have HB2 := hide (below_frm HB1.out (Frm.of_below (S := fun _ => False) hb) HB1.out.size (fun _ h => h.elim))
      clear hb hf
      go_wp2_with fail
      go_ret
      exact ⟨rfl, HB2.out⟩
end Go.Proofs.Ytcnnekdeakfjeaa
