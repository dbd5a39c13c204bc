/-
  WindowTells, walked.
-/
import Derived.Test.YtcnnekdeakfjeaaWn8
import Derived.Test.YtcnnekdeakfjeaaWn6
import Derived.Test.YtcnnekdeakfjeaaQuietC
namespace Go.Proofs.Ytcnnekdeakfjeaa
set_option linter.unusedVariables false
open Go.RowKit

theorem rwin_ok {s : Nat} {A : Option Addr} {n c : Nat} {d : List Nat} {L K : Nat} {w : World} (h : Args w s A n d L K) (h1 : 1 ≤ n) (h5 : n ≤ 5) (hf : FitTo s d L K n) :
    Calls Try.prog 11 #[.int .u64 (s : Int), .slice A n c, .int .u64 (L : Int), .int .u64 (K : Int)] w (Wins w w.heap.size 36 s d L K n) :=
  (rwin_any s A n c d L K w h.hs h.hL h.hK h.hd h.row h1 h5).mono fun e w' h => by
    rcases h with h | h
    · exact h.2
    · exact absurd hf h.1
theorem rwin_over {s : Nat} {A : Option Addr} {n c : Nat} {d : List Nat} {L K : Nat} {w : World} (h : Args w s A n d L K) (h1 : 1 ≤ n) (h5 : n ≤ 5) (hf : ¬ FitTo s d L K n) :
    Calls Try.prog 11 #[.int .u64 (s : Int), .slice A n c, .int .u64 (L : Int), .int .u64 (K : Int)] w (NoWins w 9) :=
  (rwin_any s A n c d L K w h.hs h.hL h.hK h.hd h.row h1 h5).mono fun e w' h => by
    rcases h with h | h
    · exact absurd h.1 hf
    · exact h.2

theorem late_uniq {s : Nat} {d : List Nat} {L K n : Nat} {v1 v2 : Int} {b1 b2 : Bool} (h1 : Late s d L K n v1 b1) (h2 : Late s d L K n v2 b2) : v1 = v2 ∧ b1 = b2 := by
  rcases h1 with ⟨a1, a2, a3, a4, rfl, rfl⟩ | ⟨h, rfl, rfl⟩
  · rcases h2 with ⟨_, _, _, _, rfl, rfl⟩ | ⟨h, _⟩
    · exact ⟨rfl, rfl⟩
    · exact absurd ⟨a1, a2, a3, a4⟩ h
  · rcases h2 with ⟨a1, a2, a3, a4, _⟩ | ⟨_, rfl, rfl⟩
    · exact absurd ⟨a1, a2, a3, a4⟩ h
    · exact ⟨rfl, rfl⟩

set_option maxHeartbeats 8000000 in
set_option maxRecDepth 100000 in
theorem wtells_walk (s : Nat) (A : Option Addr) (n c : Nat) (d : List Nat) (L K : Nat) (t : Int) (w : World) (hs : s < 18446744073709551616) (hA : Rds w A n (cellsI .u32 d)) (hd : ∀ x ∈ d, x < 4294967296) (hc : n ≤ c) (hcm : c ≤ 9223372036854775807) (hL : L < 18446744073709551616) (hK : K < 18446744073709551616) :
    Calls Try.prog 3 #[.int .u64 (s : Int), .slice A n c, .int .u64 (L : Int), .int .u64 (K : Int), .int .u64 t] w fun e w' => e = .returned (.bool true) ∧ Below w.heap.size w w' := by
  obtain ⟨m, HM, hm1, hm2, hme⟩ := nat_min n 8
  clear hme
  have hR := hA.take m hm1
  rw [cellsI_take] at hR
  have HA : Hid (Args w s A m (d.take m) L K) := ⟨hs, hL, hK, fun x hx => hd x (List.mem_of_mem_take hx), hR⟩
  generalize d.take m = d' at *
  have hmc : m ≤ c := by omega
  clear hs hA hd hL hK hR hc hcm
  go_enter Try.func3, Try.ntmps3
  go_wp2_with fail
  refine (shown_any w).mono ?_
  rintro e w1 ⟨rfl, hb1⟩
  have HB1 := hide hb1
  have HA1 := hide (HA.out.below hb1)
  clear hb1 HA
  go_wp2_with (first
    | (refine wpl_min rfl (.tmp 24) (.const (.int .i64 8)) _ _ rfl _ (n : Int) 8 (m : Int) rfl rfl HM.out ?_)
    | (refine wpl_cutQ0 one_u32 rfl (.tmp 22) (.tmp 25) rfl A n c m (m : Int) rfl rfl rfl hmc ?_))
  by_cases h0 : m = 0 ∨ 5 < m
  · refine (win_arg s A m c L K _ h0).mono ?_
    rintro e w2 ⟨rfl, hb⟩
    have HB2 := hide (below_call HB1.out hb)
    have HA2 := hide (HA1.out.below hb)
    clear hb HB1 HA1
    go_wp2_with fail
    refine (rwin_arg s A m c L K _ h0).mono ?_
    rintro e w3 ⟨rfl, hb⟩
    have HB3 := hide (below_call HB2.out hb)
    have HA3 := hide (HA2.out.below hb)
    clear hb HB2 HA2
    go_wp2_with fail
    refine (late_any s A m c d' L K _ HA3.out.hs HA3.out.hL HA3.out.hK HA3.out.hd HA3.out.row).mono ?_
    rintro e w4 ⟨⟨v1, b1, rfl, hv1⟩, hb⟩
    have HB4 := hide (below_call HB3.out hb)
    have HA4 := hide (HA3.out.below hb)
    clear hb HB3 HA3
    go_wp2_with fail
    refine (rlate_any s A m c d' L K _ HA4.out.hs HA4.out.hL HA4.out.hK HA4.out.hd HA4.out.row).mono ?_
    rintro e w5 ⟨⟨v2, b2, rfl, hv2⟩, hb⟩
    obtain ⟨rfl, rfl⟩ := late_uniq hv1 hv2
    have HB5 := hide (below_call HB4.out hb)
    clear hb HB4 HA4 hv1 hv2
    go_wp2_with fail
    go_loopw [20] (fun i wr => i = .int .i64 0 ∧ wr = w5) (fun i _ => 0)
    case atStart => exact ⟨rfl, rfl⟩
    case round =>
      obtain ⟨rfl, rfl⟩ := hrel
      go_wp2_with fail
      go_ret
      exact ⟨rfl, HB5.out⟩
  · have h1 : 1 ≤ m := by omega
    have h5 : m ≤ 5 := by omega
    clear h0
    by_cases hf : FitTo s d' L K m
    · refine (win_ok HA1.out h1 h5 hf).mono ?_
      rintro e w2 ⟨A2, c2, rfl, ho2, hb⟩
      have HB2 := hide (below_call HB1.out hb)
      have HA2 := hide (HA1.out.below hb)
      have HO2 := hide ho2
      clear hb HB1 HA1 ho2
      go_wp2_with fail
      refine (rwin_ok HA2.out h1 h5 hf).mono ?_
      rintro e w3 ⟨A3, c3, rfl, ho3, hb⟩
      have HB3 := hide (below_call HB2.out hb)
      have HA3 := hide (HA2.out.below hb)
      have HO3 := hide (HO2.out.call hb)
      have HP3 := hide ho3
      clear hb HB2 HA2 HO2 ho3 hf
      go_wp2_with fail
      refine (late_any s A m c d' L K _ HA3.out.hs HA3.out.hL HA3.out.hK HA3.out.hd HA3.out.row).mono ?_
      rintro e w4 ⟨⟨v1, b1, rfl, hv1⟩, hb⟩
      have HB4 := hide (below_call HB3.out hb)
      have HA4 := hide (HA3.out.below hb)
      have HO4 := hide (HO3.out.call hb)
      have HP4 := hide (HP3.out.call hb)
      clear HO3 HP3
      clear hb HB3 HA3
      go_wp2_with fail
      refine (rlate_any s A m c d' L K _ HA4.out.hs HA4.out.hL HA4.out.hK HA4.out.hd HA4.out.row).mono ?_
      rintro e w5 ⟨⟨v2, b2, rfl, hv2⟩, hb⟩
      obtain ⟨rfl, rfl⟩ := late_uniq hv1 hv2
      have HB5 := hide (below_call HB4.out hb)
      have HO5 := hide (HO4.out.call hb)
      have HP5 := hide (HP4.out.call hb)
      clear HO4 HP4
      clear hb HB4 HA4 hv1 hv2
      obtain ⟨g2, rfl, hg2, hl2, hc2⟩ := cells_of HO5.out (by omega)
      obtain ⟨g3, rfl, hg3, hl3, hc3⟩ := cells_of HP5.out (by omega)
      obtain ⟨C, hC⟩ : ∃ C : World → Prop, C = fun w' => Below w5.heap.size w5 w' := ⟨_, rfl⟩
      have hC0 : Hid (C w5) := by rw [hC]; exact Below.refl _ _
      have HCd : Hid (∀ w', C w' → C w'.drew) := by rw [hC]; exact fun w' h => below_drewN h 1
      have HCh : Hid (∀ a b : Int, ∀ w', C w' → Calls Try.prog 14 #[.agg #[.int .u64 a, .int .u64 b], .int .u64 t] w' (fun e w'' => e = .returned (.int .i64 (hasV a b t)) ∧ C w'')) := by
        rw [hC]
        exact fun a b w' h => (has_any a b t w').mono fun e w'' k => ⟨k.1, below_call h k.2⟩
      have HCr : Hid (∀ a b : Int, ∀ w', C w' → Calls Try.prog 15 #[.agg #[.int .u64 a, .int .u64 b], .int .u64 t] w' (fun e w'' => e = .returned (.int .i64 (hasV a b t)) ∧ C w'')) := by
        rw [hC]
        exact fun a b w' h => (rhas_any a b t w').mono fun e w'' k => ⟨k.1, below_call h k.2⟩
      have HC2 : Hid (∀ j, j < m → ∀ w', C w' → w'.cell? ⟨g2, j * 2, none⟩ = some (.int .u64 ((winAt s d' L K j).1 : Int)) ∧ w'.cell? ⟨g2, j * 2 + 1, none⟩ = some (.int .u64 ((winAt s d' L K j).2 : Int))) := by
        rw [hC]
        exact fun j hj w' h => ⟨by rw [Below.cell h hl2]; exact (hc2 j hj).1, by rw [Below.cell h hl2]; exact (hc2 j hj).2⟩
      have HC3 : Hid (∀ j, j < m → ∀ w', C w' → w'.cell? ⟨g3, j * 2, none⟩ = some (.int .u64 ((winAt s d' L K j).1 : Int)) ∧ w'.cell? ⟨g3, j * 2 + 1, none⟩ = some (.int .u64 ((winAt s d' L K j).2 : Int))) := by
        rw [hC]
        exact fun j hj w' h => ⟨by rw [Below.cell h hl3]; exact (hc3 j hj).1, by rw [Below.cell h hl3]; exact (hc3 j hj).2⟩
      have HCE : Hid (∀ w', C w' → Below w.heap.size w w') := by rw [hC]; exact fun w' h => below_call HB5.out h
      clear hC hc2 hc3 hg2 hg3 hl2 hl3 HO5 HP5 HB5
      go_wp2_with fail
      go_loopw [20] (fun i wr => ∃ (j : Nat), j ≤ m ∧ i = .int .i64 j ∧ C wr) (fun i _ => m - (intOf i).toNat)
      case atStart => exact ⟨0, by omega, rfl, hC0.out⟩
      case round =>
        obtain ⟨j, hj, rfl, hw⟩ := hrel
        have HW := hide hw
        clear hw
        by_cases hlt : j < m
        · have hji : (j : Int) < (m : Int) := by omega
          have hCa0 : ∀ w', C w' → w'.cell? ⟨g2, j * 2, none⟩ = some (.int .u64 ((winAt s d' L K j).1 : Int)) := fun w' h => (HC2.out j hlt w' h).1
          have hCa1 : ∀ w', C w' → w'.cell? ⟨g2, j * 2 + 1, none⟩ = some (.int .u64 ((winAt s d' L K j).2 : Int)) := fun w' h => (HC2.out j hlt w' h).2
          have hCb0 : ∀ w', C w' → w'.cell? ⟨g3, j * 2, none⟩ = some (.int .u64 ((winAt s d' L K j).1 : Int)) := fun w' h => (HC3.out j hlt w' h).1
          have hCb1 : ∀ w', C w' → w'.cell? ⟨g3, j * 2 + 1, none⟩ = some (.int .u64 ((winAt s d' L K j).2 : Int)) := fun w' h => (HC3.out j hlt w' h).2
          have hCh := HCh.out ((winAt s d' L K j).1 : Int) ((winAt s d' L K j).2 : Int)
          have hCr := HCr.out ((winAt s d' L K j).1 : Int) ((winAt s d' L K j).2 : Int)
          generalize ((winAt s d' L K j).1 : Int) = x at *
          generalize ((winAt s d' L K j).2 : Int) = y at *
          generalize hasV x y t = h at *
          have HD := hide (HCd.out _ HW.out)
          go_wp2_with fail
          refine wp_region_class C (by kernel_rfl) (by kernel_rfl) HD.out ?_
          refine wpQuiet_step (fun K hK => ?_)
          go_simp
          first | (refine hK _ ?_; clear hK K) | (refine ⟨_, fun w' hw' => rfl, hK _ ?_⟩; clear hK K)
          refine wpQuiet_step (fun K hK => ?_)
          go_simp
          first | (refine hK _ ?_; clear hK K) | (refine ⟨_, fun w' hw' => rfl, hK _ ?_⟩; clear hK K)
          refine wpQuiet_step (fun K hK => ?_)
          go_simp
          first | (refine hK _ ?_; clear hK K) | (refine ⟨_, fun w' hw' => rfl, hK _ ?_⟩; clear hK K)
          refine wpQuiet_step (fun K hK => ?_)
          go_simp
          first | (refine hK _ ?_; clear hK K) | (refine ⟨_, fun w' hw' => rfl, hK _ ?_⟩; clear hK K)
          refine wpQuiet_step (fun K hK => ?_)
          go_simp
          refine ⟨.int .u64 x, fun w' hw' => ?_, hK _ ?_⟩
          · have hcell0 := hCa0 w' hw'
            go_simp
          clear hK K
          refine wpQuiet_step (fun K hK => ?_)
          go_simp
          first | (refine hK _ ?_; clear hK K) | (refine ⟨_, fun w' hw' => rfl, hK _ ?_⟩; clear hK K)
          refine wpQuiet_step (fun K hK => ?_)
          go_simp
          first | (refine hK _ ?_; clear hK K) | (refine ⟨_, fun w' hw' => rfl, hK _ ?_⟩; clear hK K)
          refine wpQuiet_step (fun K hK => ?_)
          go_simp
          first | (refine hK _ ?_; clear hK K) | (refine ⟨_, fun w' hw' => rfl, hK _ ?_⟩; clear hK K)
          refine wpQuiet_step (fun K hK => ?_)
          go_simp
          first | (refine hK _ ?_; clear hK K) | (refine ⟨_, fun w' hw' => rfl, hK _ ?_⟩; clear hK K)
          refine wpQuiet_step (fun K hK => ?_)
          go_simp
          refine ⟨.int .u64 x, fun w' hw' => ?_, hK _ ?_⟩
          · have hcell0 := hCb0 w' hw'
            go_simp
          clear hK K
          refine wpQuiet_step (fun K hK => ?_)
          go_simp
          first | (refine hK _ ?_; clear hK K) | (refine ⟨_, fun w' hw' => rfl, hK _ ?_⟩; clear hK K)
          refine wpQuiet_step (fun K hK => ?_)
          go_simp
          first | (refine hK _ ?_; clear hK K) | (refine ⟨_, fun w' hw' => rfl, hK _ ?_⟩; clear hK K)
          refine wpQuiet_step (fun K hK => ?_)
          go_simp
          first | (refine hK _ ?_; clear hK K) | (refine ⟨_, fun w' hw' => rfl, hK _ ?_⟩; clear hK K)
          refine wpQuiet_step (fun K hK => ?_)
          go_simp
          first | (refine hK _ ?_; clear hK K) | (refine ⟨_, fun w' hw' => rfl, hK _ ?_⟩; clear hK K)
          refine wpQuiet_step (fun K hK => ?_)
          go_simp
          first | (refine hK _ ?_; clear hK K) | (refine ⟨_, fun w' hw' => rfl, hK _ ?_⟩; clear hK K)
          refine wpQuiet_step (fun K hK => ?_)
          go_simp
          first | (refine hK _ ?_; clear hK K) | (refine ⟨_, fun w' hw' => rfl, hK _ ?_⟩; clear hK K)
          refine wpQuiet_step (fun K hK => ?_)
          go_simp
          refine ⟨.int .u64 y, fun w' hw' => ?_, hK _ ?_⟩
          · have hcell0 := hCa1 w' hw'
            go_simp
          clear hK K
          refine wpQuiet_step (fun K hK => ?_)
          go_simp
          first | (refine hK _ ?_; clear hK K) | (refine ⟨_, fun w' hw' => rfl, hK _ ?_⟩; clear hK K)
          refine wpQuiet_step (fun K hK => ?_)
          go_simp
          first | (refine hK _ ?_; clear hK K) | (refine ⟨_, fun w' hw' => rfl, hK _ ?_⟩; clear hK K)
          refine wpQuiet_step (fun K hK => ?_)
          go_simp
          first | (refine hK _ ?_; clear hK K) | (refine ⟨_, fun w' hw' => rfl, hK _ ?_⟩; clear hK K)
          refine wpQuiet_step (fun K hK => ?_)
          go_simp
          first | (refine hK _ ?_; clear hK K) | (refine ⟨_, fun w' hw' => rfl, hK _ ?_⟩; clear hK K)
          refine wpQuiet_step (fun K hK => ?_)
          go_simp
          refine ⟨.int .u64 y, fun w' hw' => ?_, hK _ ?_⟩
          · have hcell0 := hCb1 w' hw'
            go_simp
          clear hK K
          refine wpQuiet_step (fun K hK => ?_)
          go_simp
          first | (refine hK _ ?_; clear hK K) | (refine ⟨_, fun w' hw' => rfl, hK _ ?_⟩; clear hK K)
          refine wpQuiet_step (fun K hK => ?_)
          go_simp
          first | (refine hK _ ?_; clear hK K) | (refine ⟨_, fun w' hw' => rfl, hK _ ?_⟩; clear hK K)
          refine wpQuiet_step (fun K hK => ?_)
          go_simp
          first | (refine hK _ ?_; clear hK K) | (refine ⟨_, fun w' hw' => rfl, hK _ ?_⟩; clear hK K)
          refine wpQuiet_step (fun K hK => ?_)
          go_simp
          first | (refine hK _ ?_; clear hK K) | (refine ⟨_, fun w' hw' => rfl, hK _ ?_⟩; clear hK K)
          refine wpQuiet_step (fun K hK => ?_)
          go_simp
          first | (refine hK _ ?_; clear hK K) | (refine ⟨_, fun w' hw' => rfl, hK _ ?_⟩; clear hK K)
          refine wpQuiet_step (fun K hK => ?_)
          go_simp
          first | (refine hK _ ?_; clear hK K) | (refine ⟨_, fun w' hw' => rfl, hK _ ?_⟩; clear hK K)
          refine wpQuiet_step (fun K hK => ?_)
          go_simp
          refine ⟨.agg #[.int .u64 x, .int .u64 y], fun w' hw' => ?_, hK _ ?_⟩
          · have hcell0 := hCa0 w' hw'
            have hcell1 := hCa1 w' hw'
            go_simp
          clear hK K
          refine wpQuiet_step (fun K hK => ?_)
          go_simp
          first | (refine hK _ ?_; clear hK K) | (refine ⟨_, fun w' hw' => rfl, hK _ ?_⟩; clear hK K)
          refine wpQuiet_step (fun K hK => ?_)
          go_simp
          refine ⟨_, hCh, hK _ ?_⟩
          clear hK K
          refine wpQuiet_step (fun K hK => ?_)
          go_simp
          first | (refine hK _ ?_; clear hK K) | (refine ⟨_, fun w' hw' => rfl, hK _ ?_⟩; clear hK K)
          refine wpQuiet_step (fun K hK => ?_)
          go_simp
          first | (refine hK _ ?_; clear hK K) | (refine ⟨_, fun w' hw' => rfl, hK _ ?_⟩; clear hK K)
          refine wpQuiet_step (fun K hK => ?_)
          go_simp
          first | (refine hK _ ?_; clear hK K) | (refine ⟨_, fun w' hw' => rfl, hK _ ?_⟩; clear hK K)
          refine wpQuiet_step (fun K hK => ?_)
          go_simp
          refine ⟨.agg #[.int .u64 x, .int .u64 y], fun w' hw' => ?_, hK _ ?_⟩
          · have hcell0 := hCb0 w' hw'
            have hcell1 := hCb1 w' hw'
            go_simp
          clear hK K
          refine wpQuiet_step (fun K hK => ?_)
          go_simp
          first | (refine hK _ ?_; clear hK K) | (refine ⟨_, fun w' hw' => rfl, hK _ ?_⟩; clear hK K)
          refine wpQuiet_step (fun K hK => ?_)
          go_simp
          refine ⟨_, hCr, hK _ ?_⟩
          clear hK K
          refine wpQuiet_step (fun K hK => ?_)
          go_simp
          first | (refine hK _ ?_; clear hK K) | (refine ⟨_, fun w' hw' => rfl, hK _ ?_⟩; clear hK K)
          refine wpQuiet_step (fun K hK => ?_)
          go_simp
          first | (refine hK _ ?_; clear hK K) | (refine ⟨_, fun w' hw' => rfl, hK _ ?_⟩; clear hK K)
          refine wpQuiet_nil ?_
          intro w9 hw9
          go_wp2_with fail
          go_roundw
          case rel => exact ⟨j + 1, by omega, by go_num, hw9⟩
          case measure => simp [intOf]; omega
        · obtain rfl : j = m := by omega
          have hkk : ¬ ((j : Int) < (j : Int)) := by omega
          go_wp2_with fail
          go_ret
          exact ⟨rfl, HCE.out _ HW.out⟩
    · refine (win_over HA1.out h1 h5 hf).mono ?_
      rintro e w2 ⟨rfl, hb⟩
      have HB2 := hide (below_call HB1.out hb)
      have HA2 := hide (HA1.out.below hb)
      clear hb HB1 HA1
      go_wp2_with fail
      refine (rwin_over HA2.out h1 h5 hf).mono ?_
      rintro e w3 ⟨rfl, hb⟩
      have HB3 := hide (below_call HB2.out hb)
      have HA3 := hide (HA2.out.below hb)
      clear hb HB2 HA2
      go_wp2_with fail
      refine (late_any s A m c d' L K _ HA3.out.hs HA3.out.hL HA3.out.hK HA3.out.hd HA3.out.row).mono ?_
      rintro e w4 ⟨⟨v1, b1, rfl, hv1⟩, hb⟩
      have HB4 := hide (below_call HB3.out hb)
      have HA4 := hide (HA3.out.below hb)
      clear hb HB3 HA3
      go_wp2_with fail
      refine (rlate_any s A m c d' L K _ HA4.out.hs HA4.out.hL HA4.out.hK HA4.out.hd HA4.out.row).mono ?_
      rintro e w5 ⟨⟨v2, b2, rfl, hv2⟩, hb⟩
      obtain ⟨rfl, rfl⟩ := late_uniq hv1 hv2
      have HB5 := hide (below_call HB4.out hb)
      clear hb HB4 HA4 hv1 hv2
      go_wp2_with fail
      go_loopw [20] (fun i wr => i = .int .i64 0 ∧ wr = w5) (fun i _ => 0)
      case atStart => exact ⟨rfl, rfl⟩
      case round =>
        obtain ⟨rfl, rfl⟩ := hrel
        go_wp2_with fail
        go_ret
        exact ⟨rfl, HB5.out⟩
end Go.Proofs.Ytcnnekdeakfjeaa
