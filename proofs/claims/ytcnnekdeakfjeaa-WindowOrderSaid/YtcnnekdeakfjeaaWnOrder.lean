/-
  WindowOrder, walked.
-/
import Derived.Test.YtcnnekdeakfjeaaWn8
import Derived.Test.YtcnnekdeakfjeaaWnHas
import Derived.Test.YtcnnekdeakfjeaaQuietC
namespace Go.Proofs.Ytcnnekdeakfjeaa
set_option linter.unusedVariables false
open Go.RowKit

theorem nat_max (a b : Nat) : ∃ M : Nat, Hid ((M : Int) = if (b : Int) > (a : Int) then (b : Int) else (a : Int)) ∧ a ≤ M ∧ b ≤ M ∧ (M = a ∨ M = b) := by
  by_cases h : (b : Int) > (a : Int)
  · exact ⟨b, by rw [Hid, if_pos h], by omega, by omega, .inr rfl⟩
  · exact ⟨a, by rw [Hid, if_neg h], by omega, by omega, .inl rfl⟩
theorem win_wide (s : Nat) (d : List Nat) {L1 L2 K1 K2 : Nat} (hL : L1 ≤ L2) (hK : K1 ≤ K2) (i : Nat) : (winAt s d L2 K2 i).1 ≤ (winAt s d L1 K1 i).1 ∧ (winAt s d L1 K1 i).2 ≤ (winAt s d L2 K2 i).2 := by
  have h : (i + 1) * L1 ≤ (i + 1) * L2 := Nat.mul_le_mul_left _ hL
  show earl s d i - K2 ≤ earl s d i - K1 ∧ hiN s d L1 K1 i ≤ hiN s d L2 K2 i
  unfold hiN
  omega
theorem win_right (s : Nat) (d : List Nat) (L K i : Nat) : (winAt s d L K i).1 ≤ (winAt s d L K i).2 := by
  have := earl_le s d L K i
  show earl s d i - K ≤ hiN s d L K i
  omega
theorem win_rise (s : Nat) (d : List Nat) (L K i j : Nat) (h : i ≤ j) : (winAt s d L K i).1 ≤ (winAt s d L K j).1 ∧ (winAt s d L K i).2 ≤ (winAt s d L K j).2 := by
  have h1 := earl_mono s d i j h
  have h2 := hiN_mono s d L K i j h
  show earl s d i - K ≤ earl s d j - K ∧ hiN s d L K i ≤ hiN s d L K j
  omega
theorem has_zero {lo hi t : Int} (h : hasV lo hi t = 0) : lo ≤ t ∧ t ≤ hi := by
  unfold hasV at h
  split at h
  · omega
  · split at h <;> omega

set_option maxHeartbeats 8000000 in
set_option maxRecDepth 100000 in
theorem worder_walk (s : Nat) (A : Option Addr) (n c : Nat) (d : List Nat) (a b p q : Nat) (t : Int) (w : World) (hs : s < 18446744073709551616) (hA : Rds w A n (cellsI .u32 d)) (hd : ∀ x ∈ d, x < 4294967296) (hc : n ≤ c) (hcm : c ≤ 9223372036854775807) (ha : a < 18446744073709551616) (hb : b < 18446744073709551616) (hp : p < 18446744073709551616) (hq : q < 18446744073709551616) :
    Calls Try.prog 5 #[.int .u64 (s : Int), .slice A n c, .int .u64 (a : Int), .int .u64 (b : Int), .int .u64 (p : Int), .int .u64 (q : Int), .int .u64 t] w fun e w' => e = .returned (.bool true) ∧ Below w.heap.size w w' := by
  obtain ⟨m, HM, hm1, hm2, hme⟩ := nat_min n 5
  obtain ⟨Ln, HLn, hl1, hl2, hle⟩ := nat_min a b
  obtain ⟨Kn, HKn, hk1, hk2, hke⟩ := nat_min p q
  obtain ⟨Lw, HLw, hl3, hl4, hlw⟩ := nat_max a b
  obtain ⟨Kw, HKw, hk3, hk4, hkw⟩ := nat_max p q
  have hR := hA.take m hm1
  rw [cellsI_take] at hR
  have HA : Hid (Args w s A m (d.take m) Lw Kw) := ⟨hs, by omega, by omega, fun x hx => hd x (List.mem_of_mem_take hx), hR⟩
  have HN : Hid (Args w s A m (d.take m) Ln Kn) := ⟨hs, by omega, by omega, fun x hx => hd x (List.mem_of_mem_take hx), hR⟩
  generalize d.take m = d' at *
  have HWI := hide (fun i => win_wide s d' (L1 := Ln) (L2 := Lw) (K1 := Kn) (K2 := Kw) (by omega) (by omega) i)
  have HRI := hide (fun i => win_right s d' Lw Kw i)
  have HMO := hide (fun i j h => win_rise s d' Lw Kw i j h)
  have hmc : m ≤ c := by omega
  clear hs hA hd ha hb hp hq hR hc hcm hl1 hl2 hle hk1 hk2 hke hl3 hl4 hlw hk3 hk4 hkw hme
  generalize (a : Int) = a' at *
  generalize (b : Int) = b' at *
  generalize (p : Int) = p' at *
  generalize (q : Int) = q' at *
  go_enter Try.func5, Try.ntmps5
  go_wp2_with fail
  refine (shown_any w).mono ?_
  rintro e w1 ⟨rfl, hb1⟩
  have HB1 := hide hb1
  have HA1 := hide (HA.out.below hb1)
  have HN1 := hide (HN.out.below hb1)
  clear hb1 HA HN
  go_wp2_with (first
    | (refine wpl_min rfl (.tmp 24) (.const (.int .i64 5)) _ _ rfl _ (n : Int) 5 (m : Int) rfl rfl HM.out ?_)
    | (refine wplk_max (.tmp 30) (.tmp 31) _ _ rfl _ .u64 a' b' (Lw : Int) rfl rfl HLw.out rfl ?_)
    | (refine wplk_max (.tmp 33) (.tmp 34) _ _ rfl _ .u64 p' q' (Kw : Int) rfl rfl HKw.out rfl ?_)
    | (refine wpl_cutQ0 one_u32 rfl (.tmp 22) (.tmp 25) rfl A n c m (m : Int) rfl rfl rfl hmc ?_))
  by_cases h0 : m = 0
  · have HZ := hide h0
    clear h0
    refine (win_arg s A m c Lw Kw _ (.inl HZ.out)).mono ?_
    rintro e w2 ⟨rfl, hb⟩
    have HB2 := hide (below_call HB1.out hb)
    clear hb HB1 HN1 HA1
    go_wp2_with (first
      | (refine wplk_min (.tmp 42) (.tmp 43) _ _ rfl _ .u64 a' b' (Ln : Int) rfl rfl HLn.out rfl ?_)
      | (refine wplk_min (.tmp 45) (.tmp 46) _ _ rfl _ .u64 p' q' (Kn : Int) rfl rfl HKn.out rfl ?_))
    refine (win_arg s A m c Ln Kn _ (.inl HZ.out)).mono ?_
    rintro e w3 ⟨rfl, hb⟩
    have HB3 := hide (below_call HB2.out hb)
    clear hb HB2
    go_wp2_with fail
    go_ret
    exact ⟨rfl, HB3.out⟩
  · have h1 : 1 ≤ m := by omega
    have h5 : m ≤ 5 := hm2
    clear h0
    by_cases hf : FitTo s d' Lw Kw m
    · have hfn : FitTo s d' Ln Kn m := fun i hi => Nat.lt_of_le_of_lt (HWI.out i).2 (hf i hi)
      refine (win_ok HA1.out h1 h5 hf).mono ?_
      rintro e w2 ⟨A2, c2, rfl, ho2, hb⟩
      have HB2 := hide (below_call HB1.out hb)
      have HN2 := hide (HN1.out.below hb)
      have HO2 := hide ho2
      clear hb HB1 HN1 HA1 ho2
      go_wp2_with (first
        | (refine wplk_min (.tmp 42) (.tmp 43) _ _ rfl _ .u64 a' b' (Ln : Int) rfl rfl HLn.out rfl ?_)
        | (refine wplk_min (.tmp 45) (.tmp 46) _ _ rfl _ .u64 p' q' (Kn : Int) rfl rfl HKn.out rfl ?_))
      refine (win_ok HN2.out h1 h5 hfn).mono ?_
      rintro e w3 ⟨A3, c3, rfl, ho3, hb⟩
      have HB3 := hide (below_call HB2.out hb)
      have HO3 := hide (HO2.out.call hb)
      have HP3 := hide ho3
      clear hb HB2 HN2 HO2 ho3 hf hfn
      obtain ⟨g2, rfl, hg2, hl2, hc2⟩ := cells_of HO3.out (by omega)
      obtain ⟨g3, rfl, hg3, hl3, hc3⟩ := cells_of HP3.out (by omega)
      obtain ⟨C, hC⟩ : ∃ C : World → Prop, C = fun w' => Below w3.heap.size w3 w' := ⟨_, rfl⟩
      have hC0 : Hid (C w3) := by rw [hC]; exact Below.refl _ _
      have HCd : Hid (∀ w', C w' → C w'.drew) := by rw [hC]; exact fun w' h => below_drewN h 1
      have HCh : Hid (∀ a b : Int, ∀ w', C w' → Calls Try.prog 14 #[.agg #[.int .u64 a, .int .u64 b], .int .u64 t] w' (fun e w'' => e = .returned (.int .i64 (hasV a b t)) ∧ C w'')) := by
        rw [hC]
        exact fun a b w' h => (has_any a b t w').mono fun e w'' k => ⟨k.1, below_call h k.2⟩
      have HC2 : Hid (∀ j, j < m → ∀ w', C w' → w'.cell? ⟨g2, j * 2, none⟩ = some (.int .u64 ((winAt s d' Lw Kw j).1 : Int)) ∧ w'.cell? ⟨g2, j * 2 + 1, none⟩ = some (.int .u64 ((winAt s d' Lw Kw j).2 : Int))) := by
        rw [hC]
        exact fun j hj w' h => ⟨by rw [Below.cell h hl2]; exact (hc2 j hj).1, by rw [Below.cell h hl2]; exact (hc2 j hj).2⟩
      have HC3 : Hid (∀ j, j < m → ∀ w', C w' → w'.cell? ⟨g3, j * 2, none⟩ = some (.int .u64 ((winAt s d' Ln Kn j).1 : Int)) ∧ w'.cell? ⟨g3, j * 2 + 1, none⟩ = some (.int .u64 ((winAt s d' Ln Kn j).2 : Int))) := by
        rw [hC]
        exact fun j hj w' h => ⟨by rw [Below.cell h hl3]; exact (hc3 j hj).1, by rw [Below.cell h hl3]; exact (hc3 j hj).2⟩
      have HCE : Hid (∀ w', C w' → Below w.heap.size w w') := by rw [hC]; exact fun w' h => below_call HB3.out h
      clear hC hc2 hc3 hg2 hg3 hl2 hl3 HO3 HP3 HB3
      go_wp2_with fail
      go_loopw [20] (fun i wr => ∃ (j : Nat), j ≤ m ∧ i = .int .i64 j ∧ C wr) (fun i _ => m - (intOf i).toNat)
      case atStart => exact ⟨0, by omega, rfl, hC0.out⟩
      case round =>
        obtain ⟨j, hj, rfl, hw⟩ := hrel
        have HD := hide (HCd.out _ hw)
        by_cases hlt : j < m
        · clear hw
          have hji : (j : Int) < (m : Int) := by omega
          have hCa0 : ∀ w', C w' → w'.cell? ⟨g2, j * 2, none⟩ = some (.int .u64 ((winAt s d' Lw Kw j).1 : Int)) := fun w' h => (HC2.out j hlt w' h).1
          have hCa1 : ∀ w', C w' → w'.cell? ⟨g2, j * 2 + 1, none⟩ = some (.int .u64 ((winAt s d' Lw Kw j).2 : Int)) := fun w' h => (HC2.out j hlt w' h).2
          have hCb0 : ∀ w', C w' → w'.cell? ⟨g3, j * 2, none⟩ = some (.int .u64 ((winAt s d' Ln Kn j).1 : Int)) := fun w' h => (HC3.out j hlt w' h).1
          have hCb1 : ∀ w', C w' → w'.cell? ⟨g3, j * 2 + 1, none⟩ = some (.int .u64 ((winAt s d' Ln Kn j).2 : Int)) := fun w' h => (HC3.out j hlt w' h).2
          have hCw := HCh.out ((winAt s d' Lw Kw j).1 : Int) ((winAt s d' Lw Kw j).2 : Int)
          have hCn := HCh.out ((winAt s d' Ln Kn j).1 : Int) ((winAt s d' Ln Kn j).2 : Int)
          have hxy : ¬ (((winAt s d' Lw Kw j).2 : Int) < ((winAt s d' Lw Kw j).1 : Int)) := by have := HRI.out j; omega
          have hin : hasV ((winAt s d' Ln Kn j).1 : Int) ((winAt s d' Ln Kn j).2 : Int) t = 0 → hasV ((winAt s d' Lw Kw j).1 : Int) ((winAt s d' Lw Kw j).2 : Int) t = 0 := fun h => by
            have h2 := has_zero h
            have h3 := HWI.out j
            exact has_in (by omega) (by omega)
          obtain ⟨x, hx⟩ : ∃ x, x = ((winAt s d' Lw Kw j).1 : Int) := ⟨_, rfl⟩
          obtain ⟨y, hy⟩ : ∃ y, y = ((winAt s d' Lw Kw j).2 : Int) := ⟨_, rfl⟩
          rw [← hx] at hCa0 hCw hxy hin
          rw [← hy] at hCa1 hCw hxy hin
          have HXE := hide hx
          have HYE := hide hy
          clear hx hy
          generalize ((winAt s d' Ln Kn j).1 : Int) = u at *
          generalize ((winAt s d' Ln Kn j).2 : Int) = v at *
          generalize hasV u v t = P at *
          generalize hasV x y t = Q at *
          by_cases hP : P = 0
          · have hQ := hin hP
            subst hP
            subst hQ
            clear hin
            by_cases h0 : 0 < j
            · obtain ⟨k, hk⟩ : ∃ k : Nat, j = k + 1 := ⟨j - 1, by omega⟩
              have hjk : IntKind.i64.wrap ((j : Int) - 1) = (k : Int) := by rw [IntKind.wrap_i64]; omega
              have hj0 : decide (0 < j) = true := decide_eq_true h0
              have hkm : (k : Int) < (m : Int) := by omega
              have hk2 : k < m := by omega
              have hCp0 : ∀ w', C w' → w'.cell? ⟨g2, k * 2, none⟩ = some (.int .u64 ((winAt s d' Lw Kw k).1 : Int)) := fun w' h => (HC2.out k hk2 w' h).1
              have hCp1 : ∀ w', C w' → w'.cell? ⟨g2, k * 2 + 1, none⟩ = some (.int .u64 ((winAt s d' Lw Kw k).2 : Int)) := fun w' h => (HC2.out k hk2 w' h).2
              have hp0 : ¬ (x < ((winAt s d' Lw Kw k).1 : Int)) := by have := HMO.out k j (by omega); have := HXE.out; have := HYE.out; omega
              have hp1 : ¬ (y < ((winAt s d' Lw Kw k).2 : Int)) := by have := HMO.out k j (by omega); have := HXE.out; have := HYE.out; omega
              generalize ((winAt s d' Lw Kw k).1 : Int) = x' at *
              generalize ((winAt s d' Lw Kw k).2 : Int) = y' at *
              clear h0 hk
              go_wp2_with fail
              refine wp_region_class C (by kernel_rfl) (by kernel_rfl) HD.out ?_
              with_reducible refine wpQuiet_step ?_
              intro K hK
              go_simp
              first | (refine hK _ ?_; clear hK K) | (refine ⟨_, fun w' hw' => rfl, hK _ ?_⟩; clear hK K)
              with_reducible refine wpQuiet_step ?_
              intro K hK
              go_simp
              first | (refine hK _ ?_; clear hK K) | (refine ⟨_, fun w' hw' => rfl, hK _ ?_⟩; clear hK K)
              with_reducible refine wpQuiet_step ?_
              intro K hK
              go_simp
              first | (refine hK _ ?_; clear hK K) | (refine ⟨_, fun w' hw' => rfl, hK _ ?_⟩; clear hK K)
              with_reducible refine wpQuiet_step ?_
              intro K hK
              go_simp
              refine ⟨.agg #[.int .u64 u, .int .u64 v], fun w' hw' => ?_, hK _ ?_⟩
              · have hcell0 := hCb0 w' hw'
                have hcell1 := hCb1 w' hw'
                go_simp
              clear hK K
              with_reducible refine wpQuiet_step ?_
              intro K hK
              go_simp
              first | (refine hK _ ?_; clear hK K) | (refine ⟨_, fun w' hw' => rfl, hK _ ?_⟩; clear hK K)
              with_reducible refine wpQuiet_step ?_
              intro K hK
              go_simp
              refine ⟨_, hCn, hK _ ?_⟩
              clear hK K
              with_reducible refine wpQuiet_step ?_
              intro K hK
              go_simp
              first | (refine hK _ ?_; clear hK K) | (refine ⟨_, fun w' hw' => rfl, hK _ ?_⟩; clear hK K)
              with_reducible refine wpQuiet_step ?_
              intro K hK
              go_simp
              first | (refine hK _ ?_; clear hK K) | (refine ⟨_, fun w' hw' => rfl, hK _ ?_⟩; clear hK K)
              with_reducible refine wpQuiet_step ?_
              intro K hK
              go_simp
              first | (refine hK _ ?_; clear hK K) | (refine ⟨_, fun w' hw' => rfl, hK _ ?_⟩; clear hK K)
              with_reducible refine wpQuiet_step ?_
              intro K hK
              go_simp
              first | (refine hK _ ?_; clear hK K) | (refine ⟨_, fun w' hw' => rfl, hK _ ?_⟩; clear hK K)
              with_reducible refine wpQuiet_step ?_
              intro K hK
              go_simp
              first | (refine hK _ ?_; clear hK K) | (refine ⟨_, fun w' hw' => rfl, hK _ ?_⟩; clear hK K)
              with_reducible refine wpQuiet_step ?_
              intro K hK
              go_simp
              refine ⟨.agg #[.int .u64 x, .int .u64 y], fun w' hw' => ?_, hK _ ?_⟩
              · have hcell0 := hCa0 w' hw'
                have hcell1 := hCa1 w' hw'
                go_simp
              clear hK K
              with_reducible refine wpQuiet_step ?_
              intro K hK
              go_simp
              first | (refine hK _ ?_; clear hK K) | (refine ⟨_, fun w' hw' => rfl, hK _ ?_⟩; clear hK K)
              with_reducible refine wpQuiet_step ?_
              intro K hK
              go_simp
              refine ⟨_, hCw, hK _ ?_⟩
              clear hK K
              with_reducible refine wpQuiet_step ?_
              intro K hK
              go_simp
              first | (refine hK _ ?_; clear hK K) | (refine ⟨_, fun w' hw' => rfl, hK _ ?_⟩; clear hK K)
              with_reducible refine wpQuiet_step ?_
              intro K hK
              go_simp
              first | (refine hK _ ?_; clear hK K) | (refine ⟨_, fun w' hw' => rfl, hK _ ?_⟩; clear hK K)
              with_reducible refine wpQuiet_step ?_
              intro K hK
              go_simp
              first | (refine hK _ ?_; clear hK K) | (refine ⟨_, fun w' hw' => rfl, hK _ ?_⟩; clear hK K)
              with_reducible refine wpQuiet_step ?_
              intro K hK
              go_simp
              first | (refine hK _ ?_; clear hK K) | (refine ⟨_, fun w' hw' => rfl, hK _ ?_⟩; clear hK K)
              with_reducible refine wpQuiet_step ?_
              intro K hK
              go_simp
              first | (refine hK _ ?_; clear hK K) | (refine ⟨_, fun w' hw' => rfl, hK _ ?_⟩; clear hK K)
              with_reducible refine wpQuiet_step ?_
              intro K hK
              go_simp
              first | (refine hK _ ?_; clear hK K) | (refine ⟨_, fun w' hw' => rfl, hK _ ?_⟩; clear hK K)
              with_reducible refine wpQuiet_step ?_
              intro K hK
              go_simp
              first | (refine hK _ ?_; clear hK K) | (refine ⟨_, fun w' hw' => rfl, hK _ ?_⟩; clear hK K)
              with_reducible refine wpQuiet_step ?_
              intro K hK
              go_simp
              refine ⟨.int .u64 x, fun w' hw' => ?_, hK _ ?_⟩
              · have hcell0 := hCa0 w' hw'
                go_simp
              clear hK K
              with_reducible refine wpQuiet_step ?_
              intro K hK
              go_simp
              first | (refine hK _ ?_; clear hK K) | (refine ⟨_, fun w' hw' => rfl, hK _ ?_⟩; clear hK K)
              with_reducible refine wpQuiet_step ?_
              intro K hK
              go_simp
              first | (refine hK _ ?_; clear hK K) | (refine ⟨_, fun w' hw' => rfl, hK _ ?_⟩; clear hK K)
              with_reducible refine wpQuiet_step ?_
              intro K hK
              go_simp
              first | (refine hK _ ?_; clear hK K) | (refine ⟨_, fun w' hw' => rfl, hK _ ?_⟩; clear hK K)
              with_reducible refine wpQuiet_step ?_
              intro K hK
              go_simp
              first | (refine hK _ ?_; clear hK K) | (refine ⟨_, fun w' hw' => rfl, hK _ ?_⟩; clear hK K)
              with_reducible refine wpQuiet_step ?_
              intro K hK
              go_simp
              refine ⟨.int .u64 y, fun w' hw' => ?_, hK _ ?_⟩
              · have hcell0 := hCa1 w' hw'
                go_simp
              clear hK K
              with_reducible refine wpQuiet_step ?_
              intro K hK
              go_simp
              first | (refine hK _ ?_; clear hK K) | (refine ⟨_, fun w' hw' => rfl, hK _ ?_⟩; clear hK K)
              with_reducible refine wpQuiet_step ?_
              intro K hK
              go_simp
              first | (refine hK _ ?_; clear hK K) | (refine ⟨_, fun w' hw' => rfl, hK _ ?_⟩; clear hK K)
              with_reducible refine wpQuiet_step ?_
              intro K hK
              go_simp
              first | (refine hK _ ?_; clear hK K) | (refine ⟨_, fun w' hw' => rfl, hK _ ?_⟩; clear hK K)
              with_reducible refine wpQuiet_step ?_
              intro K hK
              go_simp
              first | (refine hK _ ?_; clear hK K) | (refine ⟨_, fun w' hw' => rfl, hK _ ?_⟩; clear hK K)
              with_reducible refine wpQuiet_step ?_
              intro K hK
              go_simp
              first | (refine hK _ ?_; clear hK K) | (refine ⟨_, fun w' hw' => rfl, hK _ ?_⟩; clear hK K)
              with_reducible refine wpQuiet_step ?_
              intro K hK
              go_simp
              first | (refine hK _ ?_; clear hK K) | (refine ⟨_, fun w' hw' => rfl, hK _ ?_⟩; clear hK K)
              with_reducible refine wpQuiet_step ?_
              intro K hK
              go_simp
              first | (refine hK _ ?_; clear hK K) | (refine ⟨_, fun w' hw' => rfl, hK _ ?_⟩; clear hK K)
              with_reducible refine wpQuiet_step ?_
              intro K hK
              go_simp
              first | (refine hK _ ?_; clear hK K) | (refine ⟨_, fun w' hw' => rfl, hK _ ?_⟩; clear hK K)
              with_reducible refine wpQuiet_step ?_
              intro K hK
              go_simp
              first | (refine hK _ ?_; clear hK K) | (refine ⟨_, fun w' hw' => rfl, hK _ ?_⟩; clear hK K)
              with_reducible refine wpQuiet_step ?_
              intro K hK
              go_simp
              first | (refine hK _ ?_; clear hK K) | (refine ⟨_, fun w' hw' => rfl, hK _ ?_⟩; clear hK K)
              with_reducible refine wpQuiet_step ?_
              intro K hK
              go_simp
              refine ⟨.int .u64 x, fun w' hw' => ?_, hK _ ?_⟩
              · have hcell0 := hCa0 w' hw'
                go_simp
              clear hK K
              with_reducible refine wpQuiet_step ?_
              intro K hK
              go_simp
              first | (refine hK _ ?_; clear hK K) | (refine ⟨_, fun w' hw' => rfl, hK _ ?_⟩; clear hK K)
              with_reducible refine wpQuiet_step ?_
              intro K hK
              go_simp
              first | (refine hK _ ?_; clear hK K) | (refine ⟨_, fun w' hw' => rfl, hK _ ?_⟩; clear hK K)
              with_reducible refine wpQuiet_step ?_
              intro K hK
              go_simp
              first | (refine hK _ ?_; clear hK K) | (refine ⟨_, fun w' hw' => rfl, hK _ ?_⟩; clear hK K)
              with_reducible refine wpQuiet_step ?_
              intro K hK
              go_simp
              first | (refine hK _ ?_; clear hK K) | (refine ⟨_, fun w' hw' => rfl, hK _ ?_⟩; clear hK K)
              with_reducible refine wpQuiet_step ?_
              intro K hK
              go_simp
              first | (refine hK _ ?_; clear hK K) | (refine ⟨_, fun w' hw' => rfl, hK _ ?_⟩; clear hK K)
              with_reducible refine wpQuiet_step ?_
              intro K hK
              go_simp
              refine ⟨.int .u64 x', fun w' hw' => ?_, hK _ ?_⟩
              · have hcell0 := hCp0 w' hw'
                go_simp
              clear hK K
              with_reducible refine wpQuiet_step ?_
              intro K hK
              go_simp
              first | (refine hK _ ?_; clear hK K) | (refine ⟨_, fun w' hw' => rfl, hK _ ?_⟩; clear hK K)
              with_reducible refine wpQuiet_step ?_
              intro K hK
              go_simp
              first | (refine hK _ ?_; clear hK K) | (refine ⟨_, fun w' hw' => rfl, hK _ ?_⟩; clear hK K)
              with_reducible refine wpQuiet_step ?_
              intro K hK
              go_simp
              first | (refine hK _ ?_; clear hK K) | (refine ⟨_, fun w' hw' => rfl, hK _ ?_⟩; clear hK K)
              with_reducible refine wpQuiet_step ?_
              intro K hK
              go_simp
              first | (refine hK _ ?_; clear hK K) | (refine ⟨_, fun w' hw' => rfl, hK _ ?_⟩; clear hK K)
              with_reducible refine wpQuiet_step ?_
              intro K hK
              go_simp
              first | (refine hK _ ?_; clear hK K) | (refine ⟨_, fun w' hw' => rfl, hK _ ?_⟩; clear hK K)
              with_reducible refine wpQuiet_step ?_
              intro K hK
              go_simp
              first | (refine hK _ ?_; clear hK K) | (refine ⟨_, fun w' hw' => rfl, hK _ ?_⟩; clear hK K)
              with_reducible refine wpQuiet_step ?_
              intro K hK
              go_simp
              refine ⟨.int .u64 y, fun w' hw' => ?_, hK _ ?_⟩
              · have hcell0 := hCa1 w' hw'
                go_simp
              clear hK K
              with_reducible refine wpQuiet_step ?_
              intro K hK
              go_simp
              first | (refine hK _ ?_; clear hK K) | (refine ⟨_, fun w' hw' => rfl, hK _ ?_⟩; clear hK K)
              with_reducible refine wpQuiet_step ?_
              intro K hK
              go_simp
              first | (refine hK _ ?_; clear hK K) | (refine ⟨_, fun w' hw' => rfl, hK _ ?_⟩; clear hK K)
              with_reducible refine wpQuiet_step ?_
              intro K hK
              go_simp
              first | (refine hK _ ?_; clear hK K) | (refine ⟨_, fun w' hw' => rfl, hK _ ?_⟩; clear hK K)
              with_reducible refine wpQuiet_step ?_
              intro K hK
              go_simp
              first | (refine hK _ ?_; clear hK K) | (refine ⟨_, fun w' hw' => rfl, hK _ ?_⟩; clear hK K)
              with_reducible refine wpQuiet_step ?_
              intro K hK
              go_simp
              first | (refine hK _ ?_; clear hK K) | (refine ⟨_, fun w' hw' => rfl, hK _ ?_⟩; clear hK K)
              with_reducible refine wpQuiet_step ?_
              intro K hK
              go_simp
              refine ⟨.int .u64 y', fun w' hw' => ?_, hK _ ?_⟩
              · have hcell0 := hCp1 w' hw'
                go_simp
              clear hK K
              with_reducible refine wpQuiet_step ?_
              intro K hK
              go_simp
              first | (refine hK _ ?_; clear hK K) | (refine ⟨_, fun w' hw' => rfl, hK _ ?_⟩; clear hK K)
              with_reducible refine wpQuiet_step ?_
              intro K hK
              go_simp
              first | (refine hK _ ?_; clear hK K) | (refine ⟨_, fun w' hw' => rfl, hK _ ?_⟩; clear hK K)
              with_reducible refine wpQuiet_step ?_
              intro K hK
              go_simp
              first | (refine hK _ ?_; clear hK K) | (refine ⟨_, fun w' hw' => rfl, hK _ ?_⟩; clear hK K)
              with_reducible refine wpQuiet_step ?_
              intro K hK
              go_simp
              first | (refine hK _ ?_; clear hK K) | (refine ⟨_, fun w' hw' => rfl, hK _ ?_⟩; clear hK K)
              refine wpQuiet_nil ?_
              intro w9 hw9
              go_wp2_with fail
              go_roundw
              case rel => exact ⟨j + 1, by omega, by go_num, hw9⟩
              case measure => simp [intOf]; omega
            · obtain rfl : j = 0 := by omega
              clear h0 hji
              have hji : (0 : Int) < (m : Int) := by omega
              replace hCa0 : ∀ w', C w' → w'.cell? ⟨g2, 0, none⟩ = some (.int .u64 x) := hCa0
              replace hCa1 : ∀ w', C w' → w'.cell? ⟨g2, 1, none⟩ = some (.int .u64 y) := hCa1
              replace hCb0 : ∀ w', C w' → w'.cell? ⟨g3, 0, none⟩ = some (.int .u64 u) := hCb0
              replace hCb1 : ∀ w', C w' → w'.cell? ⟨g3, 1, none⟩ = some (.int .u64 v) := hCb1
              go_wp2_with fail
              refine wp_region_class C (by kernel_rfl) (by kernel_rfl) HD.out ?_
              with_reducible refine wpQuiet_step ?_
              intro K hK
              go_simp
              first | (refine hK _ ?_; clear hK K) | (refine ⟨_, fun w' hw' => rfl, hK _ ?_⟩; clear hK K)
              with_reducible refine wpQuiet_step ?_
              intro K hK
              go_simp
              first | (refine hK _ ?_; clear hK K) | (refine ⟨_, fun w' hw' => rfl, hK _ ?_⟩; clear hK K)
              with_reducible refine wpQuiet_step ?_
              intro K hK
              go_simp
              first | (refine hK _ ?_; clear hK K) | (refine ⟨_, fun w' hw' => rfl, hK _ ?_⟩; clear hK K)
              with_reducible refine wpQuiet_step ?_
              intro K hK
              go_simp
              refine ⟨.agg #[.int .u64 u, .int .u64 v], fun w' hw' => ?_, hK _ ?_⟩
              · have hcell0 := hCb0 w' hw'
                have hcell1 := hCb1 w' hw'
                go_simp
              clear hK K
              with_reducible refine wpQuiet_step ?_
              intro K hK
              go_simp
              first | (refine hK _ ?_; clear hK K) | (refine ⟨_, fun w' hw' => rfl, hK _ ?_⟩; clear hK K)
              with_reducible refine wpQuiet_step ?_
              intro K hK
              go_simp
              refine ⟨_, hCn, hK _ ?_⟩
              clear hK K
              with_reducible refine wpQuiet_step ?_
              intro K hK
              go_simp
              first | (refine hK _ ?_; clear hK K) | (refine ⟨_, fun w' hw' => rfl, hK _ ?_⟩; clear hK K)
              with_reducible refine wpQuiet_step ?_
              intro K hK
              go_simp
              first | (refine hK _ ?_; clear hK K) | (refine ⟨_, fun w' hw' => rfl, hK _ ?_⟩; clear hK K)
              with_reducible refine wpQuiet_step ?_
              intro K hK
              go_simp
              first | (refine hK _ ?_; clear hK K) | (refine ⟨_, fun w' hw' => rfl, hK _ ?_⟩; clear hK K)
              with_reducible refine wpQuiet_step ?_
              intro K hK
              go_simp
              first | (refine hK _ ?_; clear hK K) | (refine ⟨_, fun w' hw' => rfl, hK _ ?_⟩; clear hK K)
              with_reducible refine wpQuiet_step ?_
              intro K hK
              go_simp
              first | (refine hK _ ?_; clear hK K) | (refine ⟨_, fun w' hw' => rfl, hK _ ?_⟩; clear hK K)
              with_reducible refine wpQuiet_step ?_
              intro K hK
              go_simp
              refine ⟨.agg #[.int .u64 x, .int .u64 y], fun w' hw' => ?_, hK _ ?_⟩
              · have hcell0 := hCa0 w' hw'
                have hcell1 := hCa1 w' hw'
                go_simp
              clear hK K
              with_reducible refine wpQuiet_step ?_
              intro K hK
              go_simp
              first | (refine hK _ ?_; clear hK K) | (refine ⟨_, fun w' hw' => rfl, hK _ ?_⟩; clear hK K)
              with_reducible refine wpQuiet_step ?_
              intro K hK
              go_simp
              refine ⟨_, hCw, hK _ ?_⟩
              clear hK K
              with_reducible refine wpQuiet_step ?_
              intro K hK
              go_simp
              first | (refine hK _ ?_; clear hK K) | (refine ⟨_, fun w' hw' => rfl, hK _ ?_⟩; clear hK K)
              with_reducible refine wpQuiet_step ?_
              intro K hK
              go_simp
              first | (refine hK _ ?_; clear hK K) | (refine ⟨_, fun w' hw' => rfl, hK _ ?_⟩; clear hK K)
              with_reducible refine wpQuiet_step ?_
              intro K hK
              go_simp
              first | (refine hK _ ?_; clear hK K) | (refine ⟨_, fun w' hw' => rfl, hK _ ?_⟩; clear hK K)
              with_reducible refine wpQuiet_step ?_
              intro K hK
              go_simp
              first | (refine hK _ ?_; clear hK K) | (refine ⟨_, fun w' hw' => rfl, hK _ ?_⟩; clear hK K)
              with_reducible refine wpQuiet_step ?_
              intro K hK
              go_simp
              first | (refine hK _ ?_; clear hK K) | (refine ⟨_, fun w' hw' => rfl, hK _ ?_⟩; clear hK K)
              with_reducible refine wpQuiet_step ?_
              intro K hK
              go_simp
              first | (refine hK _ ?_; clear hK K) | (refine ⟨_, fun w' hw' => rfl, hK _ ?_⟩; clear hK K)
              with_reducible refine wpQuiet_step ?_
              intro K hK
              go_simp
              first | (refine hK _ ?_; clear hK K) | (refine ⟨_, fun w' hw' => rfl, hK _ ?_⟩; clear hK K)
              with_reducible refine wpQuiet_step ?_
              intro K hK
              go_simp
              refine ⟨.int .u64 x, fun w' hw' => ?_, hK _ ?_⟩
              · have hcell0 := hCa0 w' hw'
                go_simp
              clear hK K
              with_reducible refine wpQuiet_step ?_
              intro K hK
              go_simp
              first | (refine hK _ ?_; clear hK K) | (refine ⟨_, fun w' hw' => rfl, hK _ ?_⟩; clear hK K)
              with_reducible refine wpQuiet_step ?_
              intro K hK
              go_simp
              first | (refine hK _ ?_; clear hK K) | (refine ⟨_, fun w' hw' => rfl, hK _ ?_⟩; clear hK K)
              with_reducible refine wpQuiet_step ?_
              intro K hK
              go_simp
              first | (refine hK _ ?_; clear hK K) | (refine ⟨_, fun w' hw' => rfl, hK _ ?_⟩; clear hK K)
              with_reducible refine wpQuiet_step ?_
              intro K hK
              go_simp
              first | (refine hK _ ?_; clear hK K) | (refine ⟨_, fun w' hw' => rfl, hK _ ?_⟩; clear hK K)
              with_reducible refine wpQuiet_step ?_
              intro K hK
              go_simp
              refine ⟨.int .u64 y, fun w' hw' => ?_, hK _ ?_⟩
              · have hcell0 := hCa1 w' hw'
                go_simp
              clear hK K
              with_reducible refine wpQuiet_step ?_
              intro K hK
              go_simp
              first | (refine hK _ ?_; clear hK K) | (refine ⟨_, fun w' hw' => rfl, hK _ ?_⟩; clear hK K)
              with_reducible refine wpQuiet_step ?_
              intro K hK
              go_simp
              first | (refine hK _ ?_; clear hK K) | (refine ⟨_, fun w' hw' => rfl, hK _ ?_⟩; clear hK K)
              with_reducible refine wpQuiet_step ?_
              intro K hK
              go_simp
              first | (refine hK _ ?_; clear hK K) | (refine ⟨_, fun w' hw' => rfl, hK _ ?_⟩; clear hK K)
              with_reducible refine wpQuiet_step ?_
              intro K hK
              go_simp
              first | (refine hK _ ?_; clear hK K) | (refine ⟨_, fun w' hw' => rfl, hK _ ?_⟩; clear hK K)
              with_reducible refine wpQuiet_step ?_
              intro K hK
              go_simp
              first | (refine hK _ ?_; clear hK K) | (refine ⟨_, fun w' hw' => rfl, hK _ ?_⟩; clear hK K)
              with_reducible refine wpQuiet_step ?_
              intro K hK
              go_simp
              first | (refine hK _ ?_; clear hK K) | (refine ⟨_, fun w' hw' => rfl, hK _ ?_⟩; clear hK K)
              with_reducible refine wpQuiet_step ?_
              intro K hK
              go_simp
              first | (refine hK _ ?_; clear hK K) | (refine ⟨_, fun w' hw' => rfl, hK _ ?_⟩; clear hK K)
              with_reducible refine wpQuiet_step ?_
              intro K hK
              go_simp
              first | (refine hK _ ?_; clear hK K) | (refine ⟨_, fun w' hw' => rfl, hK _ ?_⟩; clear hK K)
              with_reducible refine wpQuiet_step ?_
              intro K hK
              go_simp
              first | (refine hK _ ?_; clear hK K) | (refine ⟨_, fun w' hw' => rfl, hK _ ?_⟩; clear hK K)
              with_reducible refine wpQuiet_step ?_
              intro K hK
              go_simp
              first | (refine hK _ ?_; clear hK K) | (refine ⟨_, fun w' hw' => rfl, hK _ ?_⟩; clear hK K)
              with_reducible refine wpQuiet_step ?_
              intro K hK
              go_simp
              first | (refine hK _ ?_; clear hK K) | (refine ⟨_, fun w' hw' => rfl, hK _ ?_⟩; clear hK K)
              with_reducible refine wpQuiet_step ?_
              intro K hK
              go_simp
              first | (refine hK _ ?_; clear hK K) | (refine ⟨_, fun w' hw' => rfl, hK _ ?_⟩; clear hK K)
              with_reducible refine wpQuiet_step ?_
              intro K hK
              go_simp
              first | (refine hK _ ?_; clear hK K) | (refine ⟨_, fun w' hw' => rfl, hK _ ?_⟩; clear hK K)
              with_reducible refine wpQuiet_step ?_
              intro K hK
              go_simp
              first | (refine hK _ ?_; clear hK K) | (refine ⟨_, fun w' hw' => rfl, hK _ ?_⟩; clear hK K)
              with_reducible refine wpQuiet_step ?_
              intro K hK
              go_simp
              first | (refine hK _ ?_; clear hK K) | (refine ⟨_, fun w' hw' => rfl, hK _ ?_⟩; clear hK K)
              with_reducible refine wpQuiet_step ?_
              intro K hK
              go_simp
              first | (refine hK _ ?_; clear hK K) | (refine ⟨_, fun w' hw' => rfl, hK _ ?_⟩; clear hK K)
              with_reducible refine wpQuiet_step ?_
              intro K hK
              go_simp
              first | (refine hK _ ?_; clear hK K) | (refine ⟨_, fun w' hw' => rfl, hK _ ?_⟩; clear hK K)
              with_reducible refine wpQuiet_step ?_
              intro K hK
              go_simp
              first | (refine hK _ ?_; clear hK K) | (refine ⟨_, fun w' hw' => rfl, hK _ ?_⟩; clear hK K)
              with_reducible refine wpQuiet_step ?_
              intro K hK
              go_simp
              first | (refine hK _ ?_; clear hK K) | (refine ⟨_, fun w' hw' => rfl, hK _ ?_⟩; clear hK K)
              with_reducible refine wpQuiet_step ?_
              intro K hK
              go_simp
              first | (refine hK _ ?_; clear hK K) | (refine ⟨_, fun w' hw' => rfl, hK _ ?_⟩; clear hK K)
              with_reducible refine wpQuiet_step ?_
              intro K hK
              go_simp
              first | (refine hK _ ?_; clear hK K) | (refine ⟨_, fun w' hw' => rfl, hK _ ?_⟩; clear hK K)
              with_reducible refine wpQuiet_step ?_
              intro K hK
              go_simp
              first | (refine hK _ ?_; clear hK K) | (refine ⟨_, fun w' hw' => rfl, hK _ ?_⟩; clear hK K)
              with_reducible refine wpQuiet_step ?_
              intro K hK
              go_simp
              first | (refine hK _ ?_; clear hK K) | (refine ⟨_, fun w' hw' => rfl, hK _ ?_⟩; clear hK K)
              with_reducible refine wpQuiet_step ?_
              intro K hK
              go_simp
              first | (refine hK _ ?_; clear hK K) | (refine ⟨_, fun w' hw' => rfl, hK _ ?_⟩; clear hK K)
              with_reducible refine wpQuiet_step ?_
              intro K hK
              go_simp
              first | (refine hK _ ?_; clear hK K) | (refine ⟨_, fun w' hw' => rfl, hK _ ?_⟩; clear hK K)
              with_reducible refine wpQuiet_step ?_
              intro K hK
              go_simp
              first | (refine hK _ ?_; clear hK K) | (refine ⟨_, fun w' hw' => rfl, hK _ ?_⟩; clear hK K)
              with_reducible refine wpQuiet_step ?_
              intro K hK
              go_simp
              first | (refine hK _ ?_; clear hK K) | (refine ⟨_, fun w' hw' => rfl, hK _ ?_⟩; clear hK K)
              with_reducible refine wpQuiet_step ?_
              intro K hK
              go_simp
              first | (refine hK _ ?_; clear hK K) | (refine ⟨_, fun w' hw' => rfl, hK _ ?_⟩; clear hK K)
              with_reducible refine wpQuiet_step ?_
              intro K hK
              go_simp
              first | (refine hK _ ?_; clear hK K) | (refine ⟨_, fun w' hw' => rfl, hK _ ?_⟩; clear hK K)
              with_reducible refine wpQuiet_step ?_
              intro K hK
              go_simp
              first | (refine hK _ ?_; clear hK K) | (refine ⟨_, fun w' hw' => rfl, hK _ ?_⟩; clear hK K)
              with_reducible refine wpQuiet_step ?_
              intro K hK
              go_simp
              first | (refine hK _ ?_; clear hK K) | (refine ⟨_, fun w' hw' => rfl, hK _ ?_⟩; clear hK K)
              with_reducible refine wpQuiet_step ?_
              intro K hK
              go_simp
              first | (refine hK _ ?_; clear hK K) | (refine ⟨_, fun w' hw' => rfl, hK _ ?_⟩; clear hK K)
              with_reducible refine wpQuiet_step ?_
              intro K hK
              go_simp
              first | (refine hK _ ?_; clear hK K) | (refine ⟨_, fun w' hw' => rfl, hK _ ?_⟩; clear hK K)
              with_reducible refine wpQuiet_step ?_
              intro K hK
              go_simp
              first | (refine hK _ ?_; clear hK K) | (refine ⟨_, fun w' hw' => rfl, hK _ ?_⟩; clear hK K)
              refine wpQuiet_nil ?_
              intro w9 hw9
              go_wp2_with fail
              go_roundw
              case rel => exact ⟨0 + 1, by omega, by go_num, hw9⟩
              case measure => simp [intOf]; omega
          · clear hin
            by_cases h0 : 0 < j
            · obtain ⟨k, hk⟩ : ∃ k : Nat, j = k + 1 := ⟨j - 1, by omega⟩
              have hjk : IntKind.i64.wrap ((j : Int) - 1) = (k : Int) := by rw [IntKind.wrap_i64]; omega
              have hj0 : decide (0 < j) = true := decide_eq_true h0
              have hkm : (k : Int) < (m : Int) := by omega
              have hk2 : k < m := by omega
              have hCp0 : ∀ w', C w' → w'.cell? ⟨g2, k * 2, none⟩ = some (.int .u64 ((winAt s d' Lw Kw k).1 : Int)) := fun w' h => (HC2.out k hk2 w' h).1
              have hCp1 : ∀ w', C w' → w'.cell? ⟨g2, k * 2 + 1, none⟩ = some (.int .u64 ((winAt s d' Lw Kw k).2 : Int)) := fun w' h => (HC2.out k hk2 w' h).2
              have hp0 : ¬ (x < ((winAt s d' Lw Kw k).1 : Int)) := by have := HMO.out k j (by omega); have := HXE.out; have := HYE.out; omega
              have hp1 : ¬ (y < ((winAt s d' Lw Kw k).2 : Int)) := by have := HMO.out k j (by omega); have := HXE.out; have := HYE.out; omega
              generalize ((winAt s d' Lw Kw k).1 : Int) = x' at *
              generalize ((winAt s d' Lw Kw k).2 : Int) = y' at *
              clear h0 hk
              go_wp2_with fail
              refine wp_region_class C (by kernel_rfl) (by kernel_rfl) HD.out ?_
              with_reducible refine wpQuiet_step ?_
              intro K hK
              go_simp
              first | (refine hK _ ?_; clear hK K) | (refine ⟨_, fun w' hw' => rfl, hK _ ?_⟩; clear hK K)
              with_reducible refine wpQuiet_step ?_
              intro K hK
              go_simp
              first | (refine hK _ ?_; clear hK K) | (refine ⟨_, fun w' hw' => rfl, hK _ ?_⟩; clear hK K)
              with_reducible refine wpQuiet_step ?_
              intro K hK
              go_simp
              first | (refine hK _ ?_; clear hK K) | (refine ⟨_, fun w' hw' => rfl, hK _ ?_⟩; clear hK K)
              with_reducible refine wpQuiet_step ?_
              intro K hK
              go_simp
              refine ⟨.agg #[.int .u64 u, .int .u64 v], fun w' hw' => ?_, hK _ ?_⟩
              · have hcell0 := hCb0 w' hw'
                have hcell1 := hCb1 w' hw'
                go_simp
              clear hK K
              with_reducible refine wpQuiet_step ?_
              intro K hK
              go_simp
              first | (refine hK _ ?_; clear hK K) | (refine ⟨_, fun w' hw' => rfl, hK _ ?_⟩; clear hK K)
              with_reducible refine wpQuiet_step ?_
              intro K hK
              go_simp
              refine ⟨_, hCn, hK _ ?_⟩
              clear hK K
              with_reducible refine wpQuiet_step ?_
              intro K hK
              go_simp
              first | (refine hK _ ?_; clear hK K) | (refine ⟨_, fun w' hw' => rfl, hK _ ?_⟩; clear hK K)
              with_reducible refine wpQuiet_step ?_
              intro K hK
              go_simp
              first | (refine hK _ ?_; clear hK K) | (refine ⟨_, fun w' hw' => rfl, hK _ ?_⟩; clear hK K)
              with_reducible refine wpQuiet_step ?_
              intro K hK
              go_simp
              first | (refine hK _ ?_; clear hK K) | (refine ⟨_, fun w' hw' => rfl, hK _ ?_⟩; clear hK K)
              with_reducible refine wpQuiet_step ?_
              intro K hK
              go_simp
              first | (refine hK _ ?_; clear hK K) | (refine ⟨_, fun w' hw' => rfl, hK _ ?_⟩; clear hK K)
              with_reducible refine wpQuiet_step ?_
              intro K hK
              go_simp
              first | (refine hK _ ?_; clear hK K) | (refine ⟨_, fun w' hw' => rfl, hK _ ?_⟩; clear hK K)
              with_reducible refine wpQuiet_step ?_
              intro K hK
              go_simp
              first | (refine hK _ ?_; clear hK K) | (refine ⟨_, fun w' hw' => rfl, hK _ ?_⟩; clear hK K)
              with_reducible refine wpQuiet_step ?_
              intro K hK
              go_simp
              first | (refine hK _ ?_; clear hK K) | (refine ⟨_, fun w' hw' => rfl, hK _ ?_⟩; clear hK K)
              with_reducible refine wpQuiet_step ?_
              intro K hK
              go_simp
              first | (refine hK _ ?_; clear hK K) | (refine ⟨_, fun w' hw' => rfl, hK _ ?_⟩; clear hK K)
              with_reducible refine wpQuiet_step ?_
              intro K hK
              go_simp
              first | (refine hK _ ?_; clear hK K) | (refine ⟨_, fun w' hw' => rfl, hK _ ?_⟩; clear hK K)
              with_reducible refine wpQuiet_step ?_
              intro K hK
              go_simp
              first | (refine hK _ ?_; clear hK K) | (refine ⟨_, fun w' hw' => rfl, hK _ ?_⟩; clear hK K)
              with_reducible refine wpQuiet_step ?_
              intro K hK
              go_simp
              first | (refine hK _ ?_; clear hK K) | (refine ⟨_, fun w' hw' => rfl, hK _ ?_⟩; clear hK K)
              with_reducible refine wpQuiet_step ?_
              intro K hK
              go_simp
              first | (refine hK _ ?_; clear hK K) | (refine ⟨_, fun w' hw' => rfl, hK _ ?_⟩; clear hK K)
              with_reducible refine wpQuiet_step ?_
              intro K hK
              go_simp
              first | (refine hK _ ?_; clear hK K) | (refine ⟨_, fun w' hw' => rfl, hK _ ?_⟩; clear hK K)
              with_reducible refine wpQuiet_step ?_
              intro K hK
              go_simp
              first | (refine hK _ ?_; clear hK K) | (refine ⟨_, fun w' hw' => rfl, hK _ ?_⟩; clear hK K)
              with_reducible refine wpQuiet_step ?_
              intro K hK
              go_simp
              first | (refine hK _ ?_; clear hK K) | (refine ⟨_, fun w' hw' => rfl, hK _ ?_⟩; clear hK K)
              with_reducible refine wpQuiet_step ?_
              intro K hK
              go_simp
              refine ⟨.int .u64 x, fun w' hw' => ?_, hK _ ?_⟩
              · have hcell0 := hCa0 w' hw'
                go_simp
              clear hK K
              with_reducible refine wpQuiet_step ?_
              intro K hK
              go_simp
              first | (refine hK _ ?_; clear hK K) | (refine ⟨_, fun w' hw' => rfl, hK _ ?_⟩; clear hK K)
              with_reducible refine wpQuiet_step ?_
              intro K hK
              go_simp
              first | (refine hK _ ?_; clear hK K) | (refine ⟨_, fun w' hw' => rfl, hK _ ?_⟩; clear hK K)
              with_reducible refine wpQuiet_step ?_
              intro K hK
              go_simp
              first | (refine hK _ ?_; clear hK K) | (refine ⟨_, fun w' hw' => rfl, hK _ ?_⟩; clear hK K)
              with_reducible refine wpQuiet_step ?_
              intro K hK
              go_simp
              first | (refine hK _ ?_; clear hK K) | (refine ⟨_, fun w' hw' => rfl, hK _ ?_⟩; clear hK K)
              with_reducible refine wpQuiet_step ?_
              intro K hK
              go_simp
              refine ⟨.int .u64 y, fun w' hw' => ?_, hK _ ?_⟩
              · have hcell0 := hCa1 w' hw'
                go_simp
              clear hK K
              with_reducible refine wpQuiet_step ?_
              intro K hK
              go_simp
              first | (refine hK _ ?_; clear hK K) | (refine ⟨_, fun w' hw' => rfl, hK _ ?_⟩; clear hK K)
              with_reducible refine wpQuiet_step ?_
              intro K hK
              go_simp
              first | (refine hK _ ?_; clear hK K) | (refine ⟨_, fun w' hw' => rfl, hK _ ?_⟩; clear hK K)
              with_reducible refine wpQuiet_step ?_
              intro K hK
              go_simp
              first | (refine hK _ ?_; clear hK K) | (refine ⟨_, fun w' hw' => rfl, hK _ ?_⟩; clear hK K)
              with_reducible refine wpQuiet_step ?_
              intro K hK
              go_simp
              first | (refine hK _ ?_; clear hK K) | (refine ⟨_, fun w' hw' => rfl, hK _ ?_⟩; clear hK K)
              with_reducible refine wpQuiet_step ?_
              intro K hK
              go_simp
              first | (refine hK _ ?_; clear hK K) | (refine ⟨_, fun w' hw' => rfl, hK _ ?_⟩; clear hK K)
              with_reducible refine wpQuiet_step ?_
              intro K hK
              go_simp
              first | (refine hK _ ?_; clear hK K) | (refine ⟨_, fun w' hw' => rfl, hK _ ?_⟩; clear hK K)
              with_reducible refine wpQuiet_step ?_
              intro K hK
              go_simp
              first | (refine hK _ ?_; clear hK K) | (refine ⟨_, fun w' hw' => rfl, hK _ ?_⟩; clear hK K)
              with_reducible refine wpQuiet_step ?_
              intro K hK
              go_simp
              first | (refine hK _ ?_; clear hK K) | (refine ⟨_, fun w' hw' => rfl, hK _ ?_⟩; clear hK K)
              with_reducible refine wpQuiet_step ?_
              intro K hK
              go_simp
              first | (refine hK _ ?_; clear hK K) | (refine ⟨_, fun w' hw' => rfl, hK _ ?_⟩; clear hK K)
              with_reducible refine wpQuiet_step ?_
              intro K hK
              go_simp
              first | (refine hK _ ?_; clear hK K) | (refine ⟨_, fun w' hw' => rfl, hK _ ?_⟩; clear hK K)
              with_reducible refine wpQuiet_step ?_
              intro K hK
              go_simp
              refine ⟨.int .u64 x, fun w' hw' => ?_, hK _ ?_⟩
              · have hcell0 := hCa0 w' hw'
                go_simp
              clear hK K
              with_reducible refine wpQuiet_step ?_
              intro K hK
              go_simp
              first | (refine hK _ ?_; clear hK K) | (refine ⟨_, fun w' hw' => rfl, hK _ ?_⟩; clear hK K)
              with_reducible refine wpQuiet_step ?_
              intro K hK
              go_simp
              first | (refine hK _ ?_; clear hK K) | (refine ⟨_, fun w' hw' => rfl, hK _ ?_⟩; clear hK K)
              with_reducible refine wpQuiet_step ?_
              intro K hK
              go_simp
              first | (refine hK _ ?_; clear hK K) | (refine ⟨_, fun w' hw' => rfl, hK _ ?_⟩; clear hK K)
              with_reducible refine wpQuiet_step ?_
              intro K hK
              go_simp
              first | (refine hK _ ?_; clear hK K) | (refine ⟨_, fun w' hw' => rfl, hK _ ?_⟩; clear hK K)
              with_reducible refine wpQuiet_step ?_
              intro K hK
              go_simp
              first | (refine hK _ ?_; clear hK K) | (refine ⟨_, fun w' hw' => rfl, hK _ ?_⟩; clear hK K)
              with_reducible refine wpQuiet_step ?_
              intro K hK
              go_simp
              refine ⟨.int .u64 x', fun w' hw' => ?_, hK _ ?_⟩
              · have hcell0 := hCp0 w' hw'
                go_simp
              clear hK K
              with_reducible refine wpQuiet_step ?_
              intro K hK
              go_simp
              first | (refine hK _ ?_; clear hK K) | (refine ⟨_, fun w' hw' => rfl, hK _ ?_⟩; clear hK K)
              with_reducible refine wpQuiet_step ?_
              intro K hK
              go_simp
              first | (refine hK _ ?_; clear hK K) | (refine ⟨_, fun w' hw' => rfl, hK _ ?_⟩; clear hK K)
              with_reducible refine wpQuiet_step ?_
              intro K hK
              go_simp
              first | (refine hK _ ?_; clear hK K) | (refine ⟨_, fun w' hw' => rfl, hK _ ?_⟩; clear hK K)
              with_reducible refine wpQuiet_step ?_
              intro K hK
              go_simp
              first | (refine hK _ ?_; clear hK K) | (refine ⟨_, fun w' hw' => rfl, hK _ ?_⟩; clear hK K)
              with_reducible refine wpQuiet_step ?_
              intro K hK
              go_simp
              first | (refine hK _ ?_; clear hK K) | (refine ⟨_, fun w' hw' => rfl, hK _ ?_⟩; clear hK K)
              with_reducible refine wpQuiet_step ?_
              intro K hK
              go_simp
              first | (refine hK _ ?_; clear hK K) | (refine ⟨_, fun w' hw' => rfl, hK _ ?_⟩; clear hK K)
              with_reducible refine wpQuiet_step ?_
              intro K hK
              go_simp
              refine ⟨.int .u64 y, fun w' hw' => ?_, hK _ ?_⟩
              · have hcell0 := hCa1 w' hw'
                go_simp
              clear hK K
              with_reducible refine wpQuiet_step ?_
              intro K hK
              go_simp
              first | (refine hK _ ?_; clear hK K) | (refine ⟨_, fun w' hw' => rfl, hK _ ?_⟩; clear hK K)
              with_reducible refine wpQuiet_step ?_
              intro K hK
              go_simp
              first | (refine hK _ ?_; clear hK K) | (refine ⟨_, fun w' hw' => rfl, hK _ ?_⟩; clear hK K)
              with_reducible refine wpQuiet_step ?_
              intro K hK
              go_simp
              first | (refine hK _ ?_; clear hK K) | (refine ⟨_, fun w' hw' => rfl, hK _ ?_⟩; clear hK K)
              with_reducible refine wpQuiet_step ?_
              intro K hK
              go_simp
              first | (refine hK _ ?_; clear hK K) | (refine ⟨_, fun w' hw' => rfl, hK _ ?_⟩; clear hK K)
              with_reducible refine wpQuiet_step ?_
              intro K hK
              go_simp
              first | (refine hK _ ?_; clear hK K) | (refine ⟨_, fun w' hw' => rfl, hK _ ?_⟩; clear hK K)
              with_reducible refine wpQuiet_step ?_
              intro K hK
              go_simp
              refine ⟨.int .u64 y', fun w' hw' => ?_, hK _ ?_⟩
              · have hcell0 := hCp1 w' hw'
                go_simp
              clear hK K
              with_reducible refine wpQuiet_step ?_
              intro K hK
              go_simp
              first | (refine hK _ ?_; clear hK K) | (refine ⟨_, fun w' hw' => rfl, hK _ ?_⟩; clear hK K)
              with_reducible refine wpQuiet_step ?_
              intro K hK
              go_simp
              first | (refine hK _ ?_; clear hK K) | (refine ⟨_, fun w' hw' => rfl, hK _ ?_⟩; clear hK K)
              with_reducible refine wpQuiet_step ?_
              intro K hK
              go_simp
              first | (refine hK _ ?_; clear hK K) | (refine ⟨_, fun w' hw' => rfl, hK _ ?_⟩; clear hK K)
              with_reducible refine wpQuiet_step ?_
              intro K hK
              go_simp
              first | (refine hK _ ?_; clear hK K) | (refine ⟨_, fun w' hw' => rfl, hK _ ?_⟩; clear hK K)
              refine wpQuiet_nil ?_
              intro w9 hw9
              go_wp2_with fail
              go_roundw
              case rel => exact ⟨j + 1, by omega, by go_num, hw9⟩
              case measure => simp [intOf]; omega
            · obtain rfl : j = 0 := by omega
              clear h0 hji
              have hji : (0 : Int) < (m : Int) := by omega
              replace hCa0 : ∀ w', C w' → w'.cell? ⟨g2, 0, none⟩ = some (.int .u64 x) := hCa0
              replace hCa1 : ∀ w', C w' → w'.cell? ⟨g2, 1, none⟩ = some (.int .u64 y) := hCa1
              replace hCb0 : ∀ w', C w' → w'.cell? ⟨g3, 0, none⟩ = some (.int .u64 u) := hCb0
              replace hCb1 : ∀ w', C w' → w'.cell? ⟨g3, 1, none⟩ = some (.int .u64 v) := hCb1
              go_wp2_with fail
              refine wp_region_class C (by kernel_rfl) (by kernel_rfl) HD.out ?_
              with_reducible refine wpQuiet_step ?_
              intro K hK
              go_simp
              first | (refine hK _ ?_; clear hK K) | (refine ⟨_, fun w' hw' => rfl, hK _ ?_⟩; clear hK K)
              with_reducible refine wpQuiet_step ?_
              intro K hK
              go_simp
              first | (refine hK _ ?_; clear hK K) | (refine ⟨_, fun w' hw' => rfl, hK _ ?_⟩; clear hK K)
              with_reducible refine wpQuiet_step ?_
              intro K hK
              go_simp
              first | (refine hK _ ?_; clear hK K) | (refine ⟨_, fun w' hw' => rfl, hK _ ?_⟩; clear hK K)
              with_reducible refine wpQuiet_step ?_
              intro K hK
              go_simp
              refine ⟨.agg #[.int .u64 u, .int .u64 v], fun w' hw' => ?_, hK _ ?_⟩
              · have hcell0 := hCb0 w' hw'
                have hcell1 := hCb1 w' hw'
                go_simp
              clear hK K
              with_reducible refine wpQuiet_step ?_
              intro K hK
              go_simp
              first | (refine hK _ ?_; clear hK K) | (refine ⟨_, fun w' hw' => rfl, hK _ ?_⟩; clear hK K)
              with_reducible refine wpQuiet_step ?_
              intro K hK
              go_simp
              refine ⟨_, hCn, hK _ ?_⟩
              clear hK K
              with_reducible refine wpQuiet_step ?_
              intro K hK
              go_simp
              first | (refine hK _ ?_; clear hK K) | (refine ⟨_, fun w' hw' => rfl, hK _ ?_⟩; clear hK K)
              with_reducible refine wpQuiet_step ?_
              intro K hK
              go_simp
              first | (refine hK _ ?_; clear hK K) | (refine ⟨_, fun w' hw' => rfl, hK _ ?_⟩; clear hK K)
              with_reducible refine wpQuiet_step ?_
              intro K hK
              go_simp
              first | (refine hK _ ?_; clear hK K) | (refine ⟨_, fun w' hw' => rfl, hK _ ?_⟩; clear hK K)
              with_reducible refine wpQuiet_step ?_
              intro K hK
              go_simp
              first | (refine hK _ ?_; clear hK K) | (refine ⟨_, fun w' hw' => rfl, hK _ ?_⟩; clear hK K)
              with_reducible refine wpQuiet_step ?_
              intro K hK
              go_simp
              first | (refine hK _ ?_; clear hK K) | (refine ⟨_, fun w' hw' => rfl, hK _ ?_⟩; clear hK K)
              with_reducible refine wpQuiet_step ?_
              intro K hK
              go_simp
              first | (refine hK _ ?_; clear hK K) | (refine ⟨_, fun w' hw' => rfl, hK _ ?_⟩; clear hK K)
              with_reducible refine wpQuiet_step ?_
              intro K hK
              go_simp
              first | (refine hK _ ?_; clear hK K) | (refine ⟨_, fun w' hw' => rfl, hK _ ?_⟩; clear hK K)
              with_reducible refine wpQuiet_step ?_
              intro K hK
              go_simp
              first | (refine hK _ ?_; clear hK K) | (refine ⟨_, fun w' hw' => rfl, hK _ ?_⟩; clear hK K)
              with_reducible refine wpQuiet_step ?_
              intro K hK
              go_simp
              first | (refine hK _ ?_; clear hK K) | (refine ⟨_, fun w' hw' => rfl, hK _ ?_⟩; clear hK K)
              with_reducible refine wpQuiet_step ?_
              intro K hK
              go_simp
              first | (refine hK _ ?_; clear hK K) | (refine ⟨_, fun w' hw' => rfl, hK _ ?_⟩; clear hK K)
              with_reducible refine wpQuiet_step ?_
              intro K hK
              go_simp
              first | (refine hK _ ?_; clear hK K) | (refine ⟨_, fun w' hw' => rfl, hK _ ?_⟩; clear hK K)
              with_reducible refine wpQuiet_step ?_
              intro K hK
              go_simp
              first | (refine hK _ ?_; clear hK K) | (refine ⟨_, fun w' hw' => rfl, hK _ ?_⟩; clear hK K)
              with_reducible refine wpQuiet_step ?_
              intro K hK
              go_simp
              first | (refine hK _ ?_; clear hK K) | (refine ⟨_, fun w' hw' => rfl, hK _ ?_⟩; clear hK K)
              with_reducible refine wpQuiet_step ?_
              intro K hK
              go_simp
              first | (refine hK _ ?_; clear hK K) | (refine ⟨_, fun w' hw' => rfl, hK _ ?_⟩; clear hK K)
              with_reducible refine wpQuiet_step ?_
              intro K hK
              go_simp
              first | (refine hK _ ?_; clear hK K) | (refine ⟨_, fun w' hw' => rfl, hK _ ?_⟩; clear hK K)
              with_reducible refine wpQuiet_step ?_
              intro K hK
              go_simp
              refine ⟨.int .u64 x, fun w' hw' => ?_, hK _ ?_⟩
              · have hcell0 := hCa0 w' hw'
                go_simp
              clear hK K
              with_reducible refine wpQuiet_step ?_
              intro K hK
              go_simp
              first | (refine hK _ ?_; clear hK K) | (refine ⟨_, fun w' hw' => rfl, hK _ ?_⟩; clear hK K)
              with_reducible refine wpQuiet_step ?_
              intro K hK
              go_simp
              first | (refine hK _ ?_; clear hK K) | (refine ⟨_, fun w' hw' => rfl, hK _ ?_⟩; clear hK K)
              with_reducible refine wpQuiet_step ?_
              intro K hK
              go_simp
              first | (refine hK _ ?_; clear hK K) | (refine ⟨_, fun w' hw' => rfl, hK _ ?_⟩; clear hK K)
              with_reducible refine wpQuiet_step ?_
              intro K hK
              go_simp
              first | (refine hK _ ?_; clear hK K) | (refine ⟨_, fun w' hw' => rfl, hK _ ?_⟩; clear hK K)
              with_reducible refine wpQuiet_step ?_
              intro K hK
              go_simp
              refine ⟨.int .u64 y, fun w' hw' => ?_, hK _ ?_⟩
              · have hcell0 := hCa1 w' hw'
                go_simp
              clear hK K
              with_reducible refine wpQuiet_step ?_
              intro K hK
              go_simp
              first | (refine hK _ ?_; clear hK K) | (refine ⟨_, fun w' hw' => rfl, hK _ ?_⟩; clear hK K)
              with_reducible refine wpQuiet_step ?_
              intro K hK
              go_simp
              first | (refine hK _ ?_; clear hK K) | (refine ⟨_, fun w' hw' => rfl, hK _ ?_⟩; clear hK K)
              with_reducible refine wpQuiet_step ?_
              intro K hK
              go_simp
              first | (refine hK _ ?_; clear hK K) | (refine ⟨_, fun w' hw' => rfl, hK _ ?_⟩; clear hK K)
              with_reducible refine wpQuiet_step ?_
              intro K hK
              go_simp
              first | (refine hK _ ?_; clear hK K) | (refine ⟨_, fun w' hw' => rfl, hK _ ?_⟩; clear hK K)
              with_reducible refine wpQuiet_step ?_
              intro K hK
              go_simp
              first | (refine hK _ ?_; clear hK K) | (refine ⟨_, fun w' hw' => rfl, hK _ ?_⟩; clear hK K)
              with_reducible refine wpQuiet_step ?_
              intro K hK
              go_simp
              first | (refine hK _ ?_; clear hK K) | (refine ⟨_, fun w' hw' => rfl, hK _ ?_⟩; clear hK K)
              with_reducible refine wpQuiet_step ?_
              intro K hK
              go_simp
              first | (refine hK _ ?_; clear hK K) | (refine ⟨_, fun w' hw' => rfl, hK _ ?_⟩; clear hK K)
              with_reducible refine wpQuiet_step ?_
              intro K hK
              go_simp
              first | (refine hK _ ?_; clear hK K) | (refine ⟨_, fun w' hw' => rfl, hK _ ?_⟩; clear hK K)
              with_reducible refine wpQuiet_step ?_
              intro K hK
              go_simp
              first | (refine hK _ ?_; clear hK K) | (refine ⟨_, fun w' hw' => rfl, hK _ ?_⟩; clear hK K)
              with_reducible refine wpQuiet_step ?_
              intro K hK
              go_simp
              first | (refine hK _ ?_; clear hK K) | (refine ⟨_, fun w' hw' => rfl, hK _ ?_⟩; clear hK K)
              with_reducible refine wpQuiet_step ?_
              intro K hK
              go_simp
              first | (refine hK _ ?_; clear hK K) | (refine ⟨_, fun w' hw' => rfl, hK _ ?_⟩; clear hK K)
              with_reducible refine wpQuiet_step ?_
              intro K hK
              go_simp
              first | (refine hK _ ?_; clear hK K) | (refine ⟨_, fun w' hw' => rfl, hK _ ?_⟩; clear hK K)
              with_reducible refine wpQuiet_step ?_
              intro K hK
              go_simp
              first | (refine hK _ ?_; clear hK K) | (refine ⟨_, fun w' hw' => rfl, hK _ ?_⟩; clear hK K)
              with_reducible refine wpQuiet_step ?_
              intro K hK
              go_simp
              first | (refine hK _ ?_; clear hK K) | (refine ⟨_, fun w' hw' => rfl, hK _ ?_⟩; clear hK K)
              with_reducible refine wpQuiet_step ?_
              intro K hK
              go_simp
              first | (refine hK _ ?_; clear hK K) | (refine ⟨_, fun w' hw' => rfl, hK _ ?_⟩; clear hK K)
              with_reducible refine wpQuiet_step ?_
              intro K hK
              go_simp
              first | (refine hK _ ?_; clear hK K) | (refine ⟨_, fun w' hw' => rfl, hK _ ?_⟩; clear hK K)
              with_reducible refine wpQuiet_step ?_
              intro K hK
              go_simp
              first | (refine hK _ ?_; clear hK K) | (refine ⟨_, fun w' hw' => rfl, hK _ ?_⟩; clear hK K)
              with_reducible refine wpQuiet_step ?_
              intro K hK
              go_simp
              first | (refine hK _ ?_; clear hK K) | (refine ⟨_, fun w' hw' => rfl, hK _ ?_⟩; clear hK K)
              with_reducible refine wpQuiet_step ?_
              intro K hK
              go_simp
              first | (refine hK _ ?_; clear hK K) | (refine ⟨_, fun w' hw' => rfl, hK _ ?_⟩; clear hK K)
              with_reducible refine wpQuiet_step ?_
              intro K hK
              go_simp
              first | (refine hK _ ?_; clear hK K) | (refine ⟨_, fun w' hw' => rfl, hK _ ?_⟩; clear hK K)
              with_reducible refine wpQuiet_step ?_
              intro K hK
              go_simp
              first | (refine hK _ ?_; clear hK K) | (refine ⟨_, fun w' hw' => rfl, hK _ ?_⟩; clear hK K)
              with_reducible refine wpQuiet_step ?_
              intro K hK
              go_simp
              first | (refine hK _ ?_; clear hK K) | (refine ⟨_, fun w' hw' => rfl, hK _ ?_⟩; clear hK K)
              with_reducible refine wpQuiet_step ?_
              intro K hK
              go_simp
              first | (refine hK _ ?_; clear hK K) | (refine ⟨_, fun w' hw' => rfl, hK _ ?_⟩; clear hK K)
              with_reducible refine wpQuiet_step ?_
              intro K hK
              go_simp
              first | (refine hK _ ?_; clear hK K) | (refine ⟨_, fun w' hw' => rfl, hK _ ?_⟩; clear hK K)
              with_reducible refine wpQuiet_step ?_
              intro K hK
              go_simp
              first | (refine hK _ ?_; clear hK K) | (refine ⟨_, fun w' hw' => rfl, hK _ ?_⟩; clear hK K)
              with_reducible refine wpQuiet_step ?_
              intro K hK
              go_simp
              first | (refine hK _ ?_; clear hK K) | (refine ⟨_, fun w' hw' => rfl, hK _ ?_⟩; clear hK K)
              with_reducible refine wpQuiet_step ?_
              intro K hK
              go_simp
              first | (refine hK _ ?_; clear hK K) | (refine ⟨_, fun w' hw' => rfl, hK _ ?_⟩; clear hK K)
              with_reducible refine wpQuiet_step ?_
              intro K hK
              go_simp
              first | (refine hK _ ?_; clear hK K) | (refine ⟨_, fun w' hw' => rfl, hK _ ?_⟩; clear hK K)
              with_reducible refine wpQuiet_step ?_
              intro K hK
              go_simp
              first | (refine hK _ ?_; clear hK K) | (refine ⟨_, fun w' hw' => rfl, hK _ ?_⟩; clear hK K)
              with_reducible refine wpQuiet_step ?_
              intro K hK
              go_simp
              first | (refine hK _ ?_; clear hK K) | (refine ⟨_, fun w' hw' => rfl, hK _ ?_⟩; clear hK K)
              with_reducible refine wpQuiet_step ?_
              intro K hK
              go_simp
              first | (refine hK _ ?_; clear hK K) | (refine ⟨_, fun w' hw' => rfl, hK _ ?_⟩; clear hK K)
              with_reducible refine wpQuiet_step ?_
              intro K hK
              go_simp
              first | (refine hK _ ?_; clear hK K) | (refine ⟨_, fun w' hw' => rfl, hK _ ?_⟩; clear hK K)
              with_reducible refine wpQuiet_step ?_
              intro K hK
              go_simp
              first | (refine hK _ ?_; clear hK K) | (refine ⟨_, fun w' hw' => rfl, hK _ ?_⟩; clear hK K)
              with_reducible refine wpQuiet_step ?_
              intro K hK
              go_simp
              first | (refine hK _ ?_; clear hK K) | (refine ⟨_, fun w' hw' => rfl, hK _ ?_⟩; clear hK K)
              refine wpQuiet_nil ?_
              intro w9 hw9
              go_wp2_with fail
              go_roundw
              case rel => exact ⟨0 + 1, by omega, by go_num, hw9⟩
              case measure => simp [intOf]; omega
        · obtain rfl : j = m := by omega
          have hkk : ¬ ((j : Int) < (j : Int)) := by omega
          have hE := HCE.out _ hw
          clear hw
          go_wp2_with fail
          go_ret
          exact ⟨rfl, hE⟩
    · refine (win_over HA1.out h1 h5 hf).mono ?_
      rintro e w2 ⟨rfl, hb⟩
      have HB2 := hide (below_call HB1.out hb)
      have HN2 := hide (HN1.out.below hb)
      clear hb HB1 HN1 HA1
      go_wp2_with (first
        | (refine wplk_min (.tmp 42) (.tmp 43) _ _ rfl _ .u64 a' b' (Ln : Int) rfl rfl HLn.out rfl ?_)
        | (refine wplk_min (.tmp 45) (.tmp 46) _ _ rfl _ .u64 p' q' (Kn : Int) rfl rfl HKn.out rfl ?_))
      refine (win_any s A m c d' Ln Kn _ HN2.out.hs HN2.out.hL HN2.out.hK HN2.out.hd HN2.out.row h1 h5).mono ?_
      rintro e w3 (⟨hf2, A3, c3, rfl, ho3, hb⟩ | ⟨hf2, rfl, hb⟩)
      all_goals
        have HB3 := hide (below_call HB2.out hb)
        clear hb HB2
        go_wp2_with fail
        go_ret
        exact ⟨rfl, HB3.out⟩
end Go.Proofs.Ytcnnekdeakfjeaa
