/-
  DelayRises: the walk. For every input the law returns true; what lay when the call began lies as it lay. No condition.
-/
import Derived.Test.YtgaocmpcjnjmdaaDl8
import Derived.Test.YtgaocmpcjnjmdaaNFrame
namespace Go.Proofs.Ytgaocmpcjnjmdaa
set_option linter.unusedVariables false
open Go.RowKit

set_option maxHeartbeats 4000000 in
set_option maxRecDepth 100000 in
theorem rises_walk (a b m n p q : Int) (w : World) (ha0 : 0 ≤ a) (ha1 : a < 18446744073709551616) (hb0 : 0 ≤ b) (hb1 : b < 18446744073709551616) (hm0 : 0 ≤ m) (hm1 : m < 4294967296) (hn0 : 0 ≤ n) (hn1 : n < 4294967296) (hp0 : 0 ≤ p) (hp1 : p < 4294967296) (hq0 : 0 ≤ q) (hq1 : q < 4294967296) :
    Calls Try.prog 5 #[.int .u64 a, .int .u64 b, .int .u32 m, .int .u32 n, .int .u32 p, .int .u32 q] w fun e w' => e = .returned (.bool true) ∧ Below w.heap.size w w' := by
  obtain ⟨la, ha, la0, ha0', la1, la2, ha2⟩ := both_ends a b 18446744073709551616 ha0 hb0 ha1 hb1
  obtain ⟨lm, hm, lm0, hm0', lm1, lm2, hm2⟩ := both_ends m n 4294967296 hm0 hn0 hm1 hn1
  obtain ⟨lp, hp, lp0, hp0', lp1, lp2, hp2⟩ := both_ends p q 4294967296 hp0 hq0 hp1 hq1
  have d1 := fun w => draw_any la lm lp w la1 (by omega) lm1 (by omega) lp1 (by omega)
  have d2 := fun w => draw_any ha hm hp w (by omega) ha2 (by omega) hm2 (by omega) hp2
  obtain ⟨x1, x2, x3⟩ := drawV_mono la1 la2 ha2 lm2 lp2 lp1
  generalize drawV la lm lp = V at *
  generalize drawV ha hm hp = U at *
  go_enter Try.func5, Try.ntmps5
  go_wp2_with fail
  refine (shown_any _).mono ?_
  rintro e w1 ⟨rfl, hb1⟩
  go_wp2_with fail
  refine (table_any _).mono ?_
  rintro e w2 ⟨rfl, hb2⟩
  replace hb2 := below_then hb1 hb2 hb1.size
  clear hb1
  have HTC := hide tabL_cells
  have HTO := hide (cellsW_one tabL)
  have HZC := hide zeroT_size
  have HZ0 := hide zero256
  have HTab : Hid (∀ w g, Blk w g 25 (cellsW tabL).toArray → Tab w g) := fun _ _ h => h
  generalize cellsW tabL = T at *
  generalize cellsW (List.replicate 256 0) = Z at *
  go_wp2_with (first
    | ((with_reducible refine wpl_alloca (op := ⟨some 14, _, _, _, _, _⟩) rfl _ rfl _ HZ0.out ?_); intro g w3 hB3 hs3 hF3)
    | ((with_reducible refine wpl_storea agg256 rfl (.tmp 14) (.tmp 18) rfl g T rfl rfl _ _ hB3 HTC.out HZC.out HTO.out ?_); intro w4 hB4 hF4))
  have hT4 := HTab.out _ _ hB4
  have hb4 : Below w.heap.size w w4 := below_frm (hb2.trans (hF3.below hb2.size (fun k hk => hk.elim))) hF4 (by have := hb2.size; have := hF3.size; omega) (by intro k hk; have := hb2.size; omega)
  clear hB4 hF4 hB3 hF3 hb2 HTC HZC HTO HZ0 HTab
  have HT0 := hide hT4
  have HB0 := hide hb4
  clear hT4 hb4
  go_loopw [15] (fun i wr => ∃ k : Nat, 1 ≤ k ∧ k ≤ 256 ∧ i = .int .i64 k ∧ Tab wr g ∧ Below w.heap.size w wr) (fun i _ => 256 - (intOf i).toNat)
  case atStart => exact ⟨1, by omega, by omega, rfl, HT0.out, HB0.out⟩
  case round =>
    clear HT0 HB0
    obtain ⟨k, hk1, hk, rfl, hT, hB⟩ := hrel
    by_cases hlt : k < 256
    · have hk2 : (k : Int) < 256 := by omega
      have c1 : ∀ q, (wr.drewN q).cell? ⟨g, k, none⟩ = some (.int .u32 (tabV (k : Int))) := fun q => (hT.drewN q).cell k hlt
      have c2 : ∀ q, (wr.drewN q).cell? ⟨g, k - 1, none⟩ = some (.int .u32 (tabV ((k - 1 : Nat) : Int))) := fun q => (hT.drewN q).cell (k - 1) (by omega)
      have hr := tabV_rises k hk1 hlt
      generalize tabV (k : Int) = A at *
      generalize tabV ((k - 1 : Nat) : Int) = C at *
      have hi1 : 0 ≤ (k : Int) - 1 := by omega
      have hi2 : (k : Int) - 1 < 256 := by omega
      have hi3 : ((k : Int) - 1).toNat = k - 1 := by omega
      have hd : decide (A ≤ C) = false := decide_eq_false (by omega)
      have HF : Hid (∀ q, Tab (wr.drewN q) g ∧ Below w.heap.size w (wr.drewN q)) := fun q => ⟨hT.drewN q, below_drewN hB q⟩
      clear hr hT hB
      go_wp2_with fail
      go_quiet (fail)
      go_wp2_with fail
      have FIN := HF.out nq
      go_roundw
      case rel => first | exact ⟨k + 1, by omega, by omega, by go_num, FIN.1, FIN.2⟩ | ((repeat apply Exists.intro); exact ⟨⟨k + 1, by omega, by omega, by go_num, FIN.1, FIN.2⟩, rfl⟩)
      case measure => simp [intOf]; omega
    · have hk2 : ¬ (k : Int) < 256 := by omega
      go_wp2_with (first
        | (with_reducible refine wplk_min (op := ⟨some 33, _, _, _, _, _⟩) _ _ _ _ rfl _ .u64 _ _ la rfl rfl la0.out rfl ?_)
        | (with_reducible refine wplk_min (op := ⟨some 36, _, _, _, _, _⟩) _ _ _ _ rfl _ .u32 _ _ lm rfl rfl lm0.out rfl ?_)
        | (with_reducible refine wplk_min (op := ⟨some 39, _, _, _, _, _⟩) _ _ _ _ rfl _ .u32 _ _ lp rfl rfl lp0.out rfl ?_))
      refine (d1 _).mono ?_
      rintro e v1 ⟨rfl, hv1⟩
      replace hv1 := below_then hB hv1 hB.size
      clear hB hT
      go_wp2_with (first
        | (with_reducible refine wplk_max (op := ⟨some 46, _, _, _, _, _⟩) _ _ _ _ rfl _ .u64 _ _ ha rfl rfl ha0'.out rfl ?_)
        | (with_reducible refine wplk_max (op := ⟨some 49, _, _, _, _, _⟩) _ _ _ _ rfl _ .u32 _ _ hm rfl rfl hm0'.out rfl ?_)
        | (with_reducible refine wplk_max (op := ⟨some 52, _, _, _, _, _⟩) _ _ _ _ rfl _ .u32 _ _ hp rfl rfl hp0'.out rfl ?_))
      refine (d2 _).mono ?_
      rintro e v2 ⟨rfl, hv2⟩
      replace hv2 := below_then hv1 hv2 hv1.size
      go_wp2_with (with_reducible refine wplk_min (op := ⟨some 60, _, _, _, _, _⟩) _ _ _ _ rfl _ .u32 _ _ lp rfl rfl lp0.out rfl ?_)
      go_ret
      exact ⟨rfl, hv2⟩
end Go.Proofs.Ytgaocmpcjnjmdaa
