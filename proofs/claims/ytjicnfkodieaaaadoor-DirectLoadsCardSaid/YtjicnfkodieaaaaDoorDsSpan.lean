/-
  DirectSpan: the walk.
-/
import Derived.Test.YtjicnfkodieaaaaDoorDr10
namespace Go.Proofs.YtjicnfkodieaaaaDoor
set_option linter.unusedVariables false
set_option linter.unusedSimpArgs false
open Go.RowKit

theorem within_one (r : Rec) (a i j : Nat) : withinL [r] a i j = if (decide (r.a = a) && r.meets i j) = true then [r] else [] := by
  unfold withinL
  rw [List.filter_cons]
  rfl
theorem found_yes {r : Rec} {a i : Nat} (h1 : r.a = a) (h2 : r.meets i i = true) : foundR [r] a i = r ∧ foundB [r] a i = true := by
  unfold foundR foundB findL
  rw [within_one, if_pos (by rw [decide_eq_true h1, h2]; rfl)]
  exact ⟨rfl, rfl⟩
theorem found_no {r : Rec} {a i : Nat} (h : ¬ r.a = a ∨ r.meets i i = false) : foundR [r] a i = default ∧ foundB [r] a i = false := by
  unfold foundR foundB findL
  rw [within_one, if_neg (by rcases h with h | h <;> simp [h])]
  exact ⟨rfl, rfl⟩
theorem valid_yes {r : Rec} {i : Nat} (h : r.meets i i = true) : validL [r] i = [r] := by unfold validL; rw [List.filter_cons, if_pos h]; rfl
theorem valid_no {r : Rec} {i : Nat} (h : r.meets i i = false) : validL [r] i = [] := by unfold validL; rw [List.filter_cons, if_neg (by rw [h]; decide)]; rfl
theorem why_one {r : Rec} (h1 : r.a < 16) (h2 : r.f ≤ r.t) : whyL [] r = 0 := by unfold whyL withinL; rw [if_neg (by omega)]; rfl
theorem add_one {r : Rec} (h1 : r.a < 16) (h2 : r.f ≤ r.t) : addL [] r = [r] := by unfold addL; rw [if_pos (why_one h1 h2)]; rfl
theorem why_bad {D : List Rec} {r : Rec} (h2 : r.t < r.f) : whyL D r = 1 := by unfold whyL; rw [if_pos (.inr h2)]
theorem add_bad {D : List Rec} {r : Rec} (h : ¬ whyL D r = 0) : addL D r = D := by unfold addL; rw [if_neg h]

set_option maxHeartbeats 8000000 in
set_option maxRecDepth 100000 in
theorem span_walk (r : Rec) (i : Nat) (w : World) (hG : Gl w) (hg0 : 2 ≤ w.heap.size) (hr : r.in32) (hi : i < 4294967296) :
    Calls Tryd.prog 7 #[recV r, .int .u32 (i : Int)] w fun e w' => e = .returned (.bool true) ∧ Below w.heap.size w w' := by
  obtain ⟨a, f, t, l⟩ := r
  obtain ⟨q, hq⟩ : ∃ q, q = a % 16 := ⟨_, rfl⟩
  have hq1 : (a : Int) % 16 = (q : Int) := by omega
  have hq16 : q < 16 := by omega
  have HR : Hid ((⟨q, f, t, l⟩ : Rec).in32) := by unfold Rec.in32 at hr; exact ⟨by show q < _; omega, hr.2.1, hr.2.2.1, hr.2.2.2⟩
  have hf1 : Frm (fun _ => False) w (w.alloc (.cells #[.int .u16 (a : Int), .int .u32 (f : Int), .int .u32 (t : Int), .int .u32 (l : Int)] 37)) := Frm.alloc _ _ _
  have HR1 := hide ((run_start w hG hg0).frm0 hf1)
  have HB1 := hide (Blk.new w 37 #[.int .u16 (a : Int), .int .u32 (f : Int), .int .u32 (t : Int), .int .u32 (l : Int)])
  clear hf1 hG hr hq hi
  simp only [recV, recC]
  go_enter Tryd.func7, Tryd.ntmps7
  go_wp2_with fail
  refine (shown9 w _ HR1.out).mono ?_
  rintro e w1 ⟨rfl, f1⟩
  have HR2 := hide (HR1.out.frm0 f1)
  have HB2 := hide (HB1.out.frm0a f1)
  clear HR1 HB1 f1
  go_wp2_with fail
  refine (lnew w w1 HR2.out).mono ?_
  rintro e w2 ⟨g, bm, rfl, h2, f2, hg2, hb2⟩
  have HB3 := hide (HB2.out.frm0a f2)
  have HL3 := hide h2
  have HNE : Hid (w.heap.size ≠ g ∧ w.heap.size ≠ bm) := by have := HB2.out.lt; exact ⟨by omega, by omega⟩
  have c0 : w2.cell? ⟨w.heap.size, 0, none⟩ = some (.int .u16 (a : Int)) := HB3.out.cell 0
  have z0 : w2.frozen? ⟨w.heap.size, 0, none⟩ = false := HB3.out.frozen 0
  obtain ⟨W, hW⟩ : ∃ W, W = w2.setCell ⟨w.heap.size, 0, none⟩ (.int .u16 (q : Int)) := ⟨_, rfl⟩
  have HBW : Hid (Blk W w.heap.size 37 #[.int .u16 (q : Int), .int .u32 (f : Int), .int .u32 (t : Int), .int .u32 (l : Int)]) := by show Blk _ _ _ _; rw [hW]; exact HB3.out.set 0 (.int .u16 (q : Int))
  have HLW : Hid (Liv w W g bm []) := by
    show Liv _ _ _ _ _
    rw [hW]
    exact HL3.out.frm (Frm.setCell _ _ _ (fun k => k = w.heap.size) rfl) (fun e => HNE.out.1 e.symm) (fun e => HNE.out.2 e.symm) (fun k hk => by omega)
  have cf : (w2.setCell ⟨w.heap.size, 0, none⟩ (.int .u16 (q : Int))).cell? ⟨w.heap.size, 1, none⟩ = some (.int .u32 (f : Int)) := by rw [← hW]; exact HBW.out.cell 1
  have ct : (w2.setCell ⟨w.heap.size, 0, none⟩ (.int .u16 (q : Int))).cell? ⟨w.heap.size, 2, none⟩ = some (.int .u32 (t : Int)) := by rw [← hW]; exact HBW.out.cell 2
  have cq : (w2.setCell ⟨w.heap.size, 0, none⟩ (.int .u16 (q : Int))).cell? ⟨w.heap.size, 0, none⟩ = some (.int .u16 (q : Int)) := by rw [← hW]; exact HBW.out.cell 0
  have cl : (w2.setCell ⟨w.heap.size, 0, none⟩ (.int .u16 (q : Int))).cell? ⟨w.heap.size, 3, none⟩ = some (.int .u32 (l : Int)) := by rw [← hW]; exact HBW.out.cell 3
  have HW := hide hW
  clear h2 f2 hg2 hb2 hW HR2 HB2 HB3 HL3
  by_cases hft : t < f
  · have hft' : (t : Int) < (f : Int) := by omega
    have hw1 := why_bad (D := []) (r := ⟨q, f, t, l⟩) hft
    have hadd := ladd_is HLW.out ⟨q, f, t, l⟩ HR.out 1 [] hw1 (add_bad (by rw [hw1]; decide))
    simp only [recV, recC] at hadd
    have HADD := hide hadd
    clear hadd hw1
    go_wp2_with fail
    rw [← HW.out]
    refine HADD.out.mono ?_
    rintro e w3 ⟨rfl, h3, f3⟩
    have HLEN := hide (llen_is h3 0 rfl)
    have HBEL := hide h3.run.below
    clear h3 f3 cf ct cq cl HADD
    go_wp2_with fail
    refine HLEN.out.mono ?_
    rintro e w4 ⟨rfl, rfl⟩
    go_wp2_with fail
    go_ret
    exact ⟨rfl, HBEL.out⟩
  · have hft' : ¬ (t : Int) < (f : Int) := by omega
    have hadd := ladd_is HLW.out ⟨q, f, t, l⟩ HR.out 0 [⟨q, f, t, l⟩] (why_one hq16 (by show f ≤ t; omega)) (add_one hq16 (by show f ≤ t; omega))
    simp only [recV, recC] at hadd
    have HADD := hide hadd
    clear hadd
    go_wp2_with fail
    rw [← HW.out]
    refine HADD.out.mono ?_
    rintro e w3 ⟨rfl, h3, f3⟩
    have HB3 := hide (HBW.out.frm f3 (fun e => HNE.out.2 e))
    have H3 := hide h3
    have d0 : w3.cell? ⟨w.heap.size, 0, none⟩ = some (.int .u16 (q : Int)) := HB3.out.cell 0
    have HP : Hid ((⟨q, f, t, l⟩ : Rec).a = q) := rfl
    obtain ⟨p, hp⟩ : ∃ p, p = (q + 1) % 16 := ⟨_, rfl⟩
    have hp0 : IntKind.u16.wrap ((q : Int) + 1) = (q : Int) + 1 := by rw [IntKind.wrap_u16]; omega
    have hp1 : ((q : Int) + 1) % 16 = (p : Int) := by omega
    have hpq : ¬ q = p := by omega
    clear hp h3 f3 HADD cf ct cq cl c0 z0 HW HLW HBW
    have HMF : Hid ((⟨q, f, t, l⟩ : Rec).meets f f = true) := by show Rec.meets _ _ _ = true; simp [Rec.meets]; omega
    have HMT : Hid ((⟨q, f, t, l⟩ : Rec).meets t t = true) := by show Rec.meets _ _ _ = true; simp [Rec.meets]; omega
    by_cases h1 : f ≤ i
    · have h1' : (f : Int) ≤ (i : Int) := by omega
      by_cases h2 : i ≤ t
      · have h2' : (i : Int) ≤ (t : Int) := by omega
        have HM : Hid ((⟨q, f, t, l⟩ : Rec).meets i i = true) := by show Rec.meets _ _ _ = true; simp [Rec.meets]; omega
        go_wp2_with fail
        refine (lfind_is H3.out q i ⟨q, f, t, l⟩ true (found_yes rfl HM.out).1 (found_yes rfl HM.out).2).mono ?_
        rintro e w4 ⟨rfl, h4, f4⟩
        have H4 := hide h4
        have HB4 := hide (HB3.out.frm0a f4)
        clear h4 f4 H3 HB3 d0
        simp only [recV, recC]
        go_wp2_with (first
          | ((with_reducible refine wpl_alloca (op := ⟨some 8, _, _, _, _, _⟩) rfl _ rfl _ zeroR ?_); intro g8 w5 hB5 hs5 hF5)
          | ((refine wpl_storea aggR rfl (.tmp 8) (.tmp 51) rfl g8 ([.int .u16 (q : Int), .int .u32 (f : Int), .int .u32 (t : Int), .int .u32 (l : Int)]) rfl rfl _ _ hB5 rfl rfl four_r ?_); intro w6 hB6 hF6; have hF46 := frm_join w4 hF5 hF6 (fun i hi => by omega); have HB6 := hide (HB4.out.frm0a hF46.out); have H6 := hide (H4.out.frm0 hF46.out); have HX6 := hide hB6; have d0 : w6.cell? ⟨w.heap.size, 0, none⟩ = some (.int .u16 (q : Int)) := HB6.out.cell 0; clear hB5 hB6 hF5 hF6 hF46 hs5 H4 HB4))
        refine (lfind_is H6.out p i default false (found_no (.inl hpq)).1 (found_no (.inl hpq)).2).mono ?_
        rintro e w7 ⟨rfl, h7, f7⟩
        have H7 := hide h7
        have HB7 := hide (HB6.out.frm0a f7)
        have HX7 := hide (HX6.out.frm0a f7)
        have d0 : ∀ o, (w7.alloc o).cell? ⟨w.heap.size, 0, none⟩ = some (.int .u16 (q : Int)) := fun o => (HB7.out.frm0a (Frm.alloc w7 o _)).cell 0
        have d1 : ∀ o, (w7.alloc o).cell? ⟨w.heap.size, 1, none⟩ = some (.int .u32 (f : Int)) := fun o => (HB7.out.frm0a (Frm.alloc w7 o _)).cell 1
        clear h7 f7 H6 HB6 HX6
        simp only [recV, recC]
        go_wp2_with fail
        refine (lfind_is (H7.out.frm0 (Frm.alloc _ _ _)) q f ⟨q, f, t, l⟩ true (found_yes rfl HMF.out).1 (found_yes rfl HMF.out).2).mono ?_
        rintro e w8 ⟨rfl, h8, f8⟩
        have H8 := hide h8
        have HB8 := hide ((HB7.out.frm0a (Frm.alloc w7 _ _)).frm0a f8)
        have HX8 := hide ((HX7.out.frm0a (Frm.alloc w7 _ _)).frm0a f8)
        clear d0 d1 h8 f8 H7 HB7 HX7
        have d0 : ∀ o, (w8.alloc o).cell? ⟨w.heap.size, 0, none⟩ = some (.int .u16 (q : Int)) := fun o => (HB8.out.frm0a (Frm.alloc w8 o _)).cell 0
        have d2 : ∀ o, (w8.alloc o).cell? ⟨w.heap.size, 2, none⟩ = some (.int .u32 (t : Int)) := fun o => (HB8.out.frm0a (Frm.alloc w8 o _)).cell 2
        simp only [recV, recC]
        go_wp2_with fail
        refine (lfind_is (H8.out.frm0 (Frm.alloc _ _ _)) q t ⟨q, f, t, l⟩ true (found_yes rfl HMT.out).1 (found_yes rfl HMT.out).2).mono ?_
        rintro e w9 ⟨rfl, h9, f9⟩
        have H9 := hide h9
        have HB9 := hide ((HB8.out.frm0a (Frm.alloc w8 _ _)).frm0a f9)
        have HX9 := hide ((HX8.out.frm0a (Frm.alloc w8 _ _)).frm0a f9)
        clear d0 d2 h9 f9 H8 HB8 HX8
        have d0 : ∀ o, (w9.alloc o).cell? ⟨w.heap.size, 0, none⟩ = some (.int .u16 (q : Int)) := fun o => (HB9.out.frm0a (Frm.alloc w9 o _)).cell 0
        have d1 : ∀ o, (w9.alloc o).cell? ⟨w.heap.size, 1, none⟩ = some (.int .u32 (f : Int)) := fun o => (HB9.out.frm0a (Frm.alloc w9 o _)).cell 1
        have d2 : ∀ o, (w9.alloc o).cell? ⟨w.heap.size, 2, none⟩ = some (.int .u32 (t : Int)) := fun o => (HB9.out.frm0a (Frm.alloc w9 o _)).cell 2
        have d3 : ∀ o, (w9.alloc o).cell? ⟨w.heap.size, 3, none⟩ = some (.int .u32 (l : Int)) := fun o => (HB9.out.frm0a (Frm.alloc w9 o _)).cell 3
        have e0 : ∀ o, (w9.alloc o).cell? ⟨g8, 0, none⟩ = some (.int .u16 (q : Int)) := fun o => (HX9.out.frm0a (Frm.alloc w9 o _)).cell 0
        have e1 : ∀ o, (w9.alloc o).cell? ⟨g8, 1, none⟩ = some (.int .u32 (f : Int)) := fun o => (HX9.out.frm0a (Frm.alloc w9 o _)).cell 1
        have e2 : ∀ o, (w9.alloc o).cell? ⟨g8, 2, none⟩ = some (.int .u32 (t : Int)) := fun o => (HX9.out.frm0a (Frm.alloc w9 o _)).cell 2
        have e3 : ∀ o, (w9.alloc o).cell? ⟨g8, 3, none⟩ = some (.int .u32 (l : Int)) := fun o => (HX9.out.frm0a (Frm.alloc w9 o _)).cell 3
        simp only [recV, recC]
        have HVAL := hide (fun o => lvalid (H9.out.frm0 (Frm.alloc w9 o _)) i)
        go_wp2_with fail
        refine (HVAL.out _).mono ?_
        rintro e w10 ⟨A, n, c, rfl, ho, h10, f10⟩
        have hn := ho.len
        rw [valid_yes HM.out] at hn
        obtain rfl : n = 1 := hn.symm
        have HBEL := hide h10.run.below
        clear HVAL d0 d1 d2 d3 h10 f10 ho hn H9 HB9 HX9
        go_wp2_with fail
        go_ret
        exact ⟨rfl, HBEL.out⟩
      · have h2' : ¬ (i : Int) ≤ (t : Int) := by omega
        have HM : Hid ((⟨q, f, t, l⟩ : Rec).meets i i = false) := by show Rec.meets _ _ _ = false; simp [Rec.meets]; omega
        go_wp2_with fail
        refine (lfind_is H3.out q i default false (found_no (.inr HM.out)).1 (found_no (.inr HM.out)).2).mono ?_
        rintro e w4 ⟨rfl, h4, f4⟩
        have H4 := hide h4
        have HB4 := hide (HB3.out.frm0a f4)
        clear h4 f4 H3 HB3 d0
        simp only [recV]
        go_wp2_with (first
          | ((with_reducible refine wpl_alloca (op := ⟨some 8, _, _, _, _, _⟩) rfl _ rfl _ zeroR ?_); intro g8 w5 hB5 hs5 hF5)
          | ((refine wpl_storea aggR rfl (.tmp 8) (.tmp 51) rfl g8 (recC default) rfl rfl _ _ hB5 rfl rfl (recC_one _) ?_); intro w6 hB6 hF6; have hF46 := frm_join w4 hF5 hF6 (fun i hi => by omega); have HB6 := hide (HB4.out.frm0a hF46.out); have H6 := hide (H4.out.frm0 hF46.out); have HX6 := hide hB6; have d0 : w6.cell? ⟨w.heap.size, 0, none⟩ = some (.int .u16 (q : Int)) := HB6.out.cell 0; clear hB5 hB6 hF5 hF6 hF46 hs5 H4 HB4))
        refine (lfind_is H6.out p i default false (found_no (.inl hpq)).1 (found_no (.inl hpq)).2).mono ?_
        rintro e w7 ⟨rfl, h7, f7⟩
        have H7 := hide h7
        have HB7 := hide (HB6.out.frm0a f7)
        have HX7 := hide (HX6.out.frm0a f7)
        have d0 : ∀ o, (w7.alloc o).cell? ⟨w.heap.size, 0, none⟩ = some (.int .u16 (q : Int)) := fun o => (HB7.out.frm0a (Frm.alloc w7 o _)).cell 0
        have d1 : ∀ o, (w7.alloc o).cell? ⟨w.heap.size, 1, none⟩ = some (.int .u32 (f : Int)) := fun o => (HB7.out.frm0a (Frm.alloc w7 o _)).cell 1
        clear h7 f7 H6 HB6 HX6
        simp only [recV, recC]
        go_wp2_with fail
        refine (lfind_is (H7.out.frm0 (Frm.alloc _ _ _)) q f ⟨q, f, t, l⟩ true (found_yes rfl HMF.out).1 (found_yes rfl HMF.out).2).mono ?_
        rintro e w8 ⟨rfl, h8, f8⟩
        have H8 := hide h8
        have HB8 := hide ((HB7.out.frm0a (Frm.alloc w7 _ _)).frm0a f8)
        have HX8 := hide ((HX7.out.frm0a (Frm.alloc w7 _ _)).frm0a f8)
        clear d0 d1 h8 f8 H7 HB7 HX7
        have d0 : ∀ o, (w8.alloc o).cell? ⟨w.heap.size, 0, none⟩ = some (.int .u16 (q : Int)) := fun o => (HB8.out.frm0a (Frm.alloc w8 o _)).cell 0
        have d2 : ∀ o, (w8.alloc o).cell? ⟨w.heap.size, 2, none⟩ = some (.int .u32 (t : Int)) := fun o => (HB8.out.frm0a (Frm.alloc w8 o _)).cell 2
        simp only [recV, recC]
        go_wp2_with fail
        refine (lfind_is (H8.out.frm0 (Frm.alloc _ _ _)) q t ⟨q, f, t, l⟩ true (found_yes rfl HMT.out).1 (found_yes rfl HMT.out).2).mono ?_
        rintro e w9 ⟨rfl, h9, f9⟩
        have H9 := hide h9
        have HB9 := hide ((HB8.out.frm0a (Frm.alloc w8 _ _)).frm0a f9)
        have HX9 := hide ((HX8.out.frm0a (Frm.alloc w8 _ _)).frm0a f9)
        clear d0 d2 h9 f9 H8 HB8 HX8
        have d0 : ∀ o, (w9.alloc o).cell? ⟨w.heap.size, 0, none⟩ = some (.int .u16 (q : Int)) := fun o => (HB9.out.frm0a (Frm.alloc w9 o _)).cell 0
        have d1 : ∀ o, (w9.alloc o).cell? ⟨w.heap.size, 1, none⟩ = some (.int .u32 (f : Int)) := fun o => (HB9.out.frm0a (Frm.alloc w9 o _)).cell 1
        have d2 : ∀ o, (w9.alloc o).cell? ⟨w.heap.size, 2, none⟩ = some (.int .u32 (t : Int)) := fun o => (HB9.out.frm0a (Frm.alloc w9 o _)).cell 2
        have d3 : ∀ o, (w9.alloc o).cell? ⟨w.heap.size, 3, none⟩ = some (.int .u32 (l : Int)) := fun o => (HB9.out.frm0a (Frm.alloc w9 o _)).cell 3
        simp only [recV, recC]
        have HVAL := hide (fun o => lvalid (H9.out.frm0 (Frm.alloc w9 o _)) i)
        go_wp2_with fail
        refine (HVAL.out _).mono ?_
        rintro e w10 ⟨A, n, c, rfl, ho, h10, f10⟩
        have hn := ho.len
        rw [valid_no HM.out] at hn
        obtain rfl : n = 0 := hn.symm
        have HBEL := hide h10.run.below
        clear HVAL d0 d1 d2 d3 h10 f10 ho hn H9 HB9 HX9
        go_wp2_with fail
        go_ret
        exact ⟨rfl, HBEL.out⟩
    · have h1' : ¬ (f : Int) ≤ (i : Int) := by omega
      have HM : Hid ((⟨q, f, t, l⟩ : Rec).meets i i = false) := by show Rec.meets _ _ _ = false; simp [Rec.meets]; omega
      go_wp2_with fail
      refine (lfind_is H3.out q i default false (found_no (.inr HM.out)).1 (found_no (.inr HM.out)).2).mono ?_
      rintro e w4 ⟨rfl, h4, f4⟩
      have H4 := hide h4
      have HB4 := hide (HB3.out.frm0a f4)
      clear h4 f4 H3 HB3 d0
      simp only [recV]
      go_wp2_with (first
        | ((with_reducible refine wpl_alloca (op := ⟨some 8, _, _, _, _, _⟩) rfl _ rfl _ zeroR ?_); intro g8 w5 hB5 hs5 hF5)
        | ((refine wpl_storea aggR rfl (.tmp 8) (.tmp 51) rfl g8 (recC default) rfl rfl _ _ hB5 rfl rfl (recC_one _) ?_); intro w6 hB6 hF6; have hF46 := frm_join w4 hF5 hF6 (fun i hi => by omega); have HB6 := hide (HB4.out.frm0a hF46.out); have H6 := hide (H4.out.frm0 hF46.out); have HX6 := hide hB6; have d0 : w6.cell? ⟨w.heap.size, 0, none⟩ = some (.int .u16 (q : Int)) := HB6.out.cell 0; clear hB5 hB6 hF5 hF6 hF46 hs5 H4 HB4))
      refine (lfind_is H6.out p i default false (found_no (.inl hpq)).1 (found_no (.inl hpq)).2).mono ?_
      rintro e w7 ⟨rfl, h7, f7⟩
      have H7 := hide h7
      have HB7 := hide (HB6.out.frm0a f7)
      have HX7 := hide (HX6.out.frm0a f7)
      have d0 : ∀ o, (w7.alloc o).cell? ⟨w.heap.size, 0, none⟩ = some (.int .u16 (q : Int)) := fun o => (HB7.out.frm0a (Frm.alloc w7 o _)).cell 0
      have d1 : ∀ o, (w7.alloc o).cell? ⟨w.heap.size, 1, none⟩ = some (.int .u32 (f : Int)) := fun o => (HB7.out.frm0a (Frm.alloc w7 o _)).cell 1
      clear h7 f7 H6 HB6 HX6
      simp only [recV, recC]
      go_wp2_with fail
      refine (lfind_is (H7.out.frm0 (Frm.alloc _ _ _)) q f ⟨q, f, t, l⟩ true (found_yes rfl HMF.out).1 (found_yes rfl HMF.out).2).mono ?_
      rintro e w8 ⟨rfl, h8, f8⟩
      have H8 := hide h8
      have HB8 := hide ((HB7.out.frm0a (Frm.alloc w7 _ _)).frm0a f8)
      have HX8 := hide ((HX7.out.frm0a (Frm.alloc w7 _ _)).frm0a f8)
      clear d0 d1 h8 f8 H7 HB7 HX7
      have d0 : ∀ o, (w8.alloc o).cell? ⟨w.heap.size, 0, none⟩ = some (.int .u16 (q : Int)) := fun o => (HB8.out.frm0a (Frm.alloc w8 o _)).cell 0
      have d2 : ∀ o, (w8.alloc o).cell? ⟨w.heap.size, 2, none⟩ = some (.int .u32 (t : Int)) := fun o => (HB8.out.frm0a (Frm.alloc w8 o _)).cell 2
      simp only [recV, recC]
      go_wp2_with fail
      refine (lfind_is (H8.out.frm0 (Frm.alloc _ _ _)) q t ⟨q, f, t, l⟩ true (found_yes rfl HMT.out).1 (found_yes rfl HMT.out).2).mono ?_
      rintro e w9 ⟨rfl, h9, f9⟩
      have H9 := hide h9
      have HB9 := hide ((HB8.out.frm0a (Frm.alloc w8 _ _)).frm0a f9)
      have HX9 := hide ((HX8.out.frm0a (Frm.alloc w8 _ _)).frm0a f9)
      clear d0 d2 h9 f9 H8 HB8 HX8
      have d0 : ∀ o, (w9.alloc o).cell? ⟨w.heap.size, 0, none⟩ = some (.int .u16 (q : Int)) := fun o => (HB9.out.frm0a (Frm.alloc w9 o _)).cell 0
      have d1 : ∀ o, (w9.alloc o).cell? ⟨w.heap.size, 1, none⟩ = some (.int .u32 (f : Int)) := fun o => (HB9.out.frm0a (Frm.alloc w9 o _)).cell 1
      have d2 : ∀ o, (w9.alloc o).cell? ⟨w.heap.size, 2, none⟩ = some (.int .u32 (t : Int)) := fun o => (HB9.out.frm0a (Frm.alloc w9 o _)).cell 2
      have d3 : ∀ o, (w9.alloc o).cell? ⟨w.heap.size, 3, none⟩ = some (.int .u32 (l : Int)) := fun o => (HB9.out.frm0a (Frm.alloc w9 o _)).cell 3
      simp only [recV, recC]
      have HVAL := hide (fun o => lvalid (H9.out.frm0 (Frm.alloc w9 o _)) i)
      go_wp2_with fail
      refine (HVAL.out _).mono ?_
      rintro e w10 ⟨A, n, c, rfl, ho, h10, f10⟩
      have hn := ho.len
      rw [valid_no HM.out] at hn
      obtain rfl : n = 0 := hn.symm
      have HBEL := hide h10.run.below
      clear HVAL d0 d1 d2 d3 h10 f10 ho hn H9 HB9 HX9
      go_wp2_with fail
      go_ret
      exact ⟨rfl, HBEL.out⟩
end Go.Proofs.YtjicnfkodieaaaaDoor
