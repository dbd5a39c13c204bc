/-
  HeapOwn's walk: whatever comes in, the law returns true, and what lay lies as it lay.
-/
import Derived.Test.YtjpmicjlbkdcbaaHqO
namespace Go.Proofs.Ytjpmicjlbkdcbaa
set_option linter.unusedVariables false
set_option linter.unusedSimpArgs false
open Go.RowKit hI

theorem frm_join {w w1 w2 : World} {g : Nat} (h : Frm (fun _ => False) w w1) (hg : w.heap.size ≤ g) (k : Frm (fun i => i = g) w1 w2) : Frm (fun _ => False) w w2 := h.trans k (fun i hi e => by omega)
set_option maxHeartbeats 8000000 in
set_option maxRecDepth 100000 in
theorem own_walk (A : Option Addr) (len cap : Nat) (l : List Stp) (A1 : Option Addr) (len1 cap1 : Nat) (b : Nat → Bool) (w : World) (h : SRow w A len l) (hlc : len ≤ cap) (hcm : cap ≤ 9223372036854775807)
    (h1 : 0 < len1 → ∃ a, A1 = some a ∧ ∀ i, i < len1 → w.cell? (a.add i) = some (.bool (b i))) (hlc1 : len1 ≤ cap1) (hcm1 : cap1 ≤ 9223372036854775807) :
    Calls Try.prog 8 #[.slice A len cap, .slice A1 len1 cap1] w fun e w' => e = .returned (.bool true) ∧ Below w.heap.size w w' := by
  have H0 := hide h
  have H1 := hide h1
  clear h h1
  have HSH := hide (fun W (h : Below w.heap.size w W) => shown_from (w0 := w) (w := W) h)
  go_enter Try.func8, Try.ntmps8
  go_wp2_with (first
    | (go_at_call 9; refine (HSH.out _ (Below.refl _ w)).mono ?_; rintro e w1 ⟨rfl, hb1⟩; have HB1 := hide hb1; clear hb1)
    | (go_at_call 10; refine (LH.new HB1.out 9).mono ?_; rintro e w2 ⟨ga, rfl, h2⟩; have HA := hide h2; clear h2 HB1)
    | (go_at_call 10; refine (H2.new HA.out 9).mono ?_; rintro e w3 ⟨gb, rfl, h2⟩; have HB := hide h2; clear h2 HA)
    | (go_at_call 10; refine (H3.new HB.out 9).mono ?_; rintro e w4 ⟨gc, rfl, h2⟩; have HC := hide h2; clear h2 HB))
  go_loopw [9, 10, 11, 12, 13, 14, 15, 16, 17, 18, 19, 20, 21] (fun i _ _ _ _ _ _ _ _ _ _ _ _ wr => ∃ (k : Nat) (q qb : Qu), k ≤ Nat.min len 100 ∧ i = .int .i64 (k : Int) ∧ H3 w wr ga gb gc q qb q ∧ OwnI k q ∧ OwnI k qb) (fun i _ _ _ _ _ _ _ _ _ _ _ _ _ => 100 - (intOf i).toNat)
  case atStart => exact ⟨0, _, _, by omega, rfl, HC.out, ⟨Nat.le_refl _, Nat.le_refl _⟩, ⟨Nat.le_refl _, Nat.le_refl _⟩⟩
  case round =>
    clear HC
    obtain ⟨k, q, qb, hk, rfl, hH, hF, hG⟩ := hrel
    have HH := hide hH
    have HF := hide hF
    have HG := hide hG
    have hmn : Nat.min len 100 ≤ len := Nat.min_le_left _ _
    have hmx : Nat.min len 100 ≤ 100 := Nat.min_le_right _ _
    have hqn := hF.num
    have hql := hF.len
    have hbn := hG.num
    have hbl := hG.len
    clear hH hF hG
    by_cases hkn : k < Nat.min len 100
    · have hkl : (k : Int) < (len : Int) := by omega
      have hk1 : (k : Int) < 100 := by omega
      have hk2 : k < 100 := by omega
      obtain ⟨p, rfl, hx64, HAT⟩ := H0.out.at (show k < len by omega)
      obtain ⟨x, hx⟩ : ∃ x, x = l.getD k default := ⟨_, rfl⟩
      rw [← hx] at hx64 HAT
      have HCX := hide (HAT wr HH.out.1)
      clear hx HAT
      have hqn5 : q.num ≤ 50000 := by omega
      have hql5 : q.S.length ≤ 50000 := by omega
      have hbn5 : qb.num ≤ 50000 := by omega
      have hbl5 : qb.S.length ≤ 50000 := by omega
      have HUP := hide HF.out.up
      have HUPB := hide HG.out.up
      have HNB1 := hide (HG.out.push (t := x.t) (x := x.x))
      have HNB2 := hide (HG.out.pop (now := x.t))
      have HNA1 := hide (HF.out.push (t := x.t) (x := x.x))
      have HNA2 := hide (HF.out.pop (now := x.t))
      have hor : (∃ p1, A1 = some p1 ∧ (k : Int) < (len1 : Int) ∧ k < len1 ∧ Hid (∀ W, Below w.heap.size w W → W.cell? (p1.add k) = some (.bool true))) ∨ (¬ (k : Int) < (len1 : Int)) ∨ (∃ p1, A1 = some p1 ∧ (k : Int) < (len1 : Int) ∧ k < len1 ∧ Hid (∀ W, Below w.heap.size w W → W.cell? (p1.add k) = some (.bool false))) := by
        by_cases h : k < len1
        · obtain ⟨p1, hp, hc⟩ := H1.out (by omega)
          have hc1 := hc k h
          have hc2 : ∀ W, Below w.heap.size w W → W.cell? (p1.add k) = some (.bool (b k)) := fun W f => by rw [f.cell (World.block_lt_of_cell? w _ hc1)]; exact hc1
          cases hbk : b k with
          | true => rw [hbk] at hc2; exact .inl ⟨p1, hp, by omega, h, hc2⟩
          | false => rw [hbk] at hc2; exact .inr (.inr ⟨p1, hp, by omega, h, hc2⟩)
        · exact .inr (.inl (by omega))
      clear hqn hql hbn hbl HF HG
      by_cases hkk : x.k ≤ 2
      · rcases hor with ⟨p1, rfl, g1, g2, HB⟩ | g1 | ⟨p1, rfl, g1, g2, HB⟩
        · go_wp2_with (first
            | (with_reducible refine wpl_loadc aggSt (op := ⟨some 49, _, _, _, _, _⟩) rfl (.tmp 48) rfl (p.add (k * 3)) rfl (stC x) (stC_length x) HCX.out ?_)
            | ((with_reducible refine wpl_alloca (op := ⟨some 10, _, _, _, _, _⟩) rfl _ rfl _ zeroSt ?_); intro gx w5 hB5 hs5 hF5)
            | ((refine wpl_storea aggSt rfl (.tmp 10) (.tmp 49) rfl gx (stC x) rfl rfl _ _ hB5 (stC_length x) rfl (stC_one x) ?_); intro w6 hB6 hF6; have HX := hide (HH.out.frm0 (frm_join hF5 hs5 hF6)); have HBX := hide hB6; have d0 := hB6.cell 0; have d1 := hB6.cell 1; have d2 := hB6.cell 2; simp only [stC, List.getElem?_toArray, List.getElem?_cons_zero, List.getElem?_cons_succ] at d0 d1 d2; try (have cb := HB.out w6 HX.out.1); clear HH HCX hB5 hs5 hF5 hF6 hB6)
            | (go_at_call 12; refine (H3.push HX.out.rot x.t x.x hx64 hbl5 hbn5).mono ?_; rintro e w7 ⟨rfl, h7, hk7⟩; have HR := hide h7.rot.rot; clear h7))
          go_roundw
          case rel => exact ⟨k + 1, q, _, by omega, by go_num, HR.out, HUP.out, HNB1.out⟩
          case measure => simp [intOf]; omega
        all_goals
          go_wp2_with (first
            | (with_reducible refine wpl_loadc aggSt (op := ⟨some 49, _, _, _, _, _⟩) rfl (.tmp 48) rfl (p.add (k * 3)) rfl (stC x) (stC_length x) HCX.out ?_)
            | ((with_reducible refine wpl_alloca (op := ⟨some 10, _, _, _, _, _⟩) rfl _ rfl _ zeroSt ?_); intro gx w5 hB5 hs5 hF5)
            | ((refine wpl_storea aggSt rfl (.tmp 10) (.tmp 49) rfl gx (stC x) rfl rfl _ _ hB5 (stC_length x) rfl (stC_one x) ?_); intro w6 hB6 hF6; have HX := hide (HH.out.frm0 (frm_join hF5 hs5 hF6)); have HBX := hide hB6; have d0 := hB6.cell 0; have d1 := hB6.cell 1; have d2 := hB6.cell 2; simp only [stC, List.getElem?_toArray, List.getElem?_cons_zero, List.getElem?_cons_succ] at d0 d1 d2; try (have cb := HB.out w6 HX.out.1); clear HH HCX hB5 hs5 hF5 hF6 hB6)
            | (go_at_call 12; refine (H3.push HX.out x.t x.x hx64 hql5 hqn5).mono ?_; rintro e w7 ⟨he, h7, hk7⟩; obtain ⟨n, er, hpv⟩ := pushV_form q; rw [hpv] at he; subst he; have HPV := hide hpv; clear hpv; have HY := hide h7; have hB7 := hk7 _ _ _ (by decide) (by decide) HBX.out; have d3 := hB7.cell 0; have d4 := hB7.cell 1; have d5 := hB7.cell 2; simp only [stC, List.getElem?_toArray, List.getElem?_cons_zero, List.getElem?_cons_succ] at d3 d4 d5; clear hB7; clear h7 hk7 HX HBX)
            | (go_at_call 12; refine (H3.push HY.out.rot.rot x.t x.x hx64 hql5 hqn5).mono ?_; rintro e w8 ⟨he, h8, hk8⟩; rw [HPV.out] at he; subst he; have HR := hide h8.rot; clear h8))
          go_roundw
          case rel => exact ⟨k + 1, _, qb, by omega, by go_num, HR.out, HNA1.out, HUPB.out⟩
          case measure => simp [intOf]; omega
      · rcases hor with ⟨p1, rfl, g1, g2, HB⟩ | g1 | ⟨p1, rfl, g1, g2, HB⟩
        · go_wp2_with (first
            | (with_reducible refine wpl_loadc aggSt (op := ⟨some 49, _, _, _, _, _⟩) rfl (.tmp 48) rfl (p.add (k * 3)) rfl (stC x) (stC_length x) HCX.out ?_)
            | ((with_reducible refine wpl_alloca (op := ⟨some 10, _, _, _, _, _⟩) rfl _ rfl _ zeroSt ?_); intro gx w5 hB5 hs5 hF5)
            | ((refine wpl_storea aggSt rfl (.tmp 10) (.tmp 49) rfl gx (stC x) rfl rfl _ _ hB5 (stC_length x) rfl (stC_one x) ?_); intro w6 hB6 hF6; have HX := hide (HH.out.frm0 (frm_join hF5 hs5 hF6)); have HBX := hide hB6; have d0 := hB6.cell 0; have d1 := hB6.cell 1; have d2 := hB6.cell 2; simp only [stC, List.getElem?_toArray, List.getElem?_cons_zero, List.getElem?_cons_succ] at d0 d1 d2; try (have cb := HB.out w6 HX.out.1); clear HH HCX hB5 hs5 hF5 hF6 hB6)
            | (go_at_call 14; refine (H3.pop HX.out.rot x.t hbl5).mono ?_; rintro e w7 ⟨rfl, h7, hk7⟩; have HR := hide h7.rot.rot; clear h7))
          go_roundw
          case rel => exact ⟨k + 1, q, _, by omega, by go_num, HR.out, HUP.out, HNB2.out⟩
          case measure => simp [intOf]; omega
        all_goals
          go_wp2_with (first
            | (with_reducible refine wpl_loadc aggSt (op := ⟨some 49, _, _, _, _, _⟩) rfl (.tmp 48) rfl (p.add (k * 3)) rfl (stC x) (stC_length x) HCX.out ?_)
            | ((with_reducible refine wpl_alloca (op := ⟨some 10, _, _, _, _, _⟩) rfl _ rfl _ zeroSt ?_); intro gx w5 hB5 hs5 hF5)
            | ((refine wpl_storea aggSt rfl (.tmp 10) (.tmp 49) rfl gx (stC x) rfl rfl _ _ hB5 (stC_length x) rfl (stC_one x) ?_); intro w6 hB6 hF6; have HX := hide (HH.out.frm0 (frm_join hF5 hs5 hF6)); have HBX := hide hB6; have d0 := hB6.cell 0; have d1 := hB6.cell 1; have d2 := hB6.cell 2; simp only [stC, List.getElem?_toArray, List.getElem?_cons_zero, List.getElem?_cons_succ] at d0 d1 d2; try (have cb := HB.out w6 HX.out.1); clear HH HCX hB5 hs5 hF5 hF6 hB6)
            | (go_at_call 14; refine (H3.pop HX.out x.t hql5).mono ?_; rintro e w7 ⟨he, h7, hk7⟩; obtain ⟨n, er, bo, hpv⟩ := popV_form q x.t; rw [hpv] at he; subst he; have HPV := hide hpv; clear hpv; have HY := hide h7; have hB7 := hk7 _ _ _ (by decide) (by decide) HBX.out; have d3 := hB7.cell 0; have d4 := hB7.cell 1; have d5 := hB7.cell 2; simp only [stC, List.getElem?_toArray, List.getElem?_cons_zero, List.getElem?_cons_succ] at d3 d4 d5; clear hB7; clear h7 hk7 HX HBX)
            | (go_at_call 14; refine (H3.pop HY.out.rot.rot x.t hql5).mono ?_; rintro e w8 ⟨he, h8, hk8⟩; rw [HPV.out] at he; subst he; have HR := hide h8.rot; clear h8))
          go_roundw
          case rel => exact ⟨k + 1, _, qb, by omega, by go_num, HR.out, HNA2.out, HUPB.out⟩
          case measure => simp [intOf]; omega
    · have hex : (¬ (k : Int) < (len : Int)) ∨ ((k : Int) < (len : Int) ∧ ¬ (k : Int) < 100) := by
        by_cases h1 : k < len
        · right
          have : Nat.min len 100 = min len 100 := rfl
          omega
        · exact .inl (by omega)
      clear HF HG hkn hmn hmx hk hqn hql hbn hbl
      rcases hex with hex | ⟨hex, hex2⟩
      all_goals
        go_wp2_with (first
          | (go_at_call 18; refine (H3.len HH.out).mono ?_; rintro e w3 ⟨rfl, hw3⟩; replace hw3 := hw3.symm; subst hw3; have HL := hide HH.out.rot.rot)
          | (go_at_call 18; refine (H3.len HL.out).mono ?_; rintro e w3 ⟨rfl, hw3⟩; replace hw3 := hw3.symm; subst hw3))
        go_ret
        exact ⟨rfl, HH.out.1⟩
end Go.Proofs.Ytjpmicjlbkdcbaa
