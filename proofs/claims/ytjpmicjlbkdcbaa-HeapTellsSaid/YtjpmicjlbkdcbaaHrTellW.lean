/-
  HeapTells' walk: whatever comes in, the law returns true, and what lay lies as it lay.
-/
import Derived.Test.YtjpmicjlbkdcbaaHrT
import Derived.BigQuiet
import Derived.StillTailTactics
namespace Go.Proofs.Ytjpmicjlbkdcbaa
set_option linter.unusedVariables false
set_option linter.unusedSimpArgs false
open Go.RowKit hI

set_option maxHeartbeats 8000000 in
set_option maxRecDepth 100000 in
theorem htells_walk (m : Int) (A : Option Addr) (len cap : Nat) (l : List Stp) (w : World) (h : SRow w A len l) (hlc : len ≤ cap) (hcm : cap ≤ 9223372036854775807) :
    Calls Try.prog 3 #[.int .i64 m, .slice A len cap] w fun e w' => e = .returned (.bool true) ∧ Below w.heap.size w w' := by
  have H0 := hide h
  clear h
  have HSH := hide (fun W (h : Below w.heap.size w W) => shown_from (w0 := w) (w := W) h)
  go_enter Try.func3, Try.ntmps3
  go_wp2_with (first
    | (go_at_call 9; refine (HSH.out _ (Below.refl _ w)).mono ?_; rintro e w1 ⟨rfl, hb1⟩; have HB1 := hide hb1; clear hb1)
    | (go_at_call 10; refine (LH.new HB1.out m).mono ?_; rintro e w2 ⟨ga, rfl, h2⟩; have HA := hide h2; clear h2 HB1)
    | (go_at_call 11; refine (T2.new HA.out m).mono ?_; rintro e w3 ⟨gb, rfl, h2⟩; have HB := hide h2; clear h2 HA))
  go_loopw [8, 9, 10, 11, 12, 13, 14, 15, 16, 17, 18, 19, 20, 21, 22, 23] (fun i _ _ _ _ _ _ _ _ _ _ _ _ _ _ _ wr => ∃ (k : Nat) (q : Qu), k ≤ Nat.min len 300 ∧ i = .int .i64 (k : Int) ∧ T2 w wr ga gb q q ∧ OwnI k q) (fun i _ _ _ _ _ _ _ _ _ _ _ _ _ _ _ _ => 300 - (intOf i).toNat)
  case atStart => exact ⟨0, _, by omega, rfl, HB.out, ⟨Nat.le_refl _, Nat.le_refl _⟩⟩
  case round =>
    clear HB
    obtain ⟨k, q, hk, rfl, hH, hF⟩ := hrel
    have HH := hide hH
    have HF := hide hF
    have hmn : Nat.min len 300 ≤ len := Nat.min_le_left _ _
    have hmx : Nat.min len 300 ≤ 300 := Nat.min_le_right _ _
    have hqn := hF.num
    have hql := hF.len
    clear hH hF
    by_cases hkn : k < Nat.min len 300
    · have hkl : (k : Int) < (len : Int) := by omega
      have hk1 : (k : Int) < 300 := by omega
      have hk2 : k < 300 := by omega
      obtain ⟨p, rfl, hx64, HAT⟩ := H0.out.at (show k < len by omega)
      obtain ⟨x, hx⟩ : ∃ x, x = l.getD k default := ⟨_, rfl⟩
      rw [← hx] at hx64 HAT
      have HCX := hide (HAT wr HH.out.1)
      clear hx HAT
      have hqn5 : q.num ≤ 50000 := by omega
      have hql5 : q.S.length ≤ 50000 := by omega
      have HNA1 := hide (HF.out.push (t := x.t) (x := x.x))
      have HNA2 := hide (HF.out.pop (now := x.t))
      clear hqn hql HF
      by_cases hkk : x.k ≤ 2
      · obtain ⟨q2, hq2⟩ : ∃ q2, q2 = q.push x.t x.x := ⟨_, rfl⟩
        have HQQ := hide hq2.symm
        have HNA := hide (HNA1.out)
        rw [← hq2] at HNA
        have hq5 : q2.S.length ≤ 50000 := by have := HNA.out.len; omega
        clear hq2 HNA1 HNA2
        rcases hQ : q2.S with _ | ⟨s, S⟩
        · have HNV : Hid (hI.nextV q2 = #[.int .u64 0, .bool false]) := by show _ = _; unfold hI.nextV; rw [hQ]
          have HQS := hide hQ
          have hm1 : ¬ (0 : Int) ≤ -1 := by decide
          clear hQ
          go_wp2_with (first
            | (with_reducible refine wpl_loadc aggSt (op := ⟨some 44, _, _, _, _, _⟩) rfl (.tmp 43) rfl (p.add (k * 3)) rfl (stC x) (stC_length x) HCX.out ?_)
            | ((with_reducible refine wpl_alloca (op := ⟨some 9, _, _, _, _, _⟩) rfl _ rfl _ zeroSt ?_); intro gx w5 hB5 hs5 hF5)
            | ((refine wpl_storea aggSt rfl (.tmp 9) (.tmp 44) rfl gx (stC x) rfl rfl _ _ hB5 (stC_length x) rfl (stC_one x) ?_); intro w6 hB6 hF6; have HX := hide (HH.out.frm0 (frm_fs wr hF5 hF6 (fun i e => e ▸ hs5))); have HBX := hide hB6; have d0 := hB6.cell 0; have d1 := hB6.cell 1; have d2 := hB6.cell 2; simp only [stC, List.getElem?_toArray, List.getElem?_cons_zero, List.getElem?_cons_succ] at d0 d1 d2; clear HH HCX hB5 hs5 hF5 hF6 hB6)
            | (go_at_call 12; refine (T2.push1 HX.out x.t x.x hx64 hql5 hqn5).mono ?_; rintro e w7 ⟨he, h7, hk7⟩; obtain ⟨n1, er, hpv⟩ := pushV_form q; rw [hpv] at he; subst he; have HPV := hide hpv; clear hpv; have HY := hide h7; have hB7 := hk7 _ _ _ (by decide) (by decide) HBX.out; have d3 := hB7.cell 0; have d4 := hB7.cell 1; have d5 := hB7.cell 2; simp only [stC, List.getElem?_toArray, List.getElem?_cons_zero, List.getElem?_cons_succ] at d3 d4 d5; clear hB7 d0 d1 d2; clear h7 hk7 HX HBX)
            | (go_at_call 13; refine (T2.push2 HY.out x.t x.x hx64 hql5 hqn5).mono ?_; rintro e w8 ⟨he, h8⟩; rw [HPV.out] at he; subst he; rw [HQQ.out] at h8; have HZ := hide h8; clear h8 HY d3 d4 d5)
            | (go_at_call 16; refine (T2.next HZ.out).mono ?_; rintro e w9 ⟨he, hw9⟩; rw [HNV.out] at he; subst he; replace hw9 := hw9.symm; subst hw9)
            | (go_at_call 17; refine (T2.first_nil HZ.out HQS.out).mono ?_; rintro e w10 ⟨rfl, h10, A1, c1, hc1⟩; have HW := hide h10; have HL : Hid (∀ j, Calls Try.prog 18 #[.pointer (some ⟨ga, 0, none⟩)] (w10.drewN j) fun e w' => e = .returned (.int .i64 0) ∧ w' = w10.drewN j) := (fun j => by have := h10.len j; rw [HQS.out] at this; exact this); clear h10 HZ))
          go_quiet ((go_at_call 18; exact quiet_same ((HL.out _).mono fun _ _ ⟨a, b⟩ => ⟨a, b.symm⟩)))
          go_wp2_with fail
          go_roundw
          case rel => exact ⟨k + 1, q2, by omega, by go_num, HW.out.frm0 ((Frm.refl _ _).drewN _), HNA.out⟩
          case measure => simp [intOf]; omega
        · have HNV : Hid (hI.nextV q2 = #[.int .u64 (s.t : Int), .bool true]) := by show _ = _; unfold hI.nextV; rw [hQ]
          have HQS := hide hQ
          obtain ⟨n, hn⟩ : ∃ n, n = q2.S.length := ⟨_, rfl⟩
          have HN := hide hn.symm
          clear hQ hn
          go_wp2_with (first
            | (with_reducible refine wpl_loadc aggSt (op := ⟨some 44, _, _, _, _, _⟩) rfl (.tmp 43) rfl (p.add (k * 3)) rfl (stC x) (stC_length x) HCX.out ?_)
            | ((with_reducible refine wpl_alloca (op := ⟨some 9, _, _, _, _, _⟩) rfl _ rfl _ zeroSt ?_); intro gx w5 hB5 hs5 hF5)
            | ((refine wpl_storea aggSt rfl (.tmp 9) (.tmp 44) rfl gx (stC x) rfl rfl _ _ hB5 (stC_length x) rfl (stC_one x) ?_); intro w6 hB6 hF6; have HX := hide (HH.out.frm0 (frm_fs wr hF5 hF6 (fun i e => e ▸ hs5))); have HBX := hide hB6; have d0 := hB6.cell 0; have d1 := hB6.cell 1; have d2 := hB6.cell 2; simp only [stC, List.getElem?_toArray, List.getElem?_cons_zero, List.getElem?_cons_succ] at d0 d1 d2; clear HH HCX hB5 hs5 hF5 hF6 hB6)
            | (go_at_call 12; refine (T2.push1 HX.out x.t x.x hx64 hql5 hqn5).mono ?_; rintro e w7 ⟨he, h7, hk7⟩; obtain ⟨n1, er, hpv⟩ := pushV_form q; rw [hpv] at he; subst he; have HPV := hide hpv; clear hpv; have HY := hide h7; have hB7 := hk7 _ _ _ (by decide) (by decide) HBX.out; have d3 := hB7.cell 0; have d4 := hB7.cell 1; have d5 := hB7.cell 2; simp only [stC, List.getElem?_toArray, List.getElem?_cons_zero, List.getElem?_cons_succ] at d3 d4 d5; clear hB7 d0 d1 d2; clear h7 hk7 HX HBX)
            | (go_at_call 13; refine (T2.push2 HY.out x.t x.x hx64 hql5 hqn5).mono ?_; rintro e w8 ⟨he, h8⟩; rw [HPV.out] at he; subst he; rw [HQQ.out] at h8; have HZ := hide h8; clear h8 HY d3 d4 d5)
            | (go_at_call 16; refine (T2.next HZ.out).mono ?_; rintro e w9 ⟨he, hw9⟩; rw [HNV.out] at he; subst he; replace hw9 := hw9.symm; subst hw9)
            | (go_at_call 17; refine (T2.first_cons HZ.out HQS.out hq5).mono ?_; rintro e w10 ⟨kk, r, c1, rfl, h10, hkq, hc1, hc2⟩; rw [HN.out] at hkq hc1; have hkk1 : (kk : Int) < (n : Int) := (by omega); have hkk0 : (0 : Int) ≤ (kk : Int) := (by omega); have HW := hide h10; have HL : Hid (∀ j, Calls Try.prog 18 #[.pointer (some ⟨ga, 0, none⟩)] (w10.drewN j) fun e w' => e = .returned (.int .i64 (n : Int)) ∧ w' = w10.drewN j) := (fun j => by have := h10.len j; rw [HN.out] at this; exact this); clear h10 HZ hkq))
          go_quiet ((go_at_call 18; exact quiet_same ((HL.out _).mono fun _ _ ⟨a, b⟩ => ⟨a, b.symm⟩)))
          go_wp2_with fail
          go_roundw
          case rel => exact ⟨k + 1, q2, by omega, by go_num, HW.out.frm0 ((Frm.refl _ _).drewN _), HNA.out⟩
          case measure => simp [intOf]; omega
      · obtain ⟨q2, hq2⟩ : ∃ q2, q2 = q.pop x.t := ⟨_, rfl⟩
        have HQQ := hide hq2.symm
        have HNA := hide (HNA2.out)
        rw [← hq2] at HNA
        have hq5 : q2.S.length ≤ 50000 := by have := HNA.out.len; omega
        clear hq2 HNA1 HNA2
        rcases hQ : q2.S with _ | ⟨s, S⟩
        · have HNV : Hid (hI.nextV q2 = #[.int .u64 0, .bool false]) := by show _ = _; unfold hI.nextV; rw [hQ]
          have HQS := hide hQ
          have hm1 : ¬ (0 : Int) ≤ -1 := by decide
          clear hQ
          go_wp2_with (first
            | (with_reducible refine wpl_loadc aggSt (op := ⟨some 44, _, _, _, _, _⟩) rfl (.tmp 43) rfl (p.add (k * 3)) rfl (stC x) (stC_length x) HCX.out ?_)
            | ((with_reducible refine wpl_alloca (op := ⟨some 9, _, _, _, _, _⟩) rfl _ rfl _ zeroSt ?_); intro gx w5 hB5 hs5 hF5)
            | ((refine wpl_storea aggSt rfl (.tmp 9) (.tmp 44) rfl gx (stC x) rfl rfl _ _ hB5 (stC_length x) rfl (stC_one x) ?_); intro w6 hB6 hF6; have HX := hide (HH.out.frm0 (frm_fs wr hF5 hF6 (fun i e => e ▸ hs5))); have HBX := hide hB6; have d0 := hB6.cell 0; have d1 := hB6.cell 1; have d2 := hB6.cell 2; simp only [stC, List.getElem?_toArray, List.getElem?_cons_zero, List.getElem?_cons_succ] at d0 d1 d2; clear HH HCX hB5 hs5 hF5 hF6 hB6)
            | (go_at_call 14; refine (T2.pop1 HX.out x.t hql5).mono ?_; rintro e w7 ⟨he, h7, hk7⟩; obtain ⟨n1, er, bo, hpv⟩ := popV_form q x.t; rw [hpv] at he; subst he; have HPV := hide hpv; clear hpv; have HY := hide h7; have hB7 := hk7 _ _ _ (by decide) (by decide) HBX.out; have d3 := hB7.cell 0; have d4 := hB7.cell 1; have d5 := hB7.cell 2; simp only [stC, List.getElem?_toArray, List.getElem?_cons_zero, List.getElem?_cons_succ] at d3 d4 d5; clear hB7 d0 d1 d2; clear h7 hk7 HX HBX)
            | (go_at_call 15; refine (T2.pop2 HY.out x.t hql5).mono ?_; rintro e w8 ⟨he, h8⟩; rw [HPV.out] at he; subst he; rw [HQQ.out] at h8; have HZ := hide h8; clear h8 HY d3 d4 d5)
            | (go_at_call 16; refine (T2.next HZ.out).mono ?_; rintro e w9 ⟨he, hw9⟩; rw [HNV.out] at he; subst he; replace hw9 := hw9.symm; subst hw9)
            | (go_at_call 17; refine (T2.first_nil HZ.out HQS.out).mono ?_; rintro e w10 ⟨rfl, h10, A1, c1, hc1⟩; have HW := hide h10; have HL : Hid (∀ j, Calls Try.prog 18 #[.pointer (some ⟨ga, 0, none⟩)] (w10.drewN j) fun e w' => e = .returned (.int .i64 0) ∧ w' = w10.drewN j) := (fun j => by have := h10.len j; rw [HQS.out] at this; exact this); clear h10 HZ))
          go_quiet ((go_at_call 18; exact quiet_same ((HL.out _).mono fun _ _ ⟨a, b⟩ => ⟨a, b.symm⟩)))
          go_wp2_with fail
          go_roundw
          case rel => exact ⟨k + 1, q2, by omega, by go_num, HW.out.frm0 ((Frm.refl _ _).drewN _), HNA.out⟩
          case measure => simp [intOf]; omega
        · have HNV : Hid (hI.nextV q2 = #[.int .u64 (s.t : Int), .bool true]) := by show _ = _; unfold hI.nextV; rw [hQ]
          have HQS := hide hQ
          obtain ⟨n, hn⟩ : ∃ n, n = q2.S.length := ⟨_, rfl⟩
          have HN := hide hn.symm
          clear hQ hn
          go_wp2_with (first
            | (with_reducible refine wpl_loadc aggSt (op := ⟨some 44, _, _, _, _, _⟩) rfl (.tmp 43) rfl (p.add (k * 3)) rfl (stC x) (stC_length x) HCX.out ?_)
            | ((with_reducible refine wpl_alloca (op := ⟨some 9, _, _, _, _, _⟩) rfl _ rfl _ zeroSt ?_); intro gx w5 hB5 hs5 hF5)
            | ((refine wpl_storea aggSt rfl (.tmp 9) (.tmp 44) rfl gx (stC x) rfl rfl _ _ hB5 (stC_length x) rfl (stC_one x) ?_); intro w6 hB6 hF6; have HX := hide (HH.out.frm0 (frm_fs wr hF5 hF6 (fun i e => e ▸ hs5))); have HBX := hide hB6; have d0 := hB6.cell 0; have d1 := hB6.cell 1; have d2 := hB6.cell 2; simp only [stC, List.getElem?_toArray, List.getElem?_cons_zero, List.getElem?_cons_succ] at d0 d1 d2; clear HH HCX hB5 hs5 hF5 hF6 hB6)
            | (go_at_call 14; refine (T2.pop1 HX.out x.t hql5).mono ?_; rintro e w7 ⟨he, h7, hk7⟩; obtain ⟨n1, er, bo, hpv⟩ := popV_form q x.t; rw [hpv] at he; subst he; have HPV := hide hpv; clear hpv; have HY := hide h7; have hB7 := hk7 _ _ _ (by decide) (by decide) HBX.out; have d3 := hB7.cell 0; have d4 := hB7.cell 1; have d5 := hB7.cell 2; simp only [stC, List.getElem?_toArray, List.getElem?_cons_zero, List.getElem?_cons_succ] at d3 d4 d5; clear hB7 d0 d1 d2; clear h7 hk7 HX HBX)
            | (go_at_call 15; refine (T2.pop2 HY.out x.t hql5).mono ?_; rintro e w8 ⟨he, h8⟩; rw [HPV.out] at he; subst he; rw [HQQ.out] at h8; have HZ := hide h8; clear h8 HY d3 d4 d5)
            | (go_at_call 16; refine (T2.next HZ.out).mono ?_; rintro e w9 ⟨he, hw9⟩; rw [HNV.out] at he; subst he; replace hw9 := hw9.symm; subst hw9)
            | (go_at_call 17; refine (T2.first_cons HZ.out HQS.out hq5).mono ?_; rintro e w10 ⟨kk, r, c1, rfl, h10, hkq, hc1, hc2⟩; rw [HN.out] at hkq hc1; have hkk1 : (kk : Int) < (n : Int) := (by omega); have hkk0 : (0 : Int) ≤ (kk : Int) := (by omega); have HW := hide h10; have HL : Hid (∀ j, Calls Try.prog 18 #[.pointer (some ⟨ga, 0, none⟩)] (w10.drewN j) fun e w' => e = .returned (.int .i64 (n : Int)) ∧ w' = w10.drewN j) := (fun j => by have := h10.len j; rw [HN.out] at this; exact this); clear h10 HZ hkq))
          go_quiet ((go_at_call 18; exact quiet_same ((HL.out _).mono fun _ _ ⟨a, b⟩ => ⟨a, b.symm⟩)))
          go_wp2_with fail
          go_roundw
          case rel => exact ⟨k + 1, q2, by omega, by go_num, HW.out.frm0 ((Frm.refl _ _).drewN _), HNA.out⟩
          case measure => simp [intOf]; omega
    · have hex : (¬ (k : Int) < (len : Int)) ∨ ((k : Int) < (len : Int) ∧ ¬ (k : Int) < 300) := by
        by_cases h1 : k < len
        · right
          have : Nat.min len 300 = min len 300 := rfl
          omega
        · exact .inl (by omega)
      clear HF hkn hmn hmx hk hqn hql
      rcases hex with hex | ⟨hex, hex2⟩
      all_goals
        go_wp2_with fail
        go_ret
        exact ⟨rfl, HH.out.1⟩
end Go.Proofs.Ytjpmicjlbkdcbaa
