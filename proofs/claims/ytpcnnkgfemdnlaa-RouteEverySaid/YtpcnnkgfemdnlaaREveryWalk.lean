/-
  RouteEvery's walk: whatever comes in, the law returns true, and what lay lies as it lay.
-/
import Derived.Test.YtpcnnkgfemdnlaaRt11
namespace Go.Proofs.Ytpcnnkgfemdnlaa
set_option linter.unusedVariables false
open Go.RowKit

set_option maxHeartbeats 8000000 in
set_option maxRecDepth 100000 in
theorem every_walk (a0 : Int) (a1 : Option Addr) (len1 cap1 : Nat) (l1 : List Nat) (w : World)
    (h1 : Rds w a1 len1 (cellsI .u64 l1)) (hu1 : ∀ n ∈ l1, n < 18446744073709551616) (hreach : len1 * 8 ≤ 140737488351232) :
    Calls Try.prog 5 #[.int .i64 a0, .slice a1 len1 cap1] w fun e w' => e = .returned (.bool true) ∧ Below w.heap.size w w' := by
  obtain ⟨b, hb, hb15⟩ : ∃ b : Nat, bits .and .i64 a0 15 = (b : Int) ∧ b ≤ 15 := ⟨(a0 % 16).toNat, by rw [mask15]; omega, by omega⟩
  obtain ⟨N, hN⟩ : ∃ N, N = b + 1 := ⟨_, rfl⟩
  have hwN : IntKind.i64.wrap (1 + (b : Int)) = (N : Int) := by rw [IntKind.wrap_i64]; omega
  have hwN1 : IntKind.i64.wrap ((N : Int) - 1) = (b : Int) := by rw [IntKind.wrap_i64]; omega
  have hN1 : 1 ≤ N := by omega
  have hN16 : N ≤ 16 := by omega
  have hbN : b < N := by omega
  have hbNi : (b : Int) < (N : Int) := by omega
  obtain ⟨L, hL⟩ : ∃ L, L = len1 + 1 := ⟨_, rfl⟩
  have hwL : IntKind.i64.wrap (1 + (len1 : Int)) = (L : Int) := by rw [IntKind.wrap_i64]; omega
  obtain ⟨m, hm⟩ : ∃ m, m = Nat.min (Nat.min len1 4) b := ⟨_, rfl⟩
  have hm1 : m ≤ len1 := by rw [hm]; exact Nat.le_trans (Nat.min_le_left _ _) (Nat.min_le_left _ _)
  have hm4 : m ≤ 4 := by rw [hm]; exact Nat.le_trans (Nat.min_le_left _ _) (Nat.min_le_right _ _)
  have hmb : m ≤ b := by rw [hm]; exact Nat.min_le_right _ _
  obtain ⟨H, hH⟩ : ∃ H, H = m + 1 := ⟨_, rfl⟩
  have HH : Hid ((H : Int) = if (N : Int) < (if (5 : Int) < (L : Int) then 5 else (L : Int)) then (N : Int) else (if (5 : Int) < (L : Int) then 5 else (L : Int))) := by
    show _ = _
    have e1 : Nat.min len1 4 = min len1 4 := rfl
    have e2 : m = min (min len1 4) b := hm
    rw [Nat.min_def, Nat.min_def] at e2
    split at e2 <;> split at e2 <;> split <;> split <;> omega
  have hH5 : H ≤ 5 := by omega
  have hwH : IntKind.i64.wrap ((H : Int) - 1) = (m : Int) := by rw [IntKind.wrap_i64]; omega
  have HHI : Hid ((H : Int) = (m : Int) + 1) := by show _ = _; omega
  have HHN := hide hH
  have HLL := hide hL
  have HNN := hide hN
  have hHN : (H : Int) ≤ (N : Int) := by omega
  have hL1 : l1.length = len1 := by have := h1.1; rwa [cellsI_length] at this
  have HP : Hid (∀ j, j < len1 → ∃ pp, a1 = some pp ∧ w.cell? (pp.add j) = some (.int .u64 ((l1.getD j 0 : Nat) : Int)) ∧ l1.getD j 0 < 18446744073709551616) := by
    intro j hj
    obtain ⟨pp, rfl, hc⟩ := h1.2 (by omega)
    exact ⟨pp, rfl, hc j _ (cellsI_at l1 j (by omega)), hu1 _ (getD_mem (by omega))⟩
  clear h1 hu1 hreach hL1 hm hH hL hN
  go_enter Try.func5, Try.ntmps5
  go_wp2_with fail
  refine (shown_any _).mono ?_
  rintro e w1 ⟨rfl, hb1⟩
  have HB1 := hide hb1
  clear hb1
  go_wp2_with fail
  go_loopw [6, 7] (fun l i wr => ∃ (k : Nat) (A1 : Option Addr) (c1 : Nat), k ≤ N ∧ i = .int .i64 k ∧ l = .slice A1 k c1 ∧ LInv w A1 k c1 (rowN k) wr) (fun _ i _ => N - (intOf i).toNat)
  case atStart => exact ⟨0, none, 0, by omega, rfl, rfl, ⟨own_nil _ _ _, HB1.out⟩⟩
  case round =>
    clear HB1
    obtain ⟨k, A1, c1, hk, rfl, rfl, hi⟩ := hrel
    have HI := hide hi
    clear hi
    by_cases hlt : k < N
    · have hki : (k : Int) < (N : Int) := by omega
      have HS : Hid (rowN (k + 1) = rowN k ++ [3 * k + 1]) := rfl
      obtain ⟨x, hx⟩ : ∃ x, x = 3 * k + 1 := ⟨_, rfl⟩
      rw [← hx] at HS
      have hx1 : IntKind.i64.wrap (3 * (k : Int)) = 3 * (k : Int) := by rw [IntKind.wrap_i64]; omega
      have hx2 : IntKind.i64.wrap (3 * (k : Int) + 1) = (x : Int) := by rw [IntKind.wrap_i64]; omega
      have hx3 : IntKind.u16.wrap (x : Int) = (x : Int) := by rw [IntKind.wrap_u16]; omega
      have hx4 : x ≤ 100 := by omega
      have hx5 : 3 * (k : Int) + 1 = (x : Int) := by omega
      clear hx
      generalize rowN k = row at *
      go_wp2_with (at_builtin; with_reducible refine wpl_app one_ad rfl (.tmp 28) (.tmp 33) rfl _ w.heap.size (.slice A1 k c1) k (cellsI .u16 row) rfl (HI.out.more _) _ 1 1 [.int .u16 (x : Int)] rfl (Rds.new1 _ _ _) (one1 _ _) (by omega) (by omega) (HI.out.le _) ?_; intro A2 c2 w2 hown2 hg2 hat2; have HJ := hide (LInv.add HI.out _ hown2 hg2); clear hown2 hg2 hat2)
      go_roundw
      case rel => exact ⟨k + 1, A2, c2, by omega, by go_num, rfl, by rw [HS.out]; exact HJ.out⟩
      case measure => simp [intOf]; omega
    · obtain rfl : N = k := by omega
      obtain ⟨W, rfl⟩ : ∃ W, W = wr := ⟨_, rfl⟩
      have hki : ¬ ((N : Int) < (N : Int)) := by omega
      have Hal := hide (rowN_length N)
      have HRI := hide (rowN_rise N)
      generalize rowN N = nodes at *
      obtain ⟨g0, rfl⟩ := own_some HI.out.own (by omega)
      have HBW := hide HI.out.below
      have HND := hide (own_rds HI.out.own)
      have HC : Hid (∀ W', Below W.heap.size W W' → ∀ i, i < N → W'.cell? ⟨g0, i, none⟩ = some (.int .u16 ((nodes.getD i 0 : Nat) : Int))) := by
        intro W' hW' i hi
        obtain ⟨pa, e1, hc⟩ := HND.out.2 (by omega)
        injection e1 with e1
        subst e1
        have h := hc i _ (cellsI_at nodes i (by rw [Hal.out]; exact hi))
        rw [addr_add, Nat.zero_add] at h
        rw [hW'.cell (World.block_lt_of_cell? _ _ h)]
        exact h
      have HFF : Hid (∀ last, last ∈ nodes → Fine m nodes (H : Int) last) := fun last hl => ⟨by have := HHI.out; omega, by omega, by rw [Hal.out]; exact hN16, HRI.out, hl, by rw [Hal.out]; exact hHN, by have := HHI.out; omega⟩
      have hcb := HC.out W (Below.refl _ _) b hbN
      obtain ⟨lb, hlb⟩ : ∃ lb, lb = nodes.getD b 0 := ⟨_, rfl⟩
      have HLB : Hid (lb ∈ nodes) := by show _ ∈ _; rw [hlb]; exact getD_mem (by rw [Hal.out]; exact hbN)
      rw [← hlb] at hcb
      clear hlb HI
      by_cases h0 : len1 = 0
      · have h0i : ¬ (0 < (len1 : Int)) := by omega
        have h0d : decide (0 < len1) = false := by simp; omega
        have h0l : len1 ≤ 0 := by omega
        have HF := hide (HFF.out lb HLB.out)
        have HIN := HLB
        clear HFF h0
        go_wp2_with (refine wpl_min3 rfl (.tmp 37) (.const (.int .i64 5)) (.tmp 38) _ _ _ rfl _ (L : Int) 5 (N : Int) (H : Int) rfl rfl rfl HH.out ?_)
        clear hcb
        go_loopw [10, 11] (fun l i wr => ∃ (k nl : Nat) (A1 : Option Addr) (c1 : Nat), k ≤ N ∧ i = .int .i64 k ∧ l = .slice A1 nl c1 ∧ nl ≤ k ∧ LInv W A1 nl c1 (others (nodes.take k) lb) wr) (fun _ i _ => N - (intOf i).toNat)
        case atStart => exact ⟨0, 0, none, 0, by omega, rfl, rfl, by omega, ⟨own_nil _ _ _, Below.refl _ _⟩⟩
        case round =>
          obtain ⟨k, nl, A1, c1, hk, rfl, rfl, hnl, hi⟩ := hrel
          have HI := hide hi
          clear hi
          by_cases hlt : k < N
          · have hki : (k : Int) < (N : Int) := by omega
            have hck : wr.cell? ⟨g0, k, none⟩ = some (.int .u16 ((nodes.getD k 0 : Nat) : Int)) := HC.out wr HI.out.below k hlt
            have HO := hide (others_snoc (nodes.take k) lb (nodes.getD k 0))
            rw [← take_snoc (l := nodes) (k := k) (by rw [Hal.out]; exact hlt)] at HO
            generalize others (nodes.take k) lb = left at *
            generalize nodes.getD k 0 = x at *
            by_cases hx : x = lb
            · subst hx
              have HS : Hid (others (nodes.take (k + 1)) x = left) := by
                have h1 := HO.out
                rwa [if_pos rfl, List.append_nil] at h1
              clear HO
              go_wp2_with fail
              go_roundw
              case rel => exact ⟨k + 1, nl, A1, c1, by omega, by go_num, rfl, by omega, by rw [HS.out]; exact HI.out⟩
              case measure => simp [intOf]; omega
            · have hxi : ¬ ((x : Int) = (lb : Int)) := by omega
              have HS : Hid (others (nodes.take (k + 1)) lb = left ++ [x]) := by
                have h1 := HO.out
                rwa [if_neg hx] at h1
              clear HO hx
              go_wp2_with (at_builtin; with_reducible refine wpl_app one_ad rfl (.tmp 68) (.tmp 73) rfl _ W.heap.size (.slice A1 nl c1) nl (cellsI .u16 left) rfl (HI.out.more _) _ 1 1 [.int .u16 (x : Int)] rfl (Rds.new1 _ _ _) (one1 _ _) (by omega) (by omega) (HI.out.le _) ?_; intro A2 c2 w2 hown2 hg2 hat2; have HJ := hide (LInv.add HI.out _ hown2 hg2); clear hown2 hg2 hat2)
              go_roundw
              case rel => exact ⟨k + 1, nl + 1, A2, c2, by omega, by go_num, rfl, by omega, by rw [HS.out]; exact HJ.out⟩
              case measure => simp [intOf]; omega
          · obtain rfl : N = k := by omega
            have hki : ¬ ((N : Int) < (N : Int)) := by omega
            have hTk : nodes.take N = nodes := List.take_of_length_le (by rw [Hal.out]; exact Nat.le_refl _)
            rw [hTk] at HI
            clear hTk
            have HOL : Hid ((others nodes lb).length + 1 = N) := by show _ = _; rw [others_length HRI.out HIN.out, Hal.out]; omega
            have hnl2 : nl + 1 = N := by have := HI.out.len; have := HOL.out; omega
            have HI0 : Hid (VInv W A1 nl c1 none 0 0 none 0 0 (others nodes lb) [] [] wr) := ⟨RInv.starn HI.out.own HI.out.below, own_nil _ _ _⟩
            have HRN : Hid (∀ ws : List Nat, routeN ws nodes m lb = outs ws (others nodes lb) m ++ [lb]) := fun _ => rfl
            clear HI
            generalize others nodes lb = O at *
            go_wp2_with fail
            go_loopw [10, 12, 13, 14, 15] (fun l o v i kk wr => ∃ (j nl : Nat) (A1 : Option Addr) (c1 : Nat) (A2 : Option Addr) (c2 : Nat) (A3 : Option Addr) (c3 : Nat) (ws : List Nat), j ≤ m ∧ nl + j + 1 = N ∧ i = .int .i64 j ∧ l = .slice A1 nl c1 ∧ o = .slice A2 j c2 ∧ v = .slice A3 j c3 ∧ ws.length = j ∧ (∀ x ∈ ws, x < 18446744073709551616) ∧ VInv W A1 nl c1 A2 j c2 A3 j c3 (lefts ws O j) (outs ws O j) ws wr) (fun _ _ _ i _ _ => m - (intOf i).toNat)
            case atStart => exact ⟨0, nl, A1, c1, none, 0, none, 0, [], by omega, by omega, rfl, rfl, rfl, rfl, rfl, (fun _ h => by cases h), HI0.out⟩
            case round =>
              clear HI0
              obtain ⟨j, nl, A1, c1, A2, c2, A3, c3, ws, hj, hjn, rfl, rfl, rfl, rfl, hwl, hwu, hI⟩ := hrel
              have HJ := hide hI
              have HWL := hide hwl
              have HWU := hide hwu
              clear hI hwl hwu
              by_cases hjm : j < m
              · exact absurd hjm (by omega)
              · obtain rfl : j = m := by omega
                have hji : ¬ ((j : Int) < (j : Int)) := by omega
                have hO4 := HJ.out.more2 (.cells #[.int .u16 (lb : Int)] 25)
                have hsz := HJ.out.le (.cells #[.int .u16 (lb : Int)] 25)
                have HRW := hide (HRN.out ws)
                have HFW : Hid (Fine j nodes (H : Int) lb) := HF.out
                generalize lefts ws O j = left at *
                generalize outs ws O j = out at *
                go_wp2_with (at_builtin; with_reducible refine wpl_app one_ad rfl (.tmp 123) (.tmp 125) rfl _ W.heap.size (.slice A2 j c2) j (cellsI .u16 out) rfl hO4 _ 1 1 [.int .u16 (lb : Int)] rfl (Rds.new1 _ _ _) (one1 _ _) (by omega) (by omega) hsz ?_; intro A5 c5 w5 hown5 hg5 hat5; rw [World.size_alloc] at hat5; have HJ5 := hide (VInv.add HJ.out _ hown5 hg5 hat5); clear hown5 hg5 hat5)
                refine (draw_ok (A := A3) (ws := ws) (nodes := nodes) (m := j) (N := H) w5 HHI.out HHN.out HFW.out HWU.out (by omega) (own_rds HJ5.out.s) (HND.out.below HJ5.out.r.below)).mono ?_
                rintro e w6 ⟨A6, c6, rfl, hO6, hb6⟩
                rw [HRW.out] at hO6
                have hR5 := own_rds (own_frm HJ5.out.r.o (Frm.of_below (S := fun _ => False) hb6) (fun _ _ h => h))
                have HR5 := hide hR5
                have HR6 := hide (own_rds hO6)
                have HB6 : Hid (Below w.heap.size w w6) := HBW.out.trans ((HJ5.out.r.below.trans (hb6.mono HJ5.out.r.below.size)).mono HBW.out.size)
                clear hO4 hsz hR5 hO6 hb6
                go_wp2_with (go_at_call 11; refine (same_yes _ HR6.out HR5.out (by omega) (by omega)).mono ?_; rintro e w7 ⟨rfl, q, rfl⟩)
                go_ret
                exact ⟨rfl, below_drewN HB6.out _⟩
      · have h0i : 0 < (len1 : Int) := by omega
        have h0d : decide (0 < len1) = true := by simp; omega
        have h0n : 0 < len1 := by omega
        obtain ⟨pp, hpp, hcp, hcu⟩ := HP.out 0 h0n
        subst hpp
        obtain ⟨f, hf⟩ : ∃ f, f = l1.getD 0 0 := ⟨_, rfl⟩
        rw [← hf] at hcp hcu
        have hfm : f % N < N := Nat.mod_lt _ (by omega)
        obtain ⟨r, hr⟩ : ∃ r, r = f % N := ⟨_, rfl⟩
        rw [← hr] at hfm
        have hmod : (f : Int) % (N : Int) = (r : Int) := by rw [hr]; rfl
        have hk0 : ¬ ((N : Int) = 0) := by omega
        have hri : (r : Int) < (N : Int) := by omega
        have hcp' : W.cell? (pp.add 0) = some (.int .u64 (f : Int)) := by rw [HBW.out.cell (World.block_lt_of_cell? _ _ hcp)]; exact hcp
        have hp0 : pp.add 0 = pp := by unfold Addr.add; split <;> simp_all
        rw [hp0] at hcp'
        have hcr := HC.out W (Below.refl _ _) r hfm
        obtain ⟨last, hlast⟩ : ∃ last, last = nodes.getD r 0 := ⟨_, rfl⟩
        have HIN : Hid (last ∈ nodes) := by show _ ∈ _; rw [hlast]; exact getD_mem (by rw [Hal.out]; exact hfm)
        rw [← hlast] at hcr
        have HF := hide (HFF.out last HIN.out)
        clear hlast HFF hf hr hcp hcu h0 HLB hp0
        go_wp2_with (refine wpl_min3 rfl (.tmp 37) (.const (.int .i64 5)) (.tmp 38) _ _ _ rfl _ (L : Int) 5 (N : Int) (H : Int) rfl rfl rfl HH.out ?_)
        clear hcp' hcr hcb hmod
        go_loopw [10, 11] (fun l i wr => ∃ (k nl : Nat) (A1 : Option Addr) (c1 : Nat), k ≤ N ∧ i = .int .i64 k ∧ l = .slice A1 nl c1 ∧ nl ≤ k ∧ LInv W A1 nl c1 (others (nodes.take k) last) wr) (fun _ i _ => N - (intOf i).toNat)
        case atStart => exact ⟨0, 0, none, 0, by omega, rfl, rfl, by omega, ⟨own_nil _ _ _, Below.refl _ _⟩⟩
        case round =>
          obtain ⟨k, nl, A1, c1, hk, rfl, rfl, hnl, hi⟩ := hrel
          have HI := hide hi
          clear hi
          by_cases hlt : k < N
          · have hki : (k : Int) < (N : Int) := by omega
            have hck : wr.cell? ⟨g0, k, none⟩ = some (.int .u16 ((nodes.getD k 0 : Nat) : Int)) := HC.out wr HI.out.below k hlt
            have HO := hide (others_snoc (nodes.take k) last (nodes.getD k 0))
            rw [← take_snoc (l := nodes) (k := k) (by rw [Hal.out]; exact hlt)] at HO
            generalize others (nodes.take k) last = left at *
            generalize nodes.getD k 0 = x at *
            by_cases hx : x = last
            · subst hx
              have HS : Hid (others (nodes.take (k + 1)) x = left) := by
                have h1 := HO.out
                rwa [if_pos rfl, List.append_nil] at h1
              clear HO
              go_wp2_with fail
              go_roundw
              case rel => exact ⟨k + 1, nl, A1, c1, by omega, by go_num, rfl, by omega, by rw [HS.out]; exact HI.out⟩
              case measure => simp [intOf]; omega
            · have hxi : ¬ ((x : Int) = (last : Int)) := by omega
              have HS : Hid (others (nodes.take (k + 1)) last = left ++ [x]) := by
                have h1 := HO.out
                rwa [if_neg hx] at h1
              clear HO hx
              go_wp2_with (at_builtin; with_reducible refine wpl_app one_ad rfl (.tmp 68) (.tmp 73) rfl _ W.heap.size (.slice A1 nl c1) nl (cellsI .u16 left) rfl (HI.out.more _) _ 1 1 [.int .u16 (x : Int)] rfl (Rds.new1 _ _ _) (one1 _ _) (by omega) (by omega) (HI.out.le _) ?_; intro A2 c2 w2 hown2 hg2 hat2; have HJ := hide (LInv.add HI.out _ hown2 hg2); clear hown2 hg2 hat2)
              go_roundw
              case rel => exact ⟨k + 1, nl + 1, A2, c2, by omega, by go_num, rfl, by omega, by rw [HS.out]; exact HJ.out⟩
              case measure => simp [intOf]; omega
          · obtain rfl : N = k := by omega
            have hki : ¬ ((N : Int) < (N : Int)) := by omega
            have hTk : nodes.take N = nodes := List.take_of_length_le (by rw [Hal.out]; exact Nat.le_refl _)
            rw [hTk] at HI
            clear hTk
            have HOL : Hid ((others nodes last).length + 1 = N) := by show _ = _; rw [others_length HRI.out HIN.out, Hal.out]; omega
            have hnl2 : nl + 1 = N := by have := HI.out.len; have := HOL.out; omega
            have HI0 : Hid (VInv W A1 nl c1 none 0 0 none 0 0 (others nodes last) [] [] wr) := ⟨RInv.starn HI.out.own HI.out.below, own_nil _ _ _⟩
            have HRN : Hid (∀ ws : List Nat, routeN ws nodes m last = outs ws (others nodes last) m ++ [last]) := fun _ => rfl
            clear HI
            generalize others nodes last = O at *
            go_wp2_with fail
            go_loopw [10, 12, 13, 14, 15] (fun l o v i kk wr => ∃ (j nl : Nat) (A1 : Option Addr) (c1 : Nat) (A2 : Option Addr) (c2 : Nat) (A3 : Option Addr) (c3 : Nat) (ws : List Nat), j ≤ m ∧ nl + j + 1 = N ∧ i = .int .i64 j ∧ l = .slice A1 nl c1 ∧ o = .slice A2 j c2 ∧ v = .slice A3 j c3 ∧ ws.length = j ∧ (∀ x ∈ ws, x < 18446744073709551616) ∧ VInv W A1 nl c1 A2 j c2 A3 j c3 (lefts ws O j) (outs ws O j) ws wr) (fun _ _ _ i _ _ => m - (intOf i).toNat)
            case atStart => exact ⟨0, nl, A1, c1, none, 0, none, 0, [], by omega, by omega, rfl, rfl, rfl, rfl, rfl, (fun _ h => by cases h), HI0.out⟩
            case round =>
              clear HI0
              obtain ⟨j, nl, A1, c1, A2, c2, A3, c3, ws, hj, hjn, rfl, rfl, rfl, rfl, hwl, hwu, hI⟩ := hrel
              have HJ := hide hI
              have HWL := hide hwl
              have HWU := hide hwu
              clear hI hwl hwu
              by_cases hjm : j < m
              · have hji : (j : Int) < (m : Int) := by omega
                have hjl : j < len1 := by omega
                have hjli : (j : Int) < (len1 : Int) := by omega
                obtain ⟨pp2, hpp, hcp0, hcpu⟩ := HP.out j hjl
                injection hpp with hpp
                subst hpp
                have HPC : Hid (∀ W', Below W.heap.size W W' → W'.cell? (pp.add j) = some (.int .u64 ((l1.getD j 0 : Nat) : Int))) := fun W' hW' => (HBW.out.trans (hW'.mono HBW.out.size)).cell (World.block_lt_of_cell? _ _ hcp0) ▸ hcp0
                have hcp := HPC.out wr HJ.out.r.below
                obtain ⟨y, hy⟩ : ∃ y : Nat, ((l1.getD j 0 : Nat) : Int) / 4294967296 = (y : Int) := ⟨l1.getD j 0 / 4294967296, by omega⟩
                obtain ⟨q, hq, hq7⟩ : ∃ q : Nat, bits .and .u64 ((l1.getD j 0 : Nat) : Int) 7 = (q : Int) ∧ q ≤ 7 := ⟨_, mask7 _, by omega⟩
                clear hcp0 hcpu
                generalize l1.getD j 0 = pick at *
                have hlen : (lefts ws O j).length = nl := by have := HJ.out.r.l.1; rw [cellsI_length] at this; omega
                have hp : y % nl < nl := Nat.mod_lt _ (by omega)
                have hnl16 : nl ≤ 16 := by omega
                obtain ⟨p, hpe⟩ : ∃ p, p = y % nl := ⟨_, rfl⟩
                rw [← hpe] at hp
                have hmod : (y : Int) % (nl : Int) = (p : Int) := by rw [hpe]; rfl
                obtain ⟨t, ht⟩ : ∃ t, t = nl * q := ⟨_, rfl⟩
                have htl : t ≤ 112 := by rw [ht]; exact Nat.le_trans (Nat.mul_le_mul hnl16 hq7) (by decide)
                have ht2 : (nl : Int) * (q : Int) = (t : Int) := by rw [ht]; rfl
                obtain ⟨z, hz⟩ : ∃ z, z = p + t := ⟨_, rfl⟩
                have hz2 : (p : Int) + (t : Int) = (z : Int) := by rw [hz]; rfl
                have hzp : z % nl = p := by rw [hz, ht, Nat.add_mul_mod_self_left]; exact Nat.mod_eq_of_lt hp
                have HZ : Hid (z < 18446744073709551616) := by show _ < _; omega
                have HS := hide (takes_snoc ws O j z p HWL.out (by rw [hlen]; exact hzp))
                have hz3 : z ≤ 200 := by omega
                have hn0 : ¬ ((nl : Int) = 0) := by omega
                have hpi : (p : Int) < (nl : Int) := by omega
                clear hpe ht hz hzp
                generalize lefts ws O j = left at *
                generalize outs ws O j = out at *
                obtain ⟨pl, hpl, hcl⟩ := (own_rds HJ.out.r.l).2 (by omega)
                subst hpl
                have hcx := hcl p _ (cellsI_at left p (by rw [hlen]; exact hp))
                clear hcl hlen
                generalize left.getD p 0 = x at *
                have hO4 := HJ.out.more2 (.cells #[.int .u16 (x : Int)] 25)
                have hsz := HJ.out.le (.cells #[.int .u16 (x : Int)] 25)
                go_wp2_with (first
                  | (at_builtin; with_reducible refine wpl_app one_ad rfl (.tmp 91) (.tmp 96) rfl _ W.heap.size (.slice A2 j c2) j (cellsI .u16 out) rfl hO4 _ 1 1 [.int .u16 (x : Int)] rfl (Rds.new1 _ _ _) (one1 _ _) (by omega) (by omega) hsz ?_; intro A4 c4 w4 hown4 hg4 hat4; rw [World.size_alloc] at hat4; have HJ4 := hide (VInv.add HJ.out _ hown4 hg4 hat4); have hcp4 := HPC.out w4 HJ4.out.r.below; have hO5 := HJ4.out.more3 (.cells #[.int .u64 (z : Int)] 31); have hsz5 := HJ4.out.le (.cells #[.int .u64 (z : Int)] 31); clear hown4 hg4 hat4)
                  | (at_builtin; with_reducible refine wpl_app one_wd rfl (.tmp 98) (.tmp 111) rfl _ W.heap.size (.slice A3 j c3) j (cellsI .u64 ws) rfl hO5 _ 1 1 [.int .u64 (z : Int)] rfl (Rds.new1 _ _ _) (one1 _ _) (by omega) (by omega) hsz5 ?_; intro A5 c5 w5 hown5 hg5 hat5; have HJ5 := hide (VInv.word HJ4.out _ hown5 hg5); clear hown5 hg5 hat5))
                clear HJ HJ4 hO4 hsz hO5 hsz5 hcp hcp4 hcx
                have hpc : p ≤ c1 := (by have := own_cap HJ5.out.r.l; omega)
                have hp1 : IntKind.i64.wrap ((p : Int) + 1) = ((p + 1 : Nat) : Int) := by rw [IntKind.wrap_i64]; omega
                have hpn : p + 1 ≤ nl := hp
                obtain ⟨nr, hnr⟩ : ∃ nr, nr = nl - (p + 1) := ⟨_, rfl⟩
                have HNR := hide hnr
                obtain ⟨nl', hnl'⟩ : ∃ nl', nl' = p + nr := ⟨_, rfl⟩
                have HNL := hide hnl'
                have hnl'' : nl' + 1 = nl := by omega
                clear hnr hnl'
                obtain ⟨A9, hA9⟩ : ∃ A9, A9 = (if c1 = p + 1 then (some pl : Option Addr) else (some pl : Option Addr).map (·.add (p + 1))) := ⟨_, rfl⟩
                have HA9 := hide hA9
                have HL1 : Hid (Rds w5 (some pl) p (cellsI .u16 (left.take p))) := (own_rds HJ5.out.r.l).first (by omega)
                have HL2 : Hid (Rds w5 A9 nr (cellsI .u16 (left.drop (p + 1)))) := by
                  have := (own_rds HJ5.out.r.l).cut c1 (p + 1) hpn (own_cap HJ5.out.r.l)
                  rw [cellsI_drop, ← hA9, ← HNR.out] at this
                  exact this
                have HF0 : Hid (Frm (fun _ => False) w5 (w5.drew.alloc (.cells #[] 25))) := ((Frm.refl _ _).drew).trans (Frm.alloc _ _ _) (fun _ _ h => h)
                clear hA9
                refine wp_region_held_drew (S := fun _ => True) (by kernel_rfl) True.intro ?_
                intro hHeld
                refine wpAnyH_take (i := 1) (v := ?v1) rfl (by kernel_rfl) (by kernel_rfl) (by kernel_rfl) (fun _ _ _ h => h) (Or.inl ⟨by rfl, ?hy1⟩) (by assumption) ?rest1
                case hy1 => (intro w hSw; (try dsimp only at hSw); go_simp; try with_reducible rfl)
                try simp only [Act.put, List.getElem_toArray, List.getElem_cons_zero, List.getElem_cons_succ, List.setIfInBounds_toArray, List.set_cons_zero, List.set_cons_succ]
                refine wpAnyH_take (i := 2) (v := ?v2) rfl (by kernel_rfl) (by kernel_rfl) (by kernel_rfl) (fun _ _ _ h => h) (Or.inl ⟨by rfl, ?hy2⟩) (by assumption) ?rest2
                case hy2 => (intro w hSw; (try dsimp only at hSw); go_simp; try with_reducible rfl)
                try simp only [Act.put, List.getElem_toArray, List.getElem_cons_zero, List.getElem_cons_succ, List.setIfInBounds_toArray, List.set_cons_zero, List.set_cons_succ]
                refine wpAnyH_take (i := 3) (v := ?v3) rfl (by kernel_rfl) (by kernel_rfl) (by kernel_rfl) (fun _ _ _ h => h) (Or.inl ⟨by rfl, ?hy3⟩) (by assumption) ?rest3
                case hy3 => (intro w hSw; refine held_cutQ0 one_ad (.tmp 114) (.tmp 115) ?_ (some pl) nl c1 p ?_ ?_ hpc <;> rfl)
                try simp only [Act.put, List.getElem_toArray, List.getElem_cons_zero, List.getElem_cons_succ, List.setIfInBounds_toArray, List.set_cons_zero, List.set_cons_succ]
                refine wpAnyH_take (i := 5) (v := ?v4) rfl (by kernel_rfl) (by kernel_rfl) (by kernel_rfl) (fun _ _ _ h => h) (Or.inl ⟨by rfl, ?hy4⟩) (by assumption) ?rest4
                case hy4 => (intro w hSw; (try dsimp only at hSw); go_simp; try with_reducible rfl)
                try simp only [Act.put, List.getElem_toArray, List.getElem_cons_zero, List.getElem_cons_succ, List.setIfInBounds_toArray, List.set_cons_zero, List.set_cons_succ]
                refine wpAnyH_take (i := 6) (v := ?v5) rfl (by kernel_rfl) (by kernel_rfl) (by kernel_rfl) (fun _ _ _ h => h) (Or.inl ⟨by rfl, ?hy5⟩) (by assumption) ?rest5
                case hy5 => (intro w hSw; (try dsimp only at hSw); go_simp; try with_reducible rfl)
                try simp only [Act.put, List.getElem_toArray, List.getElem_cons_zero, List.getElem_cons_succ, List.setIfInBounds_toArray, List.set_cons_zero, List.set_cons_succ]
                refine wpAnyH_take (i := 7) (v := ?v6) rfl (by kernel_rfl) (by kernel_rfl) (by kernel_rfl) (fun _ _ _ h => h) (Or.inl ⟨by rfl, ?hy6⟩) (by assumption) ?rest6
                case hy6 => (intro w hSw; (try dsimp only at hSw); go_simp; try with_reducible rfl)
                try simp only [Act.put, List.getElem_toArray, List.getElem_cons_zero, List.getElem_cons_succ, List.setIfInBounds_toArray, List.set_cons_zero, List.set_cons_succ]
                refine wpAnyH_take (i := 8) (v := ?v7) rfl (by kernel_rfl) (by kernel_rfl) (by kernel_rfl) (fun _ _ _ h => h) (Or.inl ⟨by rfl, ?hy7⟩) (by assumption) ?rest7
                case hy7 => (intro w hSw; first | (refine held_cutQ1 one_ad (.tmp 118) (.tmp 120) ?_ (some pl) A9 nl c1 (p + 1) nr ((p : Int) + 1) ?_ ?_ (by omega) hpn HNR.out HA9.out <;> rfl) | (refine held_cutQ1 one_ad (.tmp 118) (.tmp 120) ?_ (some pl) A9 nl c1 (p + 1) nr ((p + 1 : Nat) : Int) ?_ ?_ rfl hpn HNR.out HA9.out <;> rfl))
                try simp only [Act.put, List.getElem_toArray, List.getElem_cons_zero, List.getElem_cons_succ, List.setIfInBounds_toArray, List.set_cons_zero, List.set_cons_succ]
                refine wpAnyH_ready (rs := [0]) (by kernel_rfl) (by simp) ?_
                refine AllReadyH.cons rfl (fun K hK => ?_) AllReadyH.nil
                go_simp
                refine hK.out _ _ (True.intro) (fun hHeld => ?_)
                clear hK K
                refine wpAnyH_ready (rs := [4]) (by kernel_rfl) (by simp) ?_
                refine AllReadyH.cons rfl (fun K hK => ?_) AllReadyH.nil
                refine step_appQ one_ad rfl (.tmp 113) (.tmp 116) rfl _ w5.heap.size (.slice (some ⟨w5.heap.size, 0, none⟩) 0 0) 0 [] rfl (World.ownsRow_made w5.drew #[] 0 (Nat.le_refl _) (by simp [maxLen]) (by simp)) (some pl) p c1 (cellsI .u16 (left.take p)) rfl (HL1.out.frm0 HF0.out) (cellsI_one _) (by decide) p (Nat.zero_add p).symm (by omega) (by simp) ?_
                intro A6 c6 w6 hO6 hF6 hat6
                refine hK.out _ _ (True.intro) (fun hHeld => ?_)
                clear hK K
                rw [List.nil_append] at hO6
                have hF46 : Frm (fun _ => False) w5 w6 := (HF0.out.mono (T := fun k => k = w5.heap.size) (fun _ _ h => h.elim)).trans hF6 (fun k _ hk => by simpa [Value.ownBlock] using hk) |>.mono (fun k hk h => by omega)
                refine wpAnyH_ready (rs := [9]) (by kernel_rfl) (by simp) ?_
                refine AllReadyH.cons rfl (fun K hK => ?_) AllReadyH.nil
                refine step_appQ one_ad rfl (.tmp 117) (.tmp 121) rfl _ w5.heap.size (.slice A6 p c6) p (cellsI .u16 (left.take p)) rfl hO6 A9 nr (c1 - (p + 1)) (cellsI .u16 (left.drop (p + 1))) rfl (HL2.out.frm0 hF46) (cellsI_one _) (by decide) nl' HNL.out (by omega) hF46.size ?_
                intro A7 c7 w7 hO7 hF7 hat7
                refine hK.out _ _ (True.intro) (fun hHeld => ?_)
                clear hK K
                refine wpAnyH_take (i := 10) (v := ?v8) rfl (by kernel_rfl) (by kernel_rfl) (by kernel_rfl) (fun _ _ _ h => h) (Or.inl ⟨by rfl, ?hy8⟩) (by assumption) ?rest8
                case hy8 => (intro w hSw; (try dsimp only at hSw); go_simp; try with_reducible rfl)
                try simp only [Act.put, List.getElem_toArray, List.getElem_cons_zero, List.getElem_cons_succ, List.setIfInBounds_toArray, List.set_cons_zero, List.set_cons_succ]
                refine wpAnyH_done (by kernel_rfl) ?_ _
                rw [erase_cut, ← HS.out.2] at hO7
                have hF47 : Frm (fun _ => False) w5 w7 := (hF46.mono (T := fun k => some k = (Value.slice A6 p c6).ownBlock) (fun _ _ h => h.elim)).trans hF7 (fun _ _ h => h) |>.mono (fun k hk h => by have := (own_ge hO6 k h.symm).1; omega)
                have HJ7 := hide (VInv.cut HJ5.out hF47 hO7)
                clear hO6 hF6 hat6 hF46 hO7 hF7 hat7 hF47 HF0 HL1 HL2 HJ5
                go_wp2_with fail
                go_roundw
                case rel => exact ⟨j + 1, nl', A7, c7, A4, c4, A5, c5, ws ++ [z], by omega, by omega, by go_num, rfl, rfl, rfl, by rw [List.length_append, HWL.out]; rfl, (fun u hu => (List.mem_append.1 hu).elim (HWU.out u) (fun h => by rw [List.mem_singleton.1 h]; exact HZ.out)), by rw [HS.out.1]; exact HJ7.out⟩
                case measure => simp [intOf]; omega
              · obtain rfl : j = m := by omega
                have hji : ¬ ((j : Int) < (j : Int)) := by omega
                have hO4 := HJ.out.more2 (.cells #[.int .u16 (last : Int)] 25)
                have hsz := HJ.out.le (.cells #[.int .u16 (last : Int)] 25)
                have HRW := hide (HRN.out ws)
                have HFW : Hid (Fine j nodes (H : Int) last) := HF.out
                generalize lefts ws O j = left at *
                generalize outs ws O j = out at *
                go_wp2_with (at_builtin; with_reducible refine wpl_app one_ad rfl (.tmp 123) (.tmp 125) rfl _ W.heap.size (.slice A2 j c2) j (cellsI .u16 out) rfl hO4 _ 1 1 [.int .u16 (last : Int)] rfl (Rds.new1 _ _ _) (one1 _ _) (by omega) (by omega) hsz ?_; intro A5 c5 w5 hown5 hg5 hat5; rw [World.size_alloc] at hat5; have HJ5 := hide (VInv.add HJ.out _ hown5 hg5 hat5); clear hown5 hg5 hat5)
                refine (draw_ok (A := A3) (ws := ws) (nodes := nodes) (m := j) (N := H) w5 HHI.out HHN.out HFW.out HWU.out (by omega) (own_rds HJ5.out.s) (HND.out.below HJ5.out.r.below)).mono ?_
                rintro e w6 ⟨A6, c6, rfl, hO6, hb6⟩
                rw [HRW.out] at hO6
                have hR5 := own_rds (own_frm HJ5.out.r.o (Frm.of_below (S := fun _ => False) hb6) (fun _ _ h => h))
                have HR5 := hide hR5
                have HR6 := hide (own_rds hO6)
                have HB6 : Hid (Below w.heap.size w w6) := HBW.out.trans ((HJ5.out.r.below.trans (hb6.mono HJ5.out.r.below.size)).mono HBW.out.size)
                clear hO4 hsz hR5 hO6 hb6
                go_wp2_with (go_at_call 11; refine (same_yes _ HR6.out HR5.out (by omega) (by omega)).mono ?_; rintro e w7 ⟨rfl, q, rfl⟩)
                go_ret
                exact ⟨rfl, below_drewN HB6.out _⟩
end Go.Proofs.Ytpcnnkgfemdnlaa
