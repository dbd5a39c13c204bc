/-
  The document's Draw by a contract: whatever is asked, it answers as Want says, and what lay lies as it lay.
-/
import Derived.Test.YtpcnnkgfemdnlaaRt9
namespace Go.Proofs.Ytpcnnkgfemdnlaa
set_option linter.unusedVariables false
open Go.RowKit

set_option maxHeartbeats 8000000 in
set_option maxRecDepth 100000 in
theorem rdraw_a1 (A B : Option Addr) (nw ca n cb : Nat) (ws nodes : List Nat) (hops : Int) (last : Nat) (w : World) (hB : Rds w B n (cellsI .u16 nodes)) (h : hops < 1) :
    Calls Try.prog 10 #[.slice A nw ca, .slice B n cb, .int .i64 hops, .int .u16 (last : Int)] w (Want w ws nodes nw hops last) := by
  have hal : nodes.length = n := by have := hB.1; rwa [cellsI_length] at this
  clear hB
  have HF : Hid (Fault nw nodes hops last 1) := .arg (.inl (by omega))
  clear hal
  go_enter Try.func10, Try.ntmps10
  go_wp2_with fail
  go_ret3
  exact Want.bad HF.out (Ans.nil 1 (Below.refl _ _))
set_option maxHeartbeats 8000000 in
set_option maxRecDepth 100000 in
theorem rdraw_a2 (A B : Option Addr) (nw ca n cb : Nat) (ws nodes : List Nat) (hops : Int) (last : Nat) (w : World) (hB : Rds w B n (cellsI .u16 nodes)) (h0 : 1 ≤ hops) (h : 5 < hops) :
    Calls Try.prog 10 #[.slice A nw ca, .slice B n cb, .int .i64 hops, .int .u16 (last : Int)] w (Want w ws nodes nw hops last) := by
  have hal : nodes.length = n := by have := hB.1; rwa [cellsI_length] at this
  clear hB
  have HF : Hid (Fault nw nodes hops last 1) := .arg (.inl (by omega))
  clear hal
  go_enter Try.func10, Try.ntmps10
  go_wp2_with fail
  go_ret3
  exact Want.bad HF.out (Ans.nil 1 (Below.refl _ _))
set_option maxHeartbeats 8000000 in
set_option maxRecDepth 100000 in
theorem rdraw_a3 (A B : Option Addr) (nw ca n cb : Nat) (ws nodes : List Nat) (hops : Int) (last : Nat) (w : World) (hB : Rds w B n (cellsI .u16 nodes)) (h0 : 1 ≤ hops) (h1 : hops ≤ 5) (h : 16 < n) :
    Calls Try.prog 10 #[.slice A nw ca, .slice B n cb, .int .i64 hops, .int .u16 (last : Int)] w (Want w ws nodes nw hops last) := by
  have hal : nodes.length = n := by have := hB.1; rwa [cellsI_length] at this
  clear hB
  have hni : 16 < (n : Int) := by omega
  have HF : Hid (Fault nw nodes hops last 1) := .arg (.inr (.inl (by omega)))
  clear hal
  go_enter Try.func10, Try.ntmps10
  go_wp2_with fail
  go_ret3
  exact Want.bad HF.out (Ans.nil 1 (Below.refl _ _))
set_option maxHeartbeats 8000000 in
set_option maxRecDepth 100000 in
theorem rdraw_l (A B : Option Addr) (nw ca n cb : Nat) (ws nodes : List Nat) (hops : Int) (last : Nat) (w : World) (hA : Rds w A nw (cellsI .u64 ws)) (hu : ∀ x ∈ ws, x < 18446744073709551616) (hB : Rds w B n (cellsI .u16 nodes)) (hw : nw ≤ 1000000) (h0 : 1 ≤ hops) (h1 : hops ≤ 5) (h2 : n ≤ 16) :
    Calls Try.prog 10 #[.slice A nw ca, .slice B n cb, .int .i64 hops, .int .u16 (last : Int)] w (Want w ws nodes nw hops last) := by
  have hal : nodes.length = n := by have := hB.1; rwa [cellsI_length] at this
  have hni : (n : Int) ≤ 16 := by omega
  obtain ⟨m, hm⟩ : ∃ m : Nat, hops = (m : Int) + 1 := ⟨(hops - 1).toNat, by omega⟩
  subst hm
  have hm4 : m ≤ 4 := by omega
  have Hal := hide hal
  have HB := hide hB
  have HA := hide hA
  have HU0 := hide hu
  clear hB hA hal h0 h1 hu
  have h0 : (1 : Int) ≤ (m : Int) + 1 := by omega
  have h1 : (m : Int) + 1 ≤ 5 := by omega
  go_enter Try.func10, Try.ntmps10
  go_wp2_with fail
  go_loopw [11, 12, 13] (fun t l i wr => ∃ (k nl : Nat) (A1 : Option Addr) (c1 : Nat) (b : Bool), k ≤ n ∧ i = .int .i64 k ∧ t = .bool b ∧ l = .slice A1 nl c1 ∧ nl ≤ k ∧ (b = true ↔ last ∈ nodes.take k) ∧ RiseTo nodes k ∧ LInv w A1 nl c1 (others (nodes.take k) last) wr) (fun _ _ i _ => n - (intOf i).toNat)
  case atStart => exact ⟨0, 0, none, 0, false, by omega, rfl, rfl, rfl, by omega, by simp, (fun i hi => by omega), ⟨own_nil _ _ _, Below.refl _ _⟩⟩
  case round =>
    obtain ⟨k, nl, A1, c1, b, hk, rfl, rfl, rfl, hnl, hb, hR, hi⟩ := hrel
    have HI := hide hi
    have HBB := hide hb
    have HR := hide hR
    clear hi hb hR
    by_cases hlt : k < n
    · have hki : (k : Int) < (n : Int) := by omega
      obtain ⟨pa, rfl, hca⟩ := HB.out.2 (by omega)
      have ca := HI.out.below
      have cc : ∀ j, j < n → wr.cell? (pa.add j) = some (.int .u16 ((nodes.getD j 0 : Nat) : Int)) := fun j hj => by
        have h := hca j _ (cellsI_at nodes j (by rw [Hal.out]; exact hj))
        rw [ca.cell (World.block_lt_of_cell? _ _ h)]
        exact h
      have ca' : ∀ q, (wr.drewN q).cell? (pa.add k) = some (.int .u16 ((nodes.getD k 0 : Nat) : Int)) := fun _ => cc k hlt
      have HC := hide cc
      have HT := hide (take_snoc (l := nodes) (k := k) (by rw [Hal.out]; exact hlt))
      have HO := hide (others_snoc (nodes.take k) last (nodes.getD k 0))
      rw [← HT.out] at HO
      clear ca cc hca
      by_cases hk0 : k = 0
      · have HN : Hid (RiseTo nodes (k + 1)) := fun i hi => by omega
        have hkg : decide (0 < k) = false := by simp; omega
        have hkg2 : decide (0 < (k : Int)) = false := by simp; omega
        clear hk0
        generalize others (nodes.take k) last = left at *
        generalize nodes.getD k 0 = x at *
        by_cases hx : x = last
        · subst hx
          have HS : Hid (others (nodes.take (k + 1)) x = left ∧ x ∈ nodes.take (k + 1)) := by
            have h1 := HO.out
            rw [if_pos rfl, List.append_nil] at h1
            exact ⟨h1, by rw [HT.out]; simp⟩
          clear HO HBB
          go_wp2_with fail
          go_quiet (fail)
          go_wp2
          go_roundw
          case rel => exact ⟨k + 1, nl, A1, c1, true, by omega, by go_num, rfl, rfl, by omega, ⟨fun _ => HS.out.2, fun _ => rfl⟩, HN.out, by rw [HS.out.1]; exact HI.out.drewN _⟩
          case measure => simp [intOf]; omega
        · have hxi : ¬ ((x : Int) = (last : Int)) := by omega
          have HS : Hid (others (nodes.take (k + 1)) last = left ++ [x] ∧ (b = true ↔ last ∈ nodes.take (k + 1))) := by
            have h1 := HO.out
            rw [if_neg hx] at h1
            refine ⟨h1, HBB.out.trans ?_⟩
            rw [HT.out]
            simp
            exact fun h => absurd h.symm hx
          clear HO HBB hx
          go_wp2_with fail
          go_quiet (fail)
          go_wp2_with (at_builtin; with_reducible refine wpl_app one_ad rfl (.tmp 54) (.tmp 59) rfl _ w.heap.size (.slice A1 nl c1) nl (cellsI .u16 left) rfl ((HI.out.drewN _).more _) _ 1 1 [.int .u16 (x : Int)] rfl (Rds.new1 _ _ _) (one1 _ _) (by omega) (by omega) ((HI.out.drewN _).le _) ?_; intro A2 c2 w2 hown2 hg2 hat2; have HJ := hide (LInv.add (HI.out.drewN _) _ hown2 hg2); clear hown2 hg2 hat2)
          go_roundw
          case rel => exact ⟨k + 1, nl + 1, A2, c2, b, by omega, by go_num, rfl, rfl, by omega, HS.out.2, HN.out, by rw [HS.out.1]; exact HJ.out⟩
          case measure => simp [intOf]; omega
      · obtain ⟨j, hkj⟩ : ∃ j, k = j + 1 := ⟨k - 1, by omega⟩
        have HJ : Hid (j + 1 < nodes.length) := by show _ < _; rw [Hal.out]; omega
        have hwr : IntKind.i64.wrap ((k : Int) - 1) = (j : Int) := by rw [IntKind.wrap_i64]; omega
        have hkp : decide (0 < k) = true := by simp; omega
        have hkp2 : decide (0 < (k : Int)) = true := by simp; omega
        have hkp3 : 0 < k := by omega
        have hjn : j < n := by omega
        have hji : (j : Int) < (n : Int) := by omega
        clear hk0
        have cb' : ∀ q, (wr.drewN q).cell? (pa.add j) = some (.int .u16 ((nodes.getD j 0 : Nat) : Int)) := fun _ => HC.out j (by omega)
        by_cases hlo : nodes.getD j 0 < nodes.getD k 0
        · have HN : Hid (RiseTo nodes (k + 1)) := by
            intro i hi
            by_cases hik : i + 1 < k
            · exact HR.out i hik
            · have : i = j := by omega
              subst this
              rw [← hkj]
              exact hlo
          have hlo' : ((nodes.getD j 0 : Nat) : Int) < ((nodes.getD k 0 : Nat) : Int) := by omega
          clear hlo
          clear hkj HJ
          generalize others (nodes.take k) last = left at *
          generalize ((nodes.getD j 0 : Nat) : Int) = y at *
          generalize nodes.getD k 0 = x at *
          by_cases hx : x = last
          · subst hx
            have HS : Hid (others (nodes.take (k + 1)) x = left ∧ x ∈ nodes.take (k + 1)) := by
              have h1 := HO.out
              rw [if_pos rfl, List.append_nil] at h1
              exact ⟨h1, by rw [HT.out]; simp⟩
            clear HO HBB
            go_wp2_with fail
            go_quiet (fail)
            go_wp2
            go_roundw
            case rel => exact ⟨k + 1, nl, A1, c1, true, by omega, by go_num, rfl, rfl, by omega, ⟨fun _ => HS.out.2, fun _ => rfl⟩, HN.out, by rw [HS.out.1]; exact HI.out.drewN _⟩
            case measure => simp [intOf]; omega
          · have hxi : ¬ ((x : Int) = (last : Int)) := by omega
            have HS : Hid (others (nodes.take (k + 1)) last = left ++ [x] ∧ (b = true ↔ last ∈ nodes.take (k + 1))) := by
              have h1 := HO.out
              rw [if_neg hx] at h1
              refine ⟨h1, HBB.out.trans ?_⟩
              rw [HT.out]
              simp
              exact fun h => absurd h.symm hx
            clear HO HBB hx
            go_wp2_with fail
            go_quiet (fail)
            go_wp2_with (at_builtin; with_reducible refine wpl_app one_ad rfl (.tmp 54) (.tmp 59) rfl _ w.heap.size (.slice A1 nl c1) nl (cellsI .u16 left) rfl ((HI.out.drewN _).more _) _ 1 1 [.int .u16 (x : Int)] rfl (Rds.new1 _ _ _) (one1 _ _) (by omega) (by omega) ((HI.out.drewN _).le _) ?_; intro A2 c2 w2 hown2 hg2 hat2; have HJ := hide (LInv.add (HI.out.drewN _) _ hown2 hg2); clear hown2 hg2 hat2)
            go_roundw
            case rel => exact ⟨k + 1, nl + 1, A2, c2, b, by omega, by go_num, rfl, rfl, by omega, HS.out.2, HN.out, by rw [HS.out.1]; exact HJ.out⟩
            case measure => simp [intOf]; omega
        · have HF : Hid (Fault nw nodes ((m : Int) + 1) last 1) := .arg (.inr (.inr (fun h => hlo (hkj ▸ h j HJ.out))))
          have hlo' : ((nodes.getD k 0 : Nat) : Int) ≤ ((nodes.getD j 0 : Nat) : Int) := by omega
          clear hlo
          clear hkj HJ HO HT HC
          generalize others (nodes.take k) last = left at *
          generalize ((nodes.getD j 0 : Nat) : Int) = y at *
          generalize ((nodes.getD k 0 : Nat) : Int) = x at *
          go_wp2_with fail
          go_quiet (fail)
          go_wp2
          go_ret3
          exact Want.bad HF.out (Ans.nil 1 (below_drewN HI.out.below _))
    · obtain rfl : k = n := by omega
      have hki : ¬ ((k : Int) < (k : Int)) := by omega
      have hTk : nodes.take k = nodes := List.take_of_length_le (by rw [Hal.out]; exact Nat.le_refl _)
      rw [hTk] at HI HBB
      have HRI : Hid (Rise nodes) := fun i hi => HR.out i (by rw [Hal.out] at hi; exact hi)
      clear HR hTk
      by_cases hin : last ∈ nodes
      · obtain rfl : b = true := HBB.out.2 hin
        have HIN := hide hin
        by_cases hfu : (k : Int) < (m : Int) + 1
        · have HF : Hid (Fault nw nodes ((m : Int) + 1) last 8) := .full h0 h1 (by rw [Hal.out]; exact h2) HRI.out hin (by rw [Hal.out]; exact hfu)
          clear HBB hin
          go_wp2_with fail
          go_ret3
          exact Want.bad HF.out (Ans.nil 8 HI.out.below)
        · by_cases hsh : nw < m
          · have HF : Hid (Fault nw nodes ((m : Int) + 1) last 2) := .short h0 h1 (by rw [Hal.out]; exact h2) HRI.out hin (by rw [Hal.out]; omega) (by omega)
            have hfu' : (m : Int) + 1 ≤ (k : Int) := by omega
            have hsh' : (nw : Int) < (m : Int) := by omega
            clear HBB hin hfu
            go_wp2_with fail
            go_ret3
            exact Want.bad HF.out (Ans.nil 2 HI.out.below)
          · have HF : Hid (Fine nw nodes ((m : Int) + 1) last) := ⟨h0, h1, by rw [Hal.out]; exact h2, HRI.out, hin, by rw [Hal.out]; omega, by omega⟩
            have hfu' : (m : Int) + 1 ≤ (k : Int) := by omega
            have hsh' : (m : Int) ≤ (nw : Int) := by omega
            have hmw : m ≤ nw := by omega
            have HOL : Hid ((others nodes last).length + 1 = k) := by show _ = _; rw [HF.out.last, Hal.out]
            clear HBB hin hfu hsh
            have hnl2 : nl + 1 = k := by have := HI.out.len; have := HOL.out; omega
            have HRT : Hid (routeL ws nodes ((m : Int) + 1) last = outs ws (others nodes last) m ++ [last]) := by show _ = _; rw [routeL]; congr 2; omega
            have HLL : Hid (∀ i, i ≤ m → (lefts ws (others nodes last) i).length = (others nodes last).length - i) := fun i hi => lefts_length ws _ i (by have := HOL.out; omega)
            have HOS := hide (outs_succ ws (others nodes last))
            have HLS := hide (lefts_succ ws (others nodes last))
            have H00 : Hid (outs ws (others nodes last) 0 = [] ∧ lefts ws (others nodes last) 0 = others nodes last) := ⟨rfl, rfl⟩
            have HW : Hid (∀ W, Below w.heap.size w W → ∀ i, i < m → ∃ pa, A = some pa ∧ W.cell? (pa.add i) = some (.int .u64 ((ws.getD i 0 : Nat) : Int))) := by
              intro W hW i hi
              have hwl : ws.length = nw := by have := HA.out.1; rwa [cellsI_length] at this
              obtain ⟨pa, rfl, hc⟩ := HA.out.2 (by omega)
              have h := hc i _ (cellsI_at ws i (by omega))
              exact ⟨pa, rfl, by rw [hW.cell (World.block_lt_of_cell? _ _ h)]; exact h⟩
            have HI0 := hide (RInv.start HI.out.own HI.out.below)
            clear HI HIN
            generalize others nodes last = O at *
            go_wp2_with fail
            go_loopw [12, 14, 15] (fun l o i wr => ∃ (j nl : Nat) (A1 : Option Addr) (c1 : Nat) (A2 : Option Addr) (c2 : Nat), j ≤ m ∧ nl + j + 1 = k ∧ i = .int .i64 j ∧ l = .slice A1 nl c1 ∧ o = .slice A2 j c2 ∧ RInv w A1 nl c1 A2 j c2 (lefts ws O j) (outs ws O j) wr) (fun _ _ i _ => m - (intOf i).toNat)
            case atStart => exact ⟨0, nl, A1, c1, _, 0, by omega, by omega, rfl, rfl, rfl, by rw [H00.out.1, H00.out.2]; exact HI0.out⟩
            case round =>
              clear HI0
              obtain ⟨j, nl, A1, c1, A2, c2, hj, hjn, rfl, rfl, rfl, hI⟩ := hrel
              have HJ := hide hI
              clear hI
              by_cases hjm : j < m
              · have hji : (j : Int) < (m : Int) := by omega
                have hjw : (j : Int) < (nw : Int) := by omega
                have hjw' : j < nw := by omega
                obtain ⟨pa, rfl, hcw⟩ := HW.out wr HJ.out.below j hjm
                have HS1 := hide (HOS.out j)
                have HS2 := hide (HLS.out j)
                have hlen : (lefts ws O j).length = nl := by rw [HLL.out j (by omega)]; have := HOL.out; omega
                rw [hlen] at HS1 HS2
                generalize lefts ws O j = left at *
                generalize outs ws O j = out at *
                have hp : ws.getD j 0 % nl < nl := Nat.mod_lt _ (by omega)
                generalize hpe : ws.getD j 0 % nl = p at *
                have hmod : ((ws.getD j 0 : Nat) : Int) % (nl : Int) = (p : Int) := by rw [← hpe]; rfl
                have hn0 : ¬ ((nl : Int) = 0) := by omega
                have hpi : (p : Int) < (nl : Int) := by omega
                have hnl16 : nl ≤ 16 := by omega
                obtain ⟨pl, hpl, hcl⟩ := (own_rds HJ.out.l).2 (by omega)
                subst hpl
                have hcp := hcl p _ (cellsI_at left p (by rw [hlen]; exact hp))
                have HLN := hide hlen
                clear hcl hpe hlen
                generalize ws.getD j 0 = word at *
                generalize left.getD p 0 = x at *
                have hO4 := own_frm HJ.out.o (Frm.alloc wr (.cells #[.int .u16 (x : Int)] 25) (fun _ => False)) (fun _ _ h => h)
                have hsz : w.heap.size ≤ (wr.alloc (.cells #[.int .u16 (x : Int)] 25)).heap.size := by have := HJ.out.below.size; simp; omega
                go_wp2_with (at_builtin; with_reducible refine wpl_app one_ad rfl (.tmp 88) (.tmp 93) rfl _ w.heap.size (.slice A2 j c2) j (cellsI .u16 out) rfl hO4 _ 1 1 [.int .u16 (x : Int)] rfl (Rds.new1 _ _ _) (one1 _ _) (by omega) (by omega) hsz ?_; intro A4 c4 w4 hown4 hg4 hat4; rw [World.size_alloc] at hat4; have HJ4 := hide (RInv.add HJ.out _ hown4 hg4 hat4); clear hown4 hg4 hat4)
                clear HJ hO4 hsz hcp hcw
                have hpc : p ≤ c1 := (by have := own_cap HJ4.out.l; omega)
                have hp1 : IntKind.i64.wrap ((p : Int) + 1) = ((p + 1 : Nat) : Int) := by rw [IntKind.wrap_i64]; omega
                have hpn : p + 1 ≤ nl := hp
                obtain ⟨nr, hnr⟩ : ∃ nr, nr = nl - (p + 1) := ⟨_, rfl⟩
                have HNR := hide hnr
                obtain ⟨nl', hnl'⟩ : ∃ nl', nl' = p + nr := ⟨_, rfl⟩
                have HNL := hide hnl'
                have hnl'' : nl' + 1 = nl := by omega
                clear hnr hnl'
                obtain ⟨A9, hA9⟩ : ∃ A9, A9 = (if c1 = p + 1 then (some pl : Option Addr) else (some pl : Option Addr).map (·.add (p + 1))) := ⟨_, rfl⟩
                have HA9 := hide hA9
                have HL1 : Hid (Rds w4 (some pl) p (cellsI .u16 (left.take p))) := (own_rds HJ4.out.l).first (by omega)
                have HL2 : Hid (Rds w4 A9 nr (cellsI .u16 (left.drop (p + 1)))) := by
                  have := (own_rds HJ4.out.l).cut c1 (p + 1) hpn (own_cap HJ4.out.l)
                  rw [cellsI_drop, ← hA9, ← HNR.out] at this
                  exact this
                have HF0 : Hid (Frm (fun _ => False) w4 (w4.drew.alloc (.cells #[] 25))) := ((Frm.refl _ _).drew).trans (Frm.alloc _ _ _) (fun _ _ h => h)
                clear hA9
                refine wp_region_held_drew (S := fun _ => True) (by kernel_rfl) True.intro ?_
                intro hHeld
                refine wpAnyH_take (i := 1) (v := ?v1) rfl (by kernel_rfl) (by kernel_rfl) (by kernel_rfl) (fun _ _ _ h => h) (Or.inl ⟨by rfl, ?hy1⟩) (by assumption) ?rest1
                case hy1 => (intro w hSw; (try dsimp only at hSw); go_simp; try with_reducible rfl)
                try simp only [Act.put, List.getElem_toArray, List.getElem_cons_zero, List.getElem_cons_succ, List.setIfInBounds_toArray, List.set_cons_zero, List.set_cons_succ]
                refine wpAnyH_take (i := 2) (v := ?v2) rfl (by kernel_rfl) (by kernel_rfl) (by kernel_rfl) (fun _ _ _ h => h) (Or.inl ⟨by rfl, ?hy2⟩) (by assumption) ?rest2
                case hy2 => (intro w hSw; (try dsimp only at hSw); go_simp; try with_reducible rfl)
                try simp only [Act.put, List.getElem_toArray, List.getElem_cons_zero, List.getElem_cons_succ, List.setIfInBounds_toArray, List.set_cons_zero, List.set_cons_succ]
                refine wpAnyH_take (i := 3) (v := ?v3) rfl (by kernel_rfl) (by kernel_rfl) (by kernel_rfl) (fun _ _ _ h => h) (Or.inl ⟨by rfl, ?hy3⟩) (by assumption) ?rest3
                case hy3 => (intro w hSw; refine held_cutQ0 one_ad (.tmp 96) (.tmp 97) ?_ (some pl) nl c1 p ?_ ?_ hpc <;> rfl)
                try simp only [Act.put, List.getElem_toArray, List.getElem_cons_zero, List.getElem_cons_succ, List.setIfInBounds_toArray, List.set_cons_zero, List.set_cons_succ]
                refine wpAnyH_take (i := 5) (v := ?v4) rfl (by kernel_rfl) (by kernel_rfl) (by kernel_rfl) (fun _ _ _ h => h) (Or.inl ⟨by rfl, ?hy4⟩) (by assumption) ?rest4
                case hy4 => (intro w hSw; (try dsimp only at hSw); go_simp; try with_reducible rfl)
                try simp only [Act.put, List.getElem_toArray, List.getElem_cons_zero, List.getElem_cons_succ, List.setIfInBounds_toArray, List.set_cons_zero, List.set_cons_succ]
                refine wpAnyH_take (i := 6) (v := ?v5) rfl (by kernel_rfl) (by kernel_rfl) (by kernel_rfl) (fun _ _ _ h => h) (Or.inl ⟨by rfl, ?hy5⟩) (by assumption) ?rest5
                case hy5 => (intro w hSw; (try dsimp only at hSw); go_simp; try with_reducible rfl)
                try simp only [Act.put, List.getElem_toArray, List.getElem_cons_zero, List.getElem_cons_succ, List.setIfInBounds_toArray, List.set_cons_zero, List.set_cons_succ]
                refine wpAnyH_take (i := 7) (v := ?v6) rfl (by kernel_rfl) (by kernel_rfl) (by kernel_rfl) (fun _ _ _ h => h) (Or.inl ⟨by rfl, ?hy6⟩) (by assumption) ?rest6
                case hy6 => (intro w hSw; (try dsimp only at hSw); go_simp; try with_reducible rfl)
                try simp only [Act.put, List.getElem_toArray, List.getElem_cons_zero, List.getElem_cons_succ, List.setIfInBounds_toArray, List.set_cons_zero, List.set_cons_succ]
                refine wpAnyH_take (i := 8) (v := ?v7) rfl (by kernel_rfl) (by kernel_rfl) (by kernel_rfl) (fun _ _ _ h => h) (Or.inl ⟨by rfl, ?hy7⟩) (by assumption) ?rest7
                case hy7 => (intro w hSw; first | (refine held_cutQ1 one_ad (.tmp 100) (.tmp 102) ?_ (some pl) A9 nl c1 (p + 1) nr ((p : Int) + 1) ?_ ?_ (by omega) hpn HNR.out HA9.out <;> rfl) | (refine held_cutQ1 one_ad (.tmp 100) (.tmp 102) ?_ (some pl) A9 nl c1 (p + 1) nr ((p + 1 : Nat) : Int) ?_ ?_ rfl hpn HNR.out HA9.out <;> rfl))
                try simp only [Act.put, List.getElem_toArray, List.getElem_cons_zero, List.getElem_cons_succ, List.setIfInBounds_toArray, List.set_cons_zero, List.set_cons_succ]
                refine wpAnyH_ready (rs := [0]) (by kernel_rfl) (by simp) ?_
                refine AllReadyH.cons rfl (fun K hK => ?_) AllReadyH.nil
                go_simp
                refine hK.out _ _ (True.intro) (fun hHeld => ?_)
                clear hK K
                refine wpAnyH_ready (rs := [4]) (by kernel_rfl) (by simp) ?_
                refine AllReadyH.cons rfl (fun K hK => ?_) AllReadyH.nil
                refine step_appQ one_ad rfl (.tmp 95) (.tmp 98) rfl _ w4.heap.size (.slice (some ⟨w4.heap.size, 0, none⟩) 0 0) 0 [] rfl (World.ownsRow_made w4.drew #[] 0 (Nat.le_refl _) (by simp [maxLen]) (by simp)) (some pl) p c1 (cellsI .u16 (left.take p)) rfl (HL1.out.frm0 HF0.out) (cellsI_one _) (by decide) p (Nat.zero_add p).symm (by omega) (by simp) ?_
                intro A6 c6 w6 hO6 hF6 hat6
                refine hK.out _ _ (True.intro) (fun hHeld => ?_)
                clear hK K
                rw [List.nil_append] at hO6
                have hF46 : Frm (fun _ => False) w4 w6 := (HF0.out.mono (T := fun k => k = w4.heap.size) (fun _ _ h => h.elim)).trans hF6 (fun k _ hk => by simpa [Value.ownBlock] using hk) |>.mono (fun k hk h => by omega)
                refine wpAnyH_ready (rs := [9]) (by kernel_rfl) (by simp) ?_
                refine AllReadyH.cons rfl (fun K hK => ?_) AllReadyH.nil
                refine step_appQ one_ad rfl (.tmp 99) (.tmp 103) rfl _ w4.heap.size (.slice A6 p c6) p (cellsI .u16 (left.take p)) rfl hO6 A9 nr (c1 - (p + 1)) (cellsI .u16 (left.drop (p + 1))) rfl (HL2.out.frm0 hF46) (cellsI_one _) (by decide) nl' HNL.out (by omega) hF46.size ?_
                intro A7 c7 w7 hO7 hF7 hat7
                refine hK.out _ _ (True.intro) (fun hHeld => ?_)
                clear hK K
                refine wpAnyH_take (i := 10) (v := ?v8) rfl (by kernel_rfl) (by kernel_rfl) (by kernel_rfl) (fun _ _ _ h => h) (Or.inl ⟨by rfl, ?hy8⟩) (by assumption) ?rest8
                case hy8 => (intro w hSw; (try dsimp only at hSw); go_simp; try with_reducible rfl)
                try simp only [Act.put, List.getElem_toArray, List.getElem_cons_zero, List.getElem_cons_succ, List.setIfInBounds_toArray, List.set_cons_zero, List.set_cons_succ]
                refine wpAnyH_done (by kernel_rfl) ?_ _
                rw [erase_cut, ← HS2.out] at hO7
                have hF47 : Frm (fun _ => False) w4 w7 := (hF46.mono (T := fun k => some k = (Value.slice A6 p c6).ownBlock) (fun _ _ h => h.elim)).trans hF7 (fun _ _ h => h) |>.mono (fun k hk h => by have := (own_ge hO6 k h.symm).1; omega)
                have HJ7 := hide (RInv.cut HJ4.out hF47 hO7)
                clear hO6 hF6 hat6 hF46 hO7 hF7 hat7 hF47 HF0 HL1 HL2 HJ4
                go_wp2_with fail
                go_roundw
                case rel => exact ⟨j + 1, nl', A7, c7, A4, c4, by omega, by omega, by go_num, rfl, rfl, by rw [HS1.out]; exact HJ7.out⟩
                case measure => simp [intOf]; omega
              · obtain rfl : j = m := by omega
                have hji : ¬ ((j : Int) < (j : Int)) := by omega
                have hO4 := own_frm HJ.out.o (Frm.alloc wr (.cells #[.int .u16 (last : Int)] 25) (fun _ => False)) (fun _ _ h => h)
                have hsz : w.heap.size ≤ (wr.alloc (.cells #[.int .u16 (last : Int)] 25)).heap.size := by have := HJ.out.below.size; simp; omega
                go_wp2_with (at_builtin; with_reducible refine wpl_app one_ad rfl (.tmp 105) (.tmp 107) rfl _ w.heap.size (.slice A2 j c2) j (cellsI .u16 (outs ws O j)) rfl hO4 _ 1 1 [.int .u16 (last : Int)] rfl (Rds.new1 _ _ _) (one1 _ _) (by omega) (by omega) hsz ?_; intro A5 c5 w5 hown5 hg5 hat5; rw [World.size_alloc] at hat5; have HJ5 := hide (RInv.add HJ.out _ hown5 hg5 hat5); clear hown5 hg5 hat5)
                go_ret3
                refine Want.fine HF.out ?_
                have hRL : (routeL ws nodes ((j : Int) + 1) last).length = j + 1 := by rw [HRT.out, List.length_append, outs_length]; rfl
                unfold Ans
                rw [hRL]
                refine ⟨A5, c5, by simp, ?_, HJ5.out.below⟩
                rw [HRT.out]
                exact HJ5.out.o
      · obtain rfl : b = false := Bool.eq_false_iff.2 (fun h => hin (HBB.out.1 h))
        have HF : Hid (Fault nw nodes ((m : Int) + 1) last 10) := .none h0 h1 (by rw [Hal.out]; exact h2) HRI.out hin
        clear HBB hin
        go_wp2_with fail
        go_ret3
        exact Want.bad HF.out (Ans.nil 10 HI.out.below)
theorem rdraw_any (A B : Option Addr) (nw ca n cb : Nat) (ws nodes : List Nat) (hops : Int) (last : Nat) (w : World) (hA : Rds w A nw (cellsI .u64 ws)) (hu : ∀ x ∈ ws, x < 18446744073709551616) (hB : Rds w B n (cellsI .u16 nodes)) (hw : nw ≤ 1000000) :
    Calls Try.prog 10 #[.slice A nw ca, .slice B n cb, .int .i64 hops, .int .u16 (last : Int)] w (Want w ws nodes nw hops last) := by
  by_cases h0 : hops < 1
  · exact rdraw_a1 A B nw ca n cb ws nodes hops last w hB h0
  · have h0 : 1 ≤ hops := by omega
    by_cases h1 : 5 < hops
    · exact rdraw_a2 A B nw ca n cb ws nodes hops last w hB h0 h1
    · have h1 : hops ≤ 5 := by omega
      by_cases h2 : 16 < n
      · exact rdraw_a3 A B nw ca n cb ws nodes hops last w hB h0 h1 h2
      · exact rdraw_l A B nw ca n cb ws nodes hops last w hA hu hB hw h0 h1 (by omega)
end Go.Proofs.Ytpcnnkgfemdnlaa
