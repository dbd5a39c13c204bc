/-
  RouteWords' walk: whatever comes in, the law returns true, and what lay lies as it lay.
-/
import Derived.Test.YtpcnnkgfemdnlaaRt8
import Derived.Test.YtpcnnkgfemdnlaaSq2
namespace Go.Proofs.Ytpcnnkgfemdnlaa
set_option linter.unusedVariables false
open Go.RowKit

theorem Fine.more {nw nw2 : Nat} {nodes : List Nat} {hops : Int} {last : Nat} (h : Fine nw nodes hops last) (h1 : hops - 1 ≤ (nw2 : Int)) : Fine nw2 nodes hops last := ⟨h.h0, h.h1, h.h2, h.h3, h.h4, h.h5, h1⟩

set_option maxHeartbeats 8000000 in
set_option maxRecDepth 100000 in
theorem words_walk (a0 : Option Addr) (len0 cap0 : Nat) (l0 : List Nat) (a1 : Option Addr) (len1 cap1 : Nat) (l1 : List Nat) (a2 : Option Addr) (len2 cap2 : Nat) (l2 : List Nat) (hops : Int) (last : Nat) (w : World)
    (h0 : Rds w a0 len0 (cellsI .u64 l0)) (hu0 : ∀ n ∈ l0, n < 18446744073709551616) (hc0 : len0 ≤ cap0) (hm0 : cap0 ≤ 9223372036854775807)
    (h1 : Rds w a1 len1 (cellsI .u64 l1)) (hu1 : ∀ n ∈ l1, n < 18446744073709551616) (hc1 : len1 ≤ cap1) (hm1 : cap1 ≤ 9223372036854775807)
    (h2 : Rds w a2 len2 (cellsI .u16 l2)) (hc2 : len2 ≤ cap2) (hm2 : cap2 ≤ 9223372036854775807) :
    Calls Try.prog 6 #[.slice a0 len0 cap0, .slice a1 len1 cap1, .slice a2 len2 cap2, .int .i64 hops, .int .u16 (last : Int)] w fun e w' => e = .returned (.bool true) ∧ Below w.heap.size w w' := by
  obtain ⟨n0, HM0, hn0, hn0', he0⟩ := nat_min len0 20
  obtain ⟨n1, HM1, hn1, hn1', he1⟩ := nat_min len1 20
  obtain ⟨n2, HM2, hn2, hn2', he2⟩ := nat_min len2 40
  clear he0 he1 he2
  have H0 := hide (h0.first hn0)
  have H1 := hide (h1.first hn1)
  have H2 := hide (h2.first hn2)
  have HU0 : Hid (∀ x ∈ l0.take n0, x < 18446744073709551616) := fun x hx => hu0 x (List.mem_of_mem_take hx)
  have HU1 : Hid (∀ x ∈ l1.take n1, x < 18446744073709551616) := fun x hx => hu1 x (List.mem_of_mem_take hx)
  have hnc0 : n0 ≤ cap0 := by omega
  have hnc1 : n1 ≤ cap1 := by omega
  have hnc2 : n2 ≤ cap2 := by omega
  generalize l0.take n0 = ws at *
  generalize l1.take n1 = vs at *
  generalize l2.take n2 = nodes at *
  clear h0 h1 h2 hu0 hu1
  have HNL : Hid (nodes.length = n2) := by have := H2.out.1; rwa [cellsI_length] at this
  rcases fine_or n0 nodes hops last with hF | ⟨f, hF⟩
  · obtain ⟨M, hM⟩ : ∃ M : Nat, hops = (M : Int) + 1 := ⟨(hops - 1).toNat, by have := hF.h0; omega⟩
    have hM4 : M ≤ 4 := by have := hF.h1; omega
    have hMn : M ≤ n0 := by have := hF.h6; omega
    have hn2p : 0 < n2 := by have := hF.h5; have := HNL.out; omega
    have HF := hide hF
    have HF3 : Hid (Fine (M + n1) nodes hops last) := hF.more (by omega)
    obtain ⟨H, hH⟩ : ∃ H, H = M + 1 := ⟨_, rfl⟩
    have HHH := hide hH
    have HMM := hide hM
    have hhH : hops = (H : Int) := by omega
    rw [hhH] at HF HMM HF3 ⊢
    have hH5 : H ≤ 5 := by omega
    have hH1 : 0 < H := by omega
    have HU3 : Hid (∀ x ∈ ws.take M ++ vs, x < 18446744073709551616) := by
      intro x hx
      rcases List.mem_append.1 hx with hx | hx
      · exact HU0.out x (List.mem_of_mem_take hx)
      · exact HU1.out x hx
    have HDR := fun w B cb hA hB => draw_ok (A := a0) (B := B) (ca := cap0) (cb := cb) (n := n2) (ws := ws) (m := M) (N := H) w HMM.out HHH.out HF.out HU0.out (by omega) hA hB
    have HDR3 := fun w A ca B cb hA hB => draw_ok (A := A) (B := B) (ca := ca) (cb := cb) (n := n2) (ws := ws.take M ++ vs) (m := M) (N := H) w HMM.out HHH.out HF3.out HU3.out (by omega) hA hB
    have HMR : Hid (∀ w, Rds w a0 n0 (cellsI .u64 ws) → Rds w a0 M (cellsI .u64 (ws.take M))) := fun w h => h.first hMn
    have HMX : Hid (cellsI .u64 (ws.take M) ++ cellsI .u64 vs = cellsI .u64 (ws.take M ++ vs)) := (cellsI_append _ _).symm
    generalize ws.take M = wm at *
    generalize routeN ws nodes M last = R at *
    generalize routeN (wm ++ vs) nodes M last = R3 at *
    have hMc : M ≤ cap0 := by omega
    have hM6 : 0 + M ≤ 1000000 := by omega
    clear hF hM hH hhH hM4
    go_enter Try.func6, Try.ntmps6
    go_wp2_with fail
    refine (shown_any _).mono ?_
    rintro e w1 ⟨rfl, hb1⟩
    have hs1 : w.heap.size ≤ (w1.alloc (.cells #[] 25)).heap.size := by have := hb1.size; simp; omega
    have hR2 := (H2.out.below hb1).frm0 (Frm.alloc w1 (.cells #[] 25) (fun _ => False))
    go_wp2_with (first
      | (refine wpl_min rfl (.tmp 25) (.const (.int .i64 20)) _ _ rfl _ (len0 : Int) 20 (n0 : Int) rfl rfl HM0.out ?_)
      | (refine wpl_min rfl (.tmp 31) (.const (.int .i64 40)) _ _ rfl _ (len2 : Int) 40 (n2 : Int) rfl rfl HM2.out ?_)
      | (at_builtin; refine wpl_appQ one_ad rfl (.tmp 28) (.tmp 33) rfl _ w1.heap.size (.slice (some ⟨w1.heap.size, 0, none⟩) 0 0) 0 [] rfl (World.ownsRow_made w1 #[] 0 (Nat.le_refl _) (by simp [maxLen]) (by simp)) a2 n2 cap2 (cellsI .u16 nodes) rfl hR2 (cellsI_one _) (by decide) n2 (Nat.zero_add n2).symm (by omega) (by simp) ?_; intro A2 c2 w2 hO2 hF2 hat2))
    rw [List.nil_append] at hO2
    obtain ⟨gn, rfl⟩ := own_some hO2 hn2p
    have hB2 : Below w.heap.size w w2 := (hb1.alloc hb1.size _).trans (hF2.below hs1 (fun k hk => by have e : k = w1.heap.size := (by simpa [Value.ownBlock] using hk); have := hb1.size; omega))
    have hgn := own_ge hO2 gn rfl
    refine (HDR w2 _ _ (H0.out.below hB2) (own_rds hO2)).mono ?_
    rintro e w3 ⟨A3, c3, rfl, hO3, hb3⟩
    obtain ⟨gl, rfl⟩ := own_some hO3 hH1
    have hgl := own_ge hO3 gl rfl
    have hB3 := hB2.trans (hb3.mono hB2.size)
    have hN3 := own_frm hO2 (Frm.of_below (S := fun _ => False) hb3) (fun _ _ h => h)
    have HN3 := hide hN3
    have HO3 := hide hO3
    have HB3 := hide hB3
    have hsw1 : w.heap.size ≤ w1.heap.size := hb1.size
    have hgnw : w.heap.size ≤ gn := by have := hb1.size; omega
    have hnl : gn < gl := by omega
    have hgl3 : gl < w3.heap.size := hgl.2
    have hglw : w.heap.size ≤ gl := by omega
    clear hO2 hF2 hat2 hR2 hs1 hb1 hgn hgl hB2 hb3 hO3 hB3 hN3
    go_wp2_with fail
    refine wp_region_held_drew (S := fun _ => True) (by kernel_rfl) True.intro ?_
    intro hHeld
    have HBW : Hid (Below w.heap.size w (w3.drew.alloc (.cells #[] 31))) := HB3.out.drew.alloc HB3.out.size _
    have HF0 : Hid (Frm (fun _ => False) w3 (w3.drew.alloc (.cells #[] 31))) := ((Frm.refl _ _).drew).trans (Frm.alloc _ _ _) (fun _ _ h => h)
    refine wpAnyH_take (i := 1) (v := ?v1) rfl (by kernel_rfl) (by kernel_rfl) (by kernel_rfl) (fun _ _ _ h => h) (Or.inl ⟨by rfl, ?hy1⟩) (by assumption) ?rest1
    case hy1 => (intro w hSw; (try dsimp only at hSw); go_simp; try with_reducible rfl)
    try simp only [Act.put, List.getElem_toArray, List.getElem_cons_zero, List.getElem_cons_succ, List.setIfInBounds_toArray, List.set_cons_zero, List.set_cons_succ]
    refine wpAnyH_take (i := 2) (v := ?v2) rfl (by kernel_rfl) (by kernel_rfl) (by kernel_rfl) (fun _ _ _ h => h) (Or.inl ⟨by rfl, ?hy2⟩) (by assumption) ?rest2
    case hy2 => (intro w hSw; (try dsimp only at hSw); go_simp; try with_reducible rfl)
    try simp only [Act.put, List.getElem_toArray, List.getElem_cons_zero, List.getElem_cons_succ, List.setIfInBounds_toArray, List.set_cons_zero, List.set_cons_succ]
    refine wpAnyH_take (i := 3) (v := ?v3) rfl (by kernel_rfl) (by kernel_rfl) (by kernel_rfl) (fun _ _ _ h => h) (Or.inl ⟨by rfl, ?hy3⟩) (by assumption) ?rest3
    case hy3 => (intro w hSw; refine held_cutQ0 one_wd (.tmp 48) (.tmp 49) ?_ a0 n0 cap0 M ?_ ?_ hMc <;> rfl)
    try simp only [Act.put, List.getElem_toArray, List.getElem_cons_zero, List.getElem_cons_succ, List.setIfInBounds_toArray, List.set_cons_zero, List.set_cons_succ]
    refine wpAnyH_take (i := 5) (v := ?v4) rfl (by kernel_rfl) (by kernel_rfl) (by kernel_rfl) (fun _ _ _ h => h) (Or.inl ⟨by rfl, ?hy4⟩) (by assumption) ?rest4
    case hy4 => (intro w hSw; (try dsimp only at hSw); go_simp; try with_reducible rfl)
    try simp only [Act.put, List.getElem_toArray, List.getElem_cons_zero, List.getElem_cons_succ, List.setIfInBounds_toArray, List.set_cons_zero, List.set_cons_succ]
    refine wpAnyH_take (i := 6) (v := ?v5) rfl (by kernel_rfl) (by kernel_rfl) (by kernel_rfl) (fun _ _ _ h => h) (Or.inl ⟨by rfl, ?hy5⟩) (by assumption) ?rest5
    case hy5 => (intro w hSw; (try dsimp only at hSw); go_simp; try with_reducible rfl)
    try simp only [Act.put, List.getElem_toArray, List.getElem_cons_zero, List.getElem_cons_succ, List.setIfInBounds_toArray, List.set_cons_zero, List.set_cons_succ]
    refine wpAnyH_take (i := 7) (v := ?v6) rfl (by kernel_rfl) (by kernel_rfl) (by kernel_rfl) (fun _ _ _ h => h) (Or.inl ⟨by rfl, ?hy6⟩) (by assumption) ?rest6
    case hy6 => (intro w hSw; (try dsimp only at hSw); go_simp; try with_reducible rfl)
    try simp only [Act.put, List.getElem_toArray, List.getElem_cons_zero, List.getElem_cons_succ, List.setIfInBounds_toArray, List.set_cons_zero, List.set_cons_succ]
    refine wpAnyH_take (i := 8) (v := ?v7) rfl (by kernel_rfl) (by kernel_rfl) (by kernel_rfl) (fun _ _ _ h => h) (Or.inl ⟨by rfl, ?hy7⟩) (by assumption) ?rest7
    case hy7 => (intro w hSw; refine held_minQ (.tmp 54) (.const (.int .i64 20)) 3 3 ?_ (len1 : Int) 20 (n1 : Int) ?_ ?_ HM1.out <;> rfl)
    try simp only [Act.put, List.getElem_toArray, List.getElem_cons_zero, List.getElem_cons_succ, List.setIfInBounds_toArray, List.set_cons_zero, List.set_cons_succ]
    refine wpAnyH_take (i := 9) (v := ?v8) rfl (by kernel_rfl) (by kernel_rfl) (by kernel_rfl) (fun _ _ _ h => h) (Or.inl ⟨by rfl, ?hy8⟩) (by assumption) ?rest8
    case hy8 => (intro w hSw; refine held_cutQ0 one_wd (.tmp 52) (.tmp 55) ?_ a1 len1 cap1 n1 ?_ ?_ hnc1 <;> rfl)
    try simp only [Act.put, List.getElem_toArray, List.getElem_cons_zero, List.getElem_cons_succ, List.setIfInBounds_toArray, List.set_cons_zero, List.set_cons_succ]
    refine wpAnyH_ready (rs := [0]) (by kernel_rfl) (by simp) ?_
    refine AllReadyH.cons rfl (fun K hK => ?_) AllReadyH.nil
    go_simp
    refine hK.out _ _ (True.intro) (fun hHeld => ?_)
    clear hK K
    refine wpAnyH_ready (rs := [4]) (by kernel_rfl) (by simp) ?_
    refine AllReadyH.cons rfl (fun K hK => ?_) AllReadyH.nil
    refine step_appQ one_wd rfl (.tmp 47) (.tmp 50) rfl _ w3.heap.size (.slice (some ⟨w3.heap.size, 0, none⟩) 0 0) 0 [] rfl (World.ownsRow_made w3.drew #[] 0 (Nat.le_refl _) (by simp [maxLen]) (by simp)) a0 M cap0 (cellsI .u64 wm) rfl (HMR.out _ (H0.out.below HBW.out)) (cellsI_one _) (by decide) M (Nat.zero_add M).symm (by omega) (by simp) ?_
    intro A4 c4 w4 hO4 hF4 hat4
    refine hK.out _ _ (True.intro) (fun hHeld => ?_)
    clear hK K
    rw [List.nil_append] at hO4
    have hF34 : Frm (fun _ => False) w3 w4 := (HF0.out.mono (T := fun k => k = w3.heap.size) (fun _ _ h => h.elim)).trans hF4 (fun k _ hk => by simpa [Value.ownBlock] using hk) |>.mono (fun k hk h => by omega)
    have hB4 : Below w.heap.size w w4 := HB3.out.trans (hF34.below HB3.out.size (fun _ h => h.elim))
    refine wpAnyH_ready (rs := [10]) (by kernel_rfl) (by simp) ?_
    refine AllReadyH.cons rfl (fun K hK => ?_) AllReadyH.nil
    refine step_appQ one_wd rfl (.tmp 51) (.tmp 56) rfl _ w3.heap.size (.slice A4 M c4) M (cellsI .u64 wm) rfl hO4 a1 n1 cap1 (cellsI .u64 vs) rfl (H1.out.below hB4) (cellsI_one _) (by decide) (M + n1) rfl (by omega) hF34.size ?_
    intro A5 c5 w5 hO5 hF5 hat5
    refine hK.out _ _ (True.intro) (fun hHeld => ?_)
    clear hK K
    refine wpAnyH_take (i := 11) (v := ?v9) rfl (by kernel_rfl) (by kernel_rfl) (by kernel_rfl) (fun _ _ _ h => h) (Or.inl ⟨by rfl, ?hy9⟩) (by assumption) ?rest9
    case hy9 => (intro w hSw; (try dsimp only at hSw); go_simp; try with_reducible rfl)
    try simp only [Act.put, List.getElem_toArray, List.getElem_cons_zero, List.getElem_cons_succ, List.setIfInBounds_toArray, List.set_cons_zero, List.set_cons_succ]
    refine wpAnyH_done (by kernel_rfl) ?_ _
    rw [HMX.out] at hO5
    have hF35 : Frm (fun _ => False) w3 w5 := (hF34.mono (T := fun k => some k = (Value.slice A4 M c4).ownBlock) (fun _ _ h => h.elim)).trans hF5 (fun _ _ h => h) |>.mono (fun k hk h => by have := (own_ge hO4 k h.symm).1; omega)
    have hB5 : Below w.heap.size w w5 := HB3.out.trans (hF35.below HB3.out.size (fun _ h => h.elim))
    clear hF34 hB4 hO4 hF4 hat4 hF5 hat5 HBW HF0
    go_wp2_with fail
    have hN5 := own_frm HN3.out hF35 (fun _ _ h => h)
    refine (HDR3 w5 _ _ _ _ (own_rds hO5) (own_rds hN5)).mono ?_
    rintro e w6 ⟨A6, c6, rfl, hO6, hb6⟩
    obtain ⟨gm, rfl⟩ := own_some hO6 hH1
    have hgm := own_ge hO6 gm rfl
    have hF36 : Frm (fun _ => False) w3 w6 := hF35.trans (Frm.of_below hb6) (fun _ _ h => h)
    have hB6 : Below w.heap.size w w6 := hB5.trans (hb6.mono hB5.size)
    have HL6 := hide (own_frm HO3.out hF36 (fun _ _ h => h))
    have HN6 := hide (own_frm HN3.out hF36 (fun _ _ h => h))
    have HM6 := hide hO6
    have HB6 := hide hB6
    have hsw5 : w.heap.size ≤ w5.heap.size := hB5.size
    have hlm : gl < gm := by have := hF35.size; omega
    have hgm6 : gm < w6.heap.size := hgm.2
    have hs7 : w6.heap.size ≤ (w6.alloc (.cells #[] 25)).heap.size := by simp
    have hR7 := (own_rds HL6.out).frm0 (Frm.alloc w6 (.cells #[] 25) (fun _ => False))
    clear hO5 hN5 hO6 hb6 hgm hF35 hF36 hB5 hB6 HO3 HN3 HB3
    go_wp2_with (at_builtin; refine wpl_appQ one_ad rfl (.tmp 67) (.tmp 68) rfl _ w6.heap.size (.slice (some ⟨w6.heap.size, 0, none⟩) 0 0) 0 [] rfl (World.ownsRow_made w6 #[] 0 (Nat.le_refl _) (by simp [maxLen]) (by simp)) _ H c3 (cellsI .u16 R) rfl hR7 (cellsI_one _) (by decide) H (Nat.zero_add H).symm (by omega) (by simp) ?_; intro A7 c7 w7 hO7 hF7 hat7)
    rw [List.nil_append] at hO7
    obtain ⟨gw, rfl⟩ := own_some hO7 hH1
    have hgw := own_ge hO7 gw rfl
    have hF67 : Frm (fun _ => False) w6 w7 := ((Frm.alloc w6 (.cells #[] 25) (fun k => k = w6.heap.size)).trans hF7 (fun k _ hk => by simpa [Value.ownBlock] using hk)).mono (fun k hk h => by omega)
    have HL7 := hide (own_frm HL6.out hF67 (fun _ _ h => h))
    have HN7 : Hid (OwnAny w7 w.heap.size 25 (some ⟨gn, 0, none⟩) n2 c2) := ⟨_, own_base (own_frm HN6.out hF67 (fun _ _ h => h)) hsw1⟩
    have HM7 : Hid (OwnAny w7 w.heap.size 25 (some ⟨gm, 0, none⟩) H c6) := ⟨_, own_base (own_frm HM6.out hF67 (fun _ _ h => h)) hsw5⟩
    have HW7 := hide hO7
    have HB7 := hide (HB6.out.trans (hF67.below HB6.out.size (fun _ h => h.elim)))
    have hgw6 : w6.heap.size ≤ gw := hgw.1
    clear hO7 hF7 hat7 hF67 hR7 hs7 HL6 HN6 HM6 HB6 hgw
    have hmw : gm < gw := by omega
    go_loopw [20] (fun i wr => ∃ k : Nat, k ≤ H ∧ i = .int .i64 k ∧ OwnAny wr w.heap.size 25 (some ⟨gm, 0, none⟩) H c6 ∧ Frm (fun j => j = gm) w7 wr) (fun i _ => H - (intOf i).toNat)
    case atStart => exact ⟨0, by omega, rfl, HM7.out, Frm.refl _ _⟩
    case round =>
      clear HM7
      obtain ⟨k, hk, rfl, hOA, hFr⟩ := hrel
      have HFr := hide hFr
      clear hFr
      by_cases hlt : k < H
      · have hki : (k : Int) < (H : Int) := by omega
        obtain ⟨g', v, e1, _, _, hcv, hfv, hset⟩ := hOA.at hlt
        have e1 : gm = g' := by injection e1 with e1; injection e1 with e1
        subst e1
        have HS := hide (hset (.int .u16 0))
        have HFS := hide (HFr.out.trans (Frm.setCell wr ⟨gm, k, none⟩ (.int .u16 0) (fun j => j = gm) rfl) (fun _ _ h => h))
        clear hset hOA
        go_wp2_with fail
        go_roundw
        case rel => exact ⟨k + 1, by omega, by go_num, HS.out, HFS.out⟩
        case measure => simp [intOf]; omega
      · obtain rfl : k = H := by omega
        have hki : ¬ ((k : Int) < (k : Int)) := by omega
        have HN8 : Hid (OwnAny wr w.heap.size 25 (some ⟨gn, 0, none⟩) n2 c2) := by
          obtain ⟨xs, h⟩ := HN7.out
          exact ⟨xs, own_frm h HFr.out (fun j hj h => by have e : gn = j := (by simpa [Value.ownBlock] using hj); omega)⟩
        have HF8 := hide (HFr.out.mono (T := fun j => j = gm ∨ j = gn) (fun _ _ h => .inl h))
        clear hOA HFr
        go_wp2_with fail
        go_loopw [21] (fun i wr => ∃ j : Nat, j ≤ n2 ∧ i = .int .i64 j ∧ OwnAny wr w.heap.size 25 (some ⟨gn, 0, none⟩) n2 c2 ∧ Frm (fun j => j = gm ∨ j = gn) w7 wr) (fun i _ => n2 - (intOf i).toNat)
        case atStart => exact ⟨0, by omega, rfl, HN8.out, HF8.out⟩
        case round =>
          clear HN8 HF8
          obtain ⟨j, hj, rfl, hOA, hFr⟩ := hrel
          have HFr := hide hFr
          clear hFr
          by_cases hjl : j < n2
          · have hji : (j : Int) < (n2 : Int) := by omega
            obtain ⟨g', v, e1, _, _, hcv, hfv, hset⟩ := hOA.at hjl
            have e1 : gn = g' := by injection e1 with e1; injection e1 with e1
            subst e1
            have HS := hide (hset (.int .u16 9))
            have HFS := hide (HFr.out.trans (Frm.setCell _ ⟨gn, j, none⟩ (.int .u16 9) (fun j => j = gn) rfl) (fun _ _ h => .inr h))
            clear hset hOA
            go_wp2_with fail
            go_roundw
            case rel => exact ⟨j + 1, by omega, by go_num, HS.out, HFS.out⟩
            case measure => simp [intOf]; omega
          · obtain rfl : j = n2 := by omega
            have hji : ¬ ((j : Int) < (j : Int)) := by omega
            have HRL := hide (own_rds (own_frm HL7.out HFr.out (fun j hj h => by have e : gl = j := (by simpa [Value.ownBlock] using hj); omega)))
            have HRW := hide (own_rds (own_frm HW7.out HFr.out (fun j hj h => by have e : gw = j := (by simpa [Value.ownBlock] using hj); omega)))
            have HB8 := hide (HB7.out.trans (HFr.out.below HB7.out.size (fun j hj => by omega)))
            go_wp2_with (go_at_call 11; refine (same_yes _ HRL.out HRW.out (by omega) (by omega)).mono ?_; rintro e w9 ⟨rfl, q, rfl⟩)
            go_ret
            exact ⟨rfl, below_drewN HB8.out _⟩
  · have hf : ¬ (f = 0) := by have := hF.pos; omega
    have HF := hide hF
    clear hF
    go_enter Try.func6, Try.ntmps6
    go_wp2_with fail
    refine (shown_any _).mono ?_
    rintro e w1 ⟨rfl, hb1⟩
    have hs1 : w.heap.size ≤ (w1.alloc (.cells #[] 25)).heap.size := by have := hb1.size; simp; omega
    have hR2 := (H2.out.below hb1).frm0 (Frm.alloc w1 (.cells #[] 25) (fun _ => False))
    go_wp2_with (first
      | (refine wpl_min rfl (.tmp 25) (.const (.int .i64 20)) _ _ rfl _ (len0 : Int) 20 (n0 : Int) rfl rfl HM0.out ?_)
      | (refine wpl_min rfl (.tmp 31) (.const (.int .i64 40)) _ _ rfl _ (len2 : Int) 40 (n2 : Int) rfl rfl HM2.out ?_)
      | (at_builtin; refine wpl_appQ one_ad rfl (.tmp 28) (.tmp 33) rfl _ w1.heap.size (.slice (some ⟨w1.heap.size, 0, none⟩) 0 0) 0 [] rfl (World.ownsRow_made w1 #[] 0 (Nat.le_refl _) (by simp [maxLen]) (by simp)) a2 n2 cap2 (cellsI .u16 nodes) rfl hR2 (cellsI_one _) (by decide) n2 (Nat.zero_add n2).symm (by omega) (by simp) ?_; intro A2 c2 w2 hO2 hF2 hat2))
    rw [List.nil_append] at hO2
    have hB2 : Below w.heap.size w w2 := (hb1.alloc hb1.size _).trans (hF2.below hs1 (fun k hk => by have e : k = w1.heap.size := (by simpa [Value.ownBlock] using hk); have := hb1.size; omega))
    refine (draw_not _ HF.out (by omega) (by omega) (own_rds hO2)).mono ?_
    rintro e w3 ⟨⟨A3, c3, rfl, hO3⟩, hb3⟩
    go_wp2_with fail
    go_ret
    exact ⟨rfl, hB2.trans (hb3.mono hB2.size)⟩
end Go.Proofs.Ytpcnnkgfemdnlaa
