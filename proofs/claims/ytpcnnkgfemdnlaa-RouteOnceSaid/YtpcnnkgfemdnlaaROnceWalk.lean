/-
  RouteOnce's walk: whatever comes in, the law returns true, and what lay lies as it lay.
-/
import Derived.Test.YtpcnnkgfemdnlaaRt8
namespace Go.Proofs.Ytpcnnkgfemdnlaa
set_option linter.unusedVariables false
open Go.RowKit

theorem routeN_nodup {nw : Nat} {ws nodes : List Nat} {hops : Int} {m last : Nat} (h : Fine nw nodes hops last) (hm : hops = (m : Int) + 1) : (routeN ws nodes m last).Nodup := by
  have hl := h.last
  have hm2 : m ≤ (others nodes last).length := by have := h.h5; omega
  rw [routeN, List.nodup_append]
  refine ⟨outs_nodup hm2 (others_nodup h.h3 last), by simp, ?_⟩
  intro a ha b hb e
  have hb : b = last := by simpa using hb
  subst e hb
  exact (others_mem.1 (outs_mem hm2 ha)).2 rfl
theorem routeN_mem {nw : Nat} {ws nodes : List Nat} {hops : Int} {m last : Nat} (h : Fine nw nodes hops last) (hm : hops = (m : Int) + 1) {x : Nat} (hx : x ∈ routeN ws nodes m last) : x ∈ nodes := by
  have hl := h.last
  have hm2 : m ≤ (others nodes last).length := by have := h.h5; omega
  rcases List.mem_append.1 hx with hx | hx
  · exact (others_mem.1 (outs_mem hm2 hx)).1
  · have : x = last := by simpa using hx
    exact this ▸ h.h4
theorem getD_mem {l : List Nat} {k : Nat} (h : k < l.length) : l.getD k 0 ∈ l := by
  rw [List.getD_eq_getElem?_getD, List.getElem?_eq_getElem h]
  exact List.getElem_mem h
theorem nodup_ne {l : List Nat} (h : l.Nodup) {i j : Nat} (hj : j < i) (hi : i < l.length) : l.getD j 0 ≠ l.getD i 0 := by
  rw [List.getD_eq_getElem?_getD, List.getD_eq_getElem?_getD, List.getElem?_eq_getElem hi, List.getElem?_eq_getElem (by omega)]
  intro e
  have := (List.getElem_inj h).1 e
  omega

set_option maxHeartbeats 8000000 in
set_option maxRecDepth 100000 in
theorem once_walk (a0 : Option Addr) (len0 cap0 : Nat) (l0 : List Nat) (a1 : Option Addr) (len1 cap1 : Nat) (l1 : List Nat) (hops : Int) (last : Nat) (w : World)
    (h0 : Rds w a0 len0 (cellsI .u64 l0)) (hu : ∀ n ∈ l0, n < 18446744073709551616) (hc0 : len0 ≤ cap0) (hm0 : cap0 ≤ 9223372036854775807)
    (h1 : Rds w a1 len1 (cellsI .u16 l1)) (hc1 : len1 ≤ cap1) (hm1 : cap1 ≤ 9223372036854775807) :
    Calls Try.prog 4 #[.slice a0 len0 cap0, .slice a1 len1 cap1, .int .i64 hops, .int .u16 (last : Int)] w fun e w' => e = .returned (.bool true) ∧ Below w.heap.size w w' := by
  obtain ⟨n0, HM0, hn0, hn0', he0⟩ := nat_min len0 20
  obtain ⟨n1, HM1, hn1, hn1', he1⟩ := nat_min len1 40
  clear he0 he1
  have H0 := hide (h0.first hn0)
  have H1 := hide (h1.first hn1)
  have HU : Hid (∀ x ∈ l0.take n0, x < 18446744073709551616) := fun x hx => hu x (List.mem_of_mem_take hx)
  have hnc0 : n0 ≤ cap0 := by omega
  have hnc1 : n1 ≤ cap1 := by omega
  generalize l0.take n0 = ws at *
  generalize l1.take n1 = nodes at *
  clear h0 h1 hu
  have HNL : Hid (nodes.length = n1) := by have := H1.out.1; rwa [cellsI_length] at this
  rcases fine_or n0 nodes hops last with hF | ⟨f, hF⟩
  · obtain ⟨M, hM⟩ : ∃ M : Nat, hops = (M : Int) + 1 := ⟨(hops - 1).toNat, by have := hF.h0; omega⟩
    have hM4 : M ≤ 4 := by have := hF.h1; omega
    have HND := hide (routeN_nodup (ws := ws) hF hM)
    have HME : Hid (∀ x ∈ routeN ws nodes M last, x ∈ nodes) := fun x hx => routeN_mem hF hM hx
    have HRL := hide (routeN_length ws nodes M last)
    have HLAST : Hid ((routeN ws nodes M last).getD M 0 = last) := by
      show _ = _
      rw [List.getD_eq_getElem?_getD, routeN, List.getElem?_append_right (by rw [outs_length]; omega), outs_length, Nat.sub_self]
      rfl
    have HF := hide hF
    obtain ⟨H, hH⟩ : ∃ H, H = M + 1 := ⟨_, rfl⟩
    have hhH : hops = (H : Int) := by omega
    have hwM : IntKind.i64.wrap ((H : Int) - 1) = (M : Int) := by rw [IntKind.wrap_i64]; omega
    rw [← hH] at HRL
    have HHH := hide hH
    have HMM := hide hM
    rw [hhH] at HF HMM ⊢
    have hMH : M < H := by omega
    have hMHi : (M : Int) < (H : Int) := by omega
    have hH5 : H ≤ 5 := by omega
    clear hF hM hH hhH hM4
    have HDR := fun w hA hB => draw_ok (A := a0) (B := a1) (ca := cap0) (cb := cap1) (n := n1) (ws := ws) (m := M) (N := H) w HMM.out HHH.out HF.out HU.out (by omega) hA hB
    generalize routeN ws nodes M last = R at *
    go_enter Try.func4, Try.ntmps4
    go_wp2_with fail
    refine (shown_any _).mono ?_
    rintro e w1 ⟨rfl, hb1⟩
    go_wp2_with (first
      | (refine wpl_min rfl (.tmp 20) (.const (.int .i64 20)) _ _ rfl _ (len0 : Int) 20 (n0 : Int) rfl rfl HM0.out ?_)
      | (refine wpl_min rfl (.tmp 25) (.const (.int .i64 40)) _ _ rfl _ (len1 : Int) 40 (n1 : Int) rfl rfl HM1.out ?_))
    refine (HDR _ (H0.out.below hb1) (H1.out.below hb1)).mono ?_
    rintro e w2 ⟨A2, c2, rfl, hO2, hb2⟩
    obtain ⟨g2, rfl⟩ := own_some hO2 (by omega)
    have HB2 := hide (hb1.trans (hb2.mono hb1.size))
    have HN2 := hide (H1.out.below HB2.out)
    have HCR : Hid (∀ q k, k < H → (w2.drewN q).cell? ⟨g2, k, none⟩ = some (.int .u16 ((R.getD k 0 : Nat) : Int))) := by
      intro q k hk
      obtain ⟨pa, e1, hc⟩ := (own_rds hO2).2 (by omega)
      injection e1 with e1
      subst e1
      have := hc k _ (cellsI_at R k (by rw [HRL.out]; exact hk))
      rw [addr_add, Nat.zero_add] at this
      exact this
    clear hb1 hb2 hO2 HDR
    go_wp2_with fail
    go_loopw [13] (fun i wr => ∃ (k q : Nat), k ≤ H ∧ i = .int .i64 k ∧ wr = w2.drewN q) (fun i _ => H - (intOf i).toNat)
    case atStart => exact ⟨0, 0, by omega, rfl, rfl⟩
    case round =>
      obtain ⟨k, q, hk, rfl, rfl⟩ := hrel
      by_cases hlt : k < H
      · have hki : (k : Int) < (H : Int) := by omega
        have HX := hide (HME.out _ (getD_mem (by rw [HRL.out]; exact hlt) : R.getD k 0 ∈ R))
        have HDJ : Hid (∀ j, j < k → R.getD j 0 ≠ R.getD k 0) := fun j hj => nodup_ne HND.out hj (by rw [HRL.out]; exact hlt)
        have HCK : Hid (∀ q, (w2.drewN q).cell? ⟨g2, k, none⟩ = some (.int .u16 ((R.getD k 0 : Nat) : Int))) := fun q => HCR.out q k hlt
        generalize R.getD k 0 = x at *
        go_wp2_with fail
        go_loopw [14, 15] (fun t i wr => ∃ (j q : Nat) (b : Bool), j ≤ n1 ∧ i = .int .i64 j ∧ t = .bool b ∧ (b = true ↔ x ∈ nodes.take j) ∧ wr = w2.drewN q) (fun _ i _ => n1 - (intOf i).toNat)
        case atStart => exact ⟨0, q, false, by omega, rfl, rfl, by simp, rfl⟩
        case round =>
          obtain ⟨j, q1, b, hj, rfl, rfl, hb, rfl⟩ := hrel
          have HBB := hide hb
          clear hb
          by_cases hjl : j < n1
          · have hji : (j : Int) < (n1 : Int) := by omega
            obtain ⟨pb, rfl, hcb⟩ := HN2.out.2 (by omega)
            have cb := hcb j _ (cellsI_at nodes j (by rw [HNL.out]; exact hjl))
            have cb' : ∀ q, (w2.drewN q).cell? (pb.add j) = some (.int .u16 ((nodes.getD j 0 : Nat) : Int)) := fun _ => cb
            have ck' : ∀ q, (w2.drewN q).cell? ⟨g2, k, none⟩ = some (.int .u16 (x : Int)) := HCK.out
            have HT := hide (take_next nodes j (by rw [HNL.out]; exact hjl))
            clear cb hcb
            cases b with
            | true =>
              have HBN : Hid (x ∈ nodes.take (j + 1)) := by show _ ∈ _; rw [HT.out]; exact List.mem_append_left _ (HBB.out.1 rfl)
              clear HBB HT
              go_wp2_with fail
              go_quiet (fail)
              go_wp2
              go_roundw
              case rel => exact ⟨j + 1, _, true, by omega, by go_num, rfl, by simpa using HBN.out, rfl⟩
              case measure => simp [intOf]; omega
            | false =>
              have hnm : x ∉ nodes.take j := fun h => by have := HBB.out.2 h; cases this
              by_cases hx : nodes.getD j 0 = x
              · have HBN : Hid (x ∈ nodes.take (j + 1)) := by show _ ∈ _; rw [HT.out, hx]; simp
                rw [hx] at cb'
                clear HBB HT hx hnm
                go_wp2_with fail
                go_quiet (fail)
                go_wp2
                go_roundw
                case rel => exact ⟨j + 1, _, true, by omega, by go_num, rfl, by simpa using HBN.out, rfl⟩
                case measure => simp [intOf]; omega
              · have HBN : Hid (x ∉ nodes.take (j + 1)) := by
                  show _ ∉ _
                  rw [HT.out]
                  simp only [List.mem_append, List.mem_singleton, not_or]
                  exact ⟨hnm, fun h => hx h.symm⟩
                have hxi : ¬ (((nodes.getD j 0 : Nat) : Int) = (x : Int)) := by omega
                clear HBB HT hx hnm
                generalize ((nodes.getD j 0 : Nat) : Int) = y at *
                go_wp2_with fail
                go_quiet (fail)
                go_wp2
                go_roundw
                case rel => exact ⟨j + 1, _, false, by omega, by go_num, by simp [hxi], by simpa using HBN.out, rfl⟩
                case measure => simp [intOf]; omega
          · obtain rfl : j = n1 := by omega
            have hji : ¬ ((j : Int) < (j : Int)) := by omega
            obtain rfl : b = true := HBB.out.2 (by rw [List.take_of_length_le (by rw [HNL.out]; exact Nat.le_refl _)]; exact HX.out)
            clear HBB
            go_wp2_with fail
            go_loopw [16] (fun i wr => ∃ (j q : Nat), j ≤ k ∧ i = .int .i64 j ∧ wr = w2.drewN q) (fun i _ => k - (intOf i).toNat)
            case atStart => exact ⟨0, q1, by omega, rfl, rfl⟩
            case round =>
              obtain ⟨i, q2, hi, rfl, rfl⟩ := hrel
              by_cases hil : i < k
              · have hii : (i : Int) < (k : Int) := by omega
                have hiH : (i : Int) < (H : Int) := by omega
                have hne := HDJ.out i hil
                have ci' : ∀ q, (w2.drewN q).cell? ⟨g2, i, none⟩ = some (.int .u16 ((R.getD i 0 : Nat) : Int)) := fun q => HCR.out q i (by omega)
                have ck' : ∀ q, (w2.drewN q).cell? ⟨g2, k, none⟩ = some (.int .u16 (x : Int)) := HCK.out
                have hxi : ¬ (((R.getD i 0 : Nat) : Int) = (x : Int)) := by omega
                clear hne
                generalize ((R.getD i 0 : Nat) : Int) = y at *
                go_wp2_with fail
                go_quiet (fail)
                go_wp2
                go_roundw
                case rel => exact ⟨i + 1, _, by omega, by go_num, rfl⟩
                case measure => simp [intOf]; omega
              · obtain rfl : i = k := by omega
                have hii : ¬ ((i : Int) < (i : Int)) := by omega
                go_wp2_with fail
                go_roundw
                case rel => exact ⟨i + 1, _, by omega, by go_num, rfl⟩
                case measure => simp [intOf]; omega
      · obtain rfl : k = H := by omega
        have hki : ¬ ((k : Int) < (k : Int)) := by omega
        have cM := HCR.out q M hMH
        rw [HLAST.out] at cM
        go_wp2_with fail
        go_ret
        exact ⟨rfl, below_drewN HB2.out _⟩
  · have hf : ¬ (f = 0) := by have := hF.pos; omega
    have HF := hide hF
    clear hF
    go_enter Try.func4, Try.ntmps4
    go_wp2_with fail
    refine (shown_any _).mono ?_
    rintro e w1 ⟨rfl, hb1⟩
    go_wp2_with (first
      | (refine wpl_min rfl (.tmp 20) (.const (.int .i64 20)) _ _ rfl _ (len0 : Int) 20 (n0 : Int) rfl rfl HM0.out ?_)
      | (refine wpl_min rfl (.tmp 25) (.const (.int .i64 40)) _ _ rfl _ (len1 : Int) 40 (n1 : Int) rfl rfl HM1.out ?_))
    refine (draw_not _ HF.out (by omega) (by omega) (H1.out.below hb1)).mono ?_
    rintro e w2 ⟨⟨A2, c2, rfl, hO2⟩, hb2⟩
    go_wp2_with fail
    go_ret
    exact ⟨rfl, hb1.trans (hb2.mono hb1.size)⟩
end Go.Proofs.Ytpcnnkgfemdnlaa
