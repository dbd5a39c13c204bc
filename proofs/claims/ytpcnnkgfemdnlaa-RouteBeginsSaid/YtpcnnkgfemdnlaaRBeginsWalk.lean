/-
  RouteBegins' walk: whatever comes in, the law returns true, and what lay lies as it lay.
-/
import Derived.Test.YtpcnnkgfemdnlaaRt8
namespace Go.Proofs.Ytpcnnkgfemdnlaa
set_option linter.unusedVariables false
open Go.RowKit

set_option maxHeartbeats 8000000 in
set_option maxRecDepth 100000 in
theorem begins_walk (a0 : Option Addr) (len0 cap0 : Nat) (l0 : List Nat) (a1 : Option Addr) (len1 cap1 : Nat) (l1 : List Nat) (hops less : Int) (last : Nat) (w : World)
    (h0 : Rds w a0 len0 (cellsI .u64 l0)) (hu : ∀ n ∈ l0, n < 18446744073709551616) (hc0 : len0 ≤ cap0) (hm0 : cap0 ≤ 9223372036854775807)
    (h1 : Rds w a1 len1 (cellsI .u16 l1)) (hc1 : len1 ≤ cap1) (hm1 : cap1 ≤ 9223372036854775807) :
    Calls Try.prog 7 #[.slice a0 len0 cap0, .slice a1 len1 cap1, .int .i64 hops, .int .i64 less, .int .u16 (last : Int)] w fun e w' => e = .returned (.bool true) ∧ Below w.heap.size w w' := by
  obtain ⟨n0, HM0, hn0, hn0', he0⟩ := nat_min len0 20
  clear he0
  obtain ⟨n1, HM1, hn1, hn1', he1⟩ := nat_min len1 40
  clear he1
  have H0 := hide (h0.first hn0)
  have H1 := hide (h1.first hn1)
  have HU : Hid (∀ x ∈ l0.take n0, x < 18446744073709551616) := fun x hx => hu x (List.mem_of_mem_take hx)
  have hnc0 : n0 ≤ cap0 := by omega
  have hnc1 : n1 ≤ cap1 := by omega
  generalize l0.take n0 = ws at *
  generalize l1.take n1 = nodes at *
  clear h0 h1 hu
  rcases fine_or n0 nodes hops last with hF | ⟨f, hF⟩
  · obtain ⟨M, hM⟩ : ∃ M : Nat, hops = (M : Int) + 1 := ⟨(hops - 1).toNat, by have := hF.h0; omega⟩
    have hM4 : M ≤ 4 := by have := hF.h1; omega
    obtain ⟨x, hx⟩ : ∃ x : Nat, bits .and .i64 less 65535 = (x : Int) := ⟨(less % 65536).toNat, by rw [mask16]; omega⟩
    obtain ⟨r, hr⟩ : ∃ r : Nat, r = x % (M + 1) := ⟨_, rfl⟩
    have hrM : r ≤ M := by have := Nat.mod_lt x (show 0 < M + 1 by omega); omega
    have hm1' : (x : Int) % hops = (r : Int) := by rw [hM, hr]; rfl
    have hm2' : (x : Int).tmod hops = (r : Int) := by rw [Int.tmod_eq_emod_of_nonneg (by omega)]; exact hm1'
    have hF2 : Fine n0 nodes ((r : Int) + 1) last := hF.fewer (by omega) (by omega)
    have HF := hide hF
    obtain ⟨N, hN⟩ : ∃ N, N = r + 1 := ⟨_, rfl⟩
    obtain ⟨H, hH⟩ : ∃ H, H = M + 1 := ⟨_, rfl⟩
    have hwN : IntKind.i64.wrap (1 + (r : Int)) = (N : Int) := by rw [IntKind.wrap_i64]; omega
    have hwr : IntKind.i64.wrap ((N : Int) - 1) = (r : Int) := by rw [IntKind.wrap_i64]; omega
    have hhH : hops = (H : Int) := by omega
    have hNr : (N : Int) = (r : Int) + 1 := by omega
    have HNr := hide hNr
    have HF2 : Hid (Fine n0 nodes (N : Int) last) := by rw [hNr]; exact hF2
    have HHH := hide hH
    have HNN := hide hN
    have HMM := hide hM
    rw [hhH] at hm1' hm2' HF HMM ⊢
    have hH0 : ¬ ((H : Int) = 0) := by omega
    have hrN : r < N := by omega
    have hrNi : (r : Int) < (N : Int) := by omega
    have hNH : N ≤ H := by omega
    have hH5 : H ≤ 5 := by omega
    have HSAME : Hid ((routeN ws nodes M last).take r = (routeN ws nodes r last).take r) := by
      show _ = _
      obtain ⟨j, rfl⟩ : ∃ j, M = r + j := ⟨M - r, by omega⟩
      rw [routeN, routeN, List.take_append_of_le_length (by rw [outs_length]; omega), outs_take, List.take_append_of_le_length (by rw [outs_length]; omega), List.take_of_length_le (by rw [outs_length]; omega)]
    have HLAST : Hid ((cellsI .u16 (routeN ws nodes r last))[r]? = some (.int .u16 (last : Int))) := by
      show _ = _
      rw [cellsI_get, routeN, List.getElem?_append_right (by rw [outs_length]; omega), outs_length, Nat.sub_self]
      rfl
    clear hF hF2 hr hM hN hH hhH hNr hM4
    go_enter Try.func7, Try.ntmps7
    go_wp2_with fail
    refine (shown_any _).mono ?_
    rintro e w1 ⟨rfl, hb1⟩
    go_wp2_with (first
      | (refine wpl_min rfl (.tmp 22) (.const (.int .i64 20)) _ _ rfl _ (len0 : Int) 20 (n0 : Int) rfl rfl HM0.out ?_)
      | (refine wpl_min rfl (.tmp 27) (.const (.int .i64 40)) _ _ rfl _ (len1 : Int) 40 (n1 : Int) rfl rfl HM1.out ?_))
    refine (draw_ok (m := M) (N := H) _ HMM.out HHH.out HF.out HU.out (by omega) (H0.out.below hb1) (H1.out.below hb1)).mono ?_
    rintro e w2 ⟨A2, c2, rfl, hO2, hb2⟩
    obtain ⟨g2, rfl⟩ := own_some hO2 (by omega)
    have hB2 := hb1.trans (hb2.mono hb1.size)
    have HO2 := hide hO2
    clear hO2
    go_wp2_with fail
    refine (draw_ok (m := r) (N := N) _ HNr.out HNN.out HF2.out HU.out (by omega) (H0.out.below hB2) (H1.out.below hB2)).mono ?_
    rintro e w3 ⟨A3, c3, rfl, hO3, hb3⟩
    obtain ⟨g3, rfl⟩ := own_some hO3 (by omega)
    have hB3 := hB2.trans (hb3.mono hB2.size)
    obtain ⟨cur3, hbk3, hl3, ht3, hN3, _, _⟩ := own_blk hO3
    obtain ⟨cur2, hbk2, hl2, ht2, hN2, _, _⟩ := own_blk HO2.out
    have hcl : w3.cell? ⟨g3, r, none⟩ = some (.int .u16 (last : Int)) := by
      have h := HLAST.out
      rw [← ht3, List.getElem?_take, if_pos hrN] at h
      rw [hbk3.cell r]
      simpa using h
    have HR3 : Hid (∀ q, Rds (w3.drewN q) (some ⟨g3, 0, none⟩) r (cellsI .u16 ((routeN ws nodes r last).take r))) := fun q => ((own_rds hO3).first (by omega)).frm0 ((Frm.refl _ _).drewN q)
    have HR2 : Hid (∀ q, Rds (w3.drewN q) (some ⟨g2, 0, none⟩) r (cellsI .u16 ((routeN ws nodes r last).take r))) := by
      intro q
      have h := ((own_rds HO2.out).below (hb3.mono (Nat.le_refl _))).first (m := r) (by omega)
      rw [HSAME.out] at h
      exact h.frm0 ((Frm.refl _ _).drewN q)
    have hrc3 : r ≤ c3 := by omega
    have hrc2 : r ≤ c2 := by omega
    have HB3 := hide hB3
    clear hO3 hb1 hb2 hb3 hB2 hB3 hbk3 hbk2 ht3 ht2 hl3 hl2 HO2
    have hr6 : r ≤ 1000000 := by omega
    go_wp2_with fail
    go_quiet ((go_at_call 11; with_reducible exact same_quiet (HR3.out _) (HR2.out _) hr6 hr6))
    go_wp2
    go_ret
    exact ⟨rfl, below_drewN HB3.out _⟩
  · have hf : ¬ (f = 0) := by have := hF.pos; omega
    have HF := hide hF
    clear hF
    go_enter Try.func7, Try.ntmps7
    go_wp2_with fail
    refine (shown_any _).mono ?_
    rintro e w1 ⟨rfl, hb1⟩
    go_wp2_with (first
      | (refine wpl_min rfl (.tmp 22) (.const (.int .i64 20)) _ _ rfl _ (len0 : Int) 20 (n0 : Int) rfl rfl HM0.out ?_)
      | (refine wpl_min rfl (.tmp 27) (.const (.int .i64 40)) _ _ rfl _ (len1 : Int) 40 (n1 : Int) rfl rfl HM1.out ?_))
    refine (draw_not _ HF.out (by omega) (by omega) (H1.out.below hb1)).mono ?_
    rintro e w2 ⟨⟨A2, c2, rfl, hO2⟩, hb2⟩
    go_wp2_with fail
    go_ret
    exact ⟨rfl, hb1.trans (hb2.mono hb1.size)⟩
end Go.Proofs.Ytpcnnkgfemdnlaa
