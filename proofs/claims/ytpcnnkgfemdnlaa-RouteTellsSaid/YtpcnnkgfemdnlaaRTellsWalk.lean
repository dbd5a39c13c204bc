/-
  RouteTells' walk: whatever comes in, the law returns true, and what lay lies as it lay.
-/
import Derived.Test.YtpcnnkgfemdnlaaRt10
namespace Go.Proofs.Ytpcnnkgfemdnlaa
set_option linter.unusedVariables false
open Go.RowKit

theorem draws_both (A B : Option Addr) (nw ca n cb : Nat) (ws nodes : List Nat) (hops : Int) (last : Nat) (hu : ∀ x ∈ ws, x < 18446744073709551616) (hn : n ≤ 1000000) (hw : nw ≤ 1000000) :
    ∃ (L : List Nat) (N : Nat) (used err : Int), L.length = N ∧ N ≤ 5 ∧
      (∀ w, Rds w A nw (cellsI .u64 ws) → Rds w B n (cellsI .u16 nodes) → Calls Try.prog 9 #[.slice A nw ca, .slice B n cb, .int .i64 hops, .int .u16 (last : Int)] w fun e w' =>
        ∃ A c, e = .returned (.tuple #[.slice A N c, .int .i64 used, .int .i64 err]) ∧ w'.ownsRow w.heap.size 25 1 (.slice A N c) N (cellsI .u16 L) ∧ Below w.heap.size w w') ∧
      (∀ w, Rds w A nw (cellsI .u64 ws) → Rds w B n (cellsI .u16 nodes) → Calls Try.prog 10 #[.slice A nw ca, .slice B n cb, .int .i64 hops, .int .u16 (last : Int)] w fun e w' =>
        ∃ A c, e = .returned (.tuple #[.slice A N c, .int .i64 used, .int .i64 err]) ∧ w'.ownsRow w.heap.size 25 1 (.slice A N c) N (cellsI .u16 L) ∧ Below w.heap.size w w') := by
  rcases fine_or nw nodes hops last with hF | ⟨f, hF⟩
  · refine ⟨routeL ws nodes hops last, (routeL ws nodes hops last).length, hops - 1, 0, rfl, ?_, fun w hA hB => draw_fine A B nw ca n cb ws nodes hops last w hA hu hB hw hF, fun w hA hB => (rdraw_any A B nw ca n cb ws nodes hops last w hA hu hB hw).mono fun e w' h => h.1 hF⟩
    have := routeL_length (ws := ws) (nodes := nodes) (last := last) hF.h0
    have := hF.h1
    omega
  · exact ⟨[], 0, 0, f, rfl, by omega, fun w hA hB => draw_bad A B nw ca n cb nodes hops last f w hB hn hw hF, fun w hA hB => (rdraw_any A B nw ca n cb ws nodes hops last w hA hu hB hw).mono fun e w' h => h.2 f hF⟩
theorem counts_both (n hops : Int) : ∃ v : Int,
      (∀ w, Calls Try.prog 12 #[.int .i64 n, .int .i64 hops] w fun e w' => e = .returned (.int .u64 v) ∧ Below w.heap.size w w') ∧
      (∀ w, Calls Try.prog 13 #[.int .i64 n, .int .i64 hops] w fun e w' => e = .returned (.int .u64 v) ∧ w = w') := by
  by_cases h : 1 ≤ hops ∧ hops ≤ 5 ∧ hops ≤ n ∧ n ≤ 16
  · exact ⟨_, fun w => count_fine n hops w h.1 h.2.1 h.2.2.1 h.2.2.2, fun w => rcount_fine n hops w h.1 h.2.1 h.2.2.1 h.2.2.2⟩
  · exact ⟨_, fun w => count_bad n hops w h, fun w => rcount_bad n hops w h⟩

set_option maxHeartbeats 8000000 in
set_option maxRecDepth 100000 in
theorem tells_walk (a0 : Option Addr) (len0 cap0 : Nat) (l0 : List Nat) (a1 : Option Addr) (len1 cap1 : Nat) (l1 : List Nat) (hops : Int) (last : Nat) (w : World)
    (h0 : Rds w a0 len0 (cellsI .u64 l0)) (hu : ∀ n ∈ l0, n < 18446744073709551616) (hc0 : len0 ≤ cap0) (hm0 : cap0 ≤ 9223372036854775807)
    (h1 : Rds w a1 len1 (cellsI .u16 l1)) (hc1 : len1 ≤ cap1) (hm1 : cap1 ≤ 9223372036854775807) :
    Calls Try.prog 3 #[.slice a0 len0 cap0, .slice a1 len1 cap1, .int .i64 hops, .int .u16 (last : Int)] w fun e w' => e = .returned (.bool true) ∧ Below w.heap.size w w' := by
  obtain ⟨n0, HM0, hn0, hn0', he0⟩ := nat_min len0 20
  obtain ⟨n1, HM1, hn1, hn1', he1⟩ := nat_min len1 40
  clear he0 he1
  have H0 := hide (h0.first hn0)
  have H1 := hide (h1.first hn1)
  have hnc0 : n0 ≤ cap0 := by omega
  have hnc1 : n1 ≤ cap1 := by omega
  obtain ⟨L, N, used, err, hL, hN, HD, HR⟩ := draws_both a0 a1 n0 cap0 n1 cap1 (l0.take n0) (l1.take n1) hops last (fun x hx => hu x (List.mem_of_mem_take hx)) (by omega) (by omega)
  obtain ⟨v, HC, HRC⟩ := counts_both (n1 : Int) hops
  generalize l0.take n0 = ws at *
  generalize l1.take n1 = nodes at *
  clear h0 h1 hu hL
  go_enter Try.func3, Try.ntmps3
  go_wp2_with fail
  refine (shown_any _).mono ?_
  rintro e w1 ⟨rfl, hb1⟩
  go_wp2_with (first
    | (refine wpl_min rfl (.tmp 19) (.const (.int .i64 20)) _ _ rfl _ (len0 : Int) 20 (n0 : Int) rfl rfl HM0.out ?_)
    | (refine wpl_min rfl (.tmp 24) (.const (.int .i64 40)) _ _ rfl _ (len1 : Int) 40 (n1 : Int) rfl rfl HM1.out ?_))
  refine (HD w1 (H0.out.below hb1) (H1.out.below hb1)).mono ?_
  rintro e w2 ⟨A2, c2, rfl, hO2, hb2⟩
  have hB2 := hb1.trans (hb2.mono hb1.size)
  have HO2 := hide hO2
  have HB2 := hide hB2
  clear hO2 hb2 hB2
  go_wp2_with fail
  refine (HR w2 (H0.out.below HB2.out) (H1.out.below HB2.out)).mono ?_
  rintro e w3 ⟨A3, c3, rfl, hO3, hb3⟩
  have HB3 := hide (HB2.out.trans (hb3.mono HB2.out.size))
  have HR2 := hide (own_rds (own_frm HO2.out (Frm.of_below (S := fun _ => False) hb3) (fun _ _ h => h)))
  have HR3 := hide (own_rds hO3)
  clear hO3 hb3 HO2 HB2 HD HR H0 H1
  go_wp2_with (first
    | (go_at_call 11; refine (same_yes _ HR2.out HR3.out (by omega) (by omega)).mono ?_; rintro e w4 ⟨rfl, q, rfl⟩)
    | (go_at_call 12; refine (HC _).mono ?_; rintro e w5 ⟨rfl, hb5⟩)
    | (go_at_call 13; refine (HRC _).mono ?_; rintro e w6 ⟨rfl, rfl⟩))
  go_ret
  exact ⟨rfl, (below_drewN HB3.out q).trans (hb5.mono HB3.out.size)⟩
end Go.Proofs.Ytpcnnkgfemdnlaa
