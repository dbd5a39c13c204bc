/-
  Heaps of int: firstFrom, rise, sink.
-/
import Derived.Test.YtjpmicjlbkdcbaaHqI1
namespace Go.Proofs.Ytjpmicjlbkdcbaa.hI
set_option linter.unusedVariables false
set_option linter.unusedSimpArgs false
open Go.RowKit

set_option maxHeartbeats 4000000 in
set_option maxRecDepth 100000 in
theorem first_any (g r n c p : Nat) (L : List Th) (w : World) (h0 : w.cell? ⟨g, 0, none⟩ = some (.slice (some ⟨r, 0, none⟩) n c)) (hr : Row w r c L) (hn : L.length = n) (hp : n ≤ 100000) (hpn : p ≤ n) :
    Calls Try.prog 30 #[.pointer (some ⟨g, 0, none⟩), .int .i64 (p : Int)] w fun e w' => e = .returned (.int .i64 (firstK L p 2 : Nat)) ∧ Frm (fun _ => False) w w' := by
  have HB := hide (below_any p w (by omega))
  have H0 := hide h0
  have HR := hide hr
  have HN := hide hn
  clear h0 hr hn
  go_enter Try.func30, Try.ntmps30
  go_wp2_with (go_at_call 36; refine HB.out.mono ?_; rintro e w1 ⟨rfl, f1⟩)
  clear HB
  go_loopw [5, 7, 11] (fun f pl i wr => ∃ k : Nat, k ≤ 2 ∧ i = .int .i64 (k : Int) ∧ f = .int .i64 (firstK L p k : Nat) ∧ Frm (fun _ => False) w wr) (fun _ _ i _ => 2 - (intOf i).toNat)
  case atStart => exact ⟨0, by omega, rfl, rfl, f1⟩
  case round =>
    clear f1
    obtain ⟨k, hk, rfl, rfl, hf⟩ := hrel
    have h0 := cell_frm hf H0.out (fun h => h)
    have HRr := hide (HR.out.frm0 hf)
    have HF := hide hf
    clear hf
    by_cases hlt : k < 2
    · have hlt' : (k : Int) < 2 := by omega
      obtain ⟨q, hq⟩ : ∃ q : Nat, q = 2 * p + 1 + k := ⟨_, rfl⟩
      obtain ⟨f, hff⟩ : ∃ f : Nat, f = firstK L p k := ⟨_, rfl⟩
      have hidx : ∀ W, (Instr.index 73 (.agg #[.int .i64 (2 * (p : Int) + 1), .int .i64 (2 * (p : Int) + 2)]) (.int .i64 (k : Int))).run Try.prog W = .ok (.int .i64 (q : Int)) W := fun W =>
        run_index_agg Try.underlying73 Try.underlying3 (by kernel_rfl) [.int .i64 (2 * (p : Int) + 1), .int .i64 (2 * (p : Int) + 2)] k _ hlt (idx2 p k q hlt hq) W
      have HL := hide (len_any g n c (some ⟨r, 0, none⟩) _ h0)
      rw [← hff]
      by_cases hqn : q < n
      · have hqn' : (q : Int) < (n : Int) := by omega
        have hfn : f < n := by rw [hff, ← HN.out]; exact firstK_lt L p k (by rw [HN.out]; omega)
        have HA := hide (ahead_any g r n c q f L _ h0 HRr.out HN.out hqn hfn)
        by_cases hd : (at_ L q).lt (at_ L f)
        · have hd' : decide ((at_ L q).lt (at_ L f)) = true := decide_eq_true hd
          have HK : Hid (firstK L p (k + 1) = q) := by show _ = _; unfold firstK; rw [← hff, ← hq, if_pos ⟨by rw [HN.out]; exact hqn, hd⟩]
          rw [hd'] at HA
          have HQ := hide hq
          have HFF := hide hff
          clear hq hff hd hd'
          go_wp2_with (first | (go_at_call 18; refine HL.out.mono ?_; rintro e w2 ⟨rfl, hW2⟩; subst hW2) | (go_at_call 28; refine HA.out.mono ?_; rintro e w3 ⟨rfl, f3⟩))
          go_roundw
          case rel => exact ⟨k + 1, by omega, by go_num, by rw [HK.out], HF.out.trans f3 (fun _ _ h => h)⟩
          case measure => simp [intOf]; omega
        · have hd' : decide ((at_ L q).lt (at_ L f)) = false := decide_eq_false hd
          have HK : Hid (firstK L p (k + 1) = f) := by show _ = _; unfold firstK; rw [← hff, ← hq, if_neg (fun h => hd h.2)]
          rw [hd'] at HA
          have HQ := hide hq
          have HFF := hide hff
          clear hq hff hd hd'
          go_wp2_with (first | (go_at_call 18; refine HL.out.mono ?_; rintro e w2 ⟨rfl, hW2⟩; subst hW2) | (go_at_call 28; refine HA.out.mono ?_; rintro e w3 ⟨rfl, f3⟩))
          go_roundw
          case rel => exact ⟨k + 1, by omega, by go_num, by rw [HK.out], HF.out.trans f3 (fun _ _ h => h)⟩
          case measure => simp [intOf]; omega
      · have hqn' : ¬ (q : Int) < (n : Int) := by omega
        have HK : Hid (firstK L p (k + 1) = f) := by show _ = _; unfold firstK; rw [← hff, ← hq, if_neg (fun h => hqn (by rw [← HN.out]; exact h.1))]
        have HQ := hide hq
        have HFF := hide hff
        clear hq hff
        go_wp2_with (go_at_call 18; refine HL.out.mono ?_; rintro e w2 ⟨rfl, hW2⟩; subst hW2)
        go_roundw
        case rel => exact ⟨k + 1, by omega, by go_num, by rw [HK.out], HF.out⟩
        case measure => simp [intOf]; omega
    · obtain rfl : k = 2 := by omega
      go_wp2
      go_ret
      exact ⟨rfl, HF.out⟩

set_option maxHeartbeats 4000000 in
set_option maxRecDepth 100000 in
theorem rise_any (g r n c p : Nat) (L : List Th) (w : World) (h0 : w.cell? ⟨g, 0, none⟩ = some (.slice (some ⟨r, 0, none⟩) n c)) (hr : Row w r c L) (hn : L.length = n) (hgr : g ≠ r) (hp : n ≤ 100000) (h : RiseL L p) :
    Calls Try.prog 23 #[.pointer (some ⟨g, 0, none⟩), .int .i64 (p : Int)] w fun e w' => e = .returned (.tuple #[]) ∧ ∃ L', Row w' r c L' ∧ L'.Perm L ∧ HeapL L' ∧ Frm (fun k => k = r) w w' := by
  have H0 := hide h0
  go_enter Try.func23, Try.ntmps23
  go_wp2
  go_loopw [1, 4] (fun i _ wr => ∃ (k : Nat) (M : List Th), i = .int .i64 (k : Int) ∧ Row wr r c M ∧ M.Perm L ∧ RiseL M k ∧ Frm (fun k => k = r) w wr) (fun i _ _ => (intOf i).toNat)
  case atStart => exact ⟨p, L, rfl, hr, .refl _, h, Frm.refl _ _⟩
  case round =>
    clear h hr h0
    obtain ⟨k, M, rfl, hM, hp2, hR, hf⟩ := hrel
    have hlen : M.length = n := hp2.length_eq.trans hn
    have hk : k < n := by rw [← hlen]; exact hR.1
    by_cases h1 : 0 < k
    · have h1' : (0 : Int) < (k : Int) := by omega
      obtain ⟨q, hq⟩ : ∃ q : Nat, q = (k - 1) / 2 := ⟨_, rfl⟩
      have hq1 : q < k := by omega
      have e1 : Int.tdiv ((k : Int) - 1) 2 = (q : Int) := by rw [Int.tdiv_eq_ediv_of_nonneg (by omega)]; omega
      have e2 : IntKind.i64.wrap ((k : Int) - 1) = (k : Int) - 1 := by simp only [IntKind.wrap_i64]; omega
      have hw0 := cell_frm hf H0.out hgr
      have HA := hide (ahead_any g r n c k q M _ hw0 hM hlen hk (by omega))
      have HQ := hide hq
      clear hq
      by_cases hd : (at_ M k).lt (at_ M q)
      · rw [decide_eq_true hd] at HA
        have HS := hide (fun W (fW : Frm (fun _ => False) _ W) => swap_any g r n c k q M W (cell_frm fW hw0 (fun h => h)) (hM.frm0 fW) hlen hk (by omega))
        have HRS := hide (hR.step h1 (by rw [← HQ.out]; exact hd))
        have HF := hide hf
        have HPP := hide ((swapT_perm M k q (by omega) (by omega)).trans hp2)
        clear hd hM hp2 hR hf hlen hw0
        go_wp2_with (first | (go_at_call 28; refine HA.out.mono ?_; rintro e w3 ⟨rfl, f3⟩) | (go_at_call 29; refine (HS.out _ f3).mono ?_; rintro e w4 ⟨rfl, r4, f4⟩))
        go_roundw
        case rel => exact ⟨q, _, rfl, r4, HPP.out, by rw [HQ.out]; exact HRS.out, HF.out.trans ((f3.mono (T := fun k => k = r) (fun _ _ h => h.elim)).trans f4 (fun _ _ h => h)) (fun _ _ h => h)⟩
        case measure => simp [intOf]; omega
      · rw [decide_eq_false hd] at HA
        have HD := hide (hR.done (.inr (by rw [← HQ.out]; exact hd)))
        have HF := hide hf
        have HM := hide hM
        have HPP := hide hp2
        clear hd hM hp2 hR hf hlen hw0
        go_wp2_with (go_at_call 28; refine HA.out.mono ?_; rintro e w3 ⟨rfl, f3⟩)
        (try simp only [Exit.inBlock, Exit.then]); refine bodyPost_ret (results_none rfl _ _ _) rfl ?_
        exact ⟨rfl, M, HM.out.frm0 f3, HPP.out, HD.out, HF.out.trans f3 (fun _ _ h => h.elim)⟩
    · obtain rfl : k = 0 := by omega
      have HD := hide (hR.done (.inl rfl))
      have HM := hide hM
      have HF := hide hf
      have HPP := hide hp2
      clear hM hp2 hR hf hlen
      go_wp2
      go_end0
      exact ⟨rfl, M, HM.out, HPP.out, HD.out, HF.out⟩

set_option maxHeartbeats 4000000 in
set_option maxRecDepth 100000 in
theorem sink_any (g r n c : Nat) (L : List Th) (w : World) (h0 : w.cell? ⟨g, 0, none⟩ = some (.slice (some ⟨r, 0, none⟩) n c)) (hr : Row w r c L) (hn : L.length = n) (hgr : g ≠ r) (hp : n ≤ 100000) (h : SinkL L 0) :
    Calls Try.prog 24 #[.pointer (some ⟨g, 0, none⟩), .int .i64 0] w fun e w' => e = .returned (.tuple #[]) ∧ ∃ L', Row w' r c L' ∧ L'.Perm L ∧ HeapL L' ∧ Frm (fun k => k = r) w w' := by
  have H0 := hide h0
  go_enter Try.func24, Try.ntmps24
  go_wp2
  go_loopw [1, 4] (fun i _ wr => ∃ (k : Nat) (M : List Th), i = .int .i64 (k : Int) ∧ k ≤ n ∧ Row wr r c M ∧ M.Perm L ∧ SinkL M k ∧ Frm (fun k => k = r) w wr) (fun i _ _ => n - (intOf i).toNat)
  case atStart => exact ⟨0, L, rfl, by omega, hr, .refl _, h, Frm.refl _ _⟩
  case round =>
    clear h hr h0
    obtain ⟨k, M, rfl, hk, hM, hp2, hR, hf⟩ := hrel
    have hlen : M.length = n := hp2.length_eq.trans hn
    have hw0 := cell_frm hf H0.out hgr
    have HA := hide (first_any g r n c k M _ hw0 hM hlen hp hk)
    obtain ⟨q, hq⟩ : ∃ q : Nat, q = firstK M k 2 := ⟨_, rfl⟩
    rw [← hq] at HA
    by_cases hqk : q = k
    · have hqk' : ((q : Int) == (k : Int)) = true := by rw [hqk]; exact beq_self_eq_true _
      have HD := hide (hR.done (firstK_done M k (by rw [← hq]; exact hqk)))
      have HM := hide hM
      have HF := hide hf
      have HPP := hide hp2
      clear hM hp2 hR hf hlen hw0 hq hqk
      go_wp2_with (go_at_call 30; refine HA.out.mono ?_; rintro e w3 ⟨rfl, f3⟩)
      (try simp only [Exit.inBlock, Exit.then]); refine bodyPost_ret (results_none rfl _ _ _) rfl ?_
      exact ⟨rfl, M, HM.out.frm0 f3, HPP.out, HD.out, HF.out.trans f3 (fun _ _ h => h.elim)⟩
    · have hqk' : ((q : Int) == (k : Int)) = false := beq_eq_false_iff_ne.2 (by omega)
      obtain ⟨hqn, hqc, hqm, hql⟩ := firstK_go M k (by rw [← hq]; exact hqk)
      rw [← hq] at hqn hqc hqm hql
      rw [hlen] at hqn
      have HS := hide (fun W (fW : Frm (fun _ => False) _ W) => swap_any g r n c k q M W (cell_frm fW hw0 (fun h => h)) (hM.frm0 fW) hlen (by omega) hqn)
      have HRS := hide (hR.step (by omega) hqc hqm hql)
      have HF := hide hf
      have HPP := hide ((swapT_perm M k q (by omega) (by omega)).trans hp2)
      have hkq : k < q := by omega
      clear hM hp2 hR hf hlen hw0 hq hqk hqc hqm hql
      go_wp2_with (first | (go_at_call 30; refine HA.out.mono ?_; rintro e w3 ⟨rfl, f3⟩) | (go_at_call 29; refine (HS.out _ f3).mono ?_; rintro e w4 ⟨rfl, r4, f4⟩))
      go_roundw
      case rel => exact ⟨q, _, rfl, by omega, r4, HPP.out, HRS.out, HF.out.trans ((f3.mono (T := fun k => k = r) (fun _ _ h => h.elim)).trans f4 (fun _ _ h => h)) (fun _ _ h => h)⟩
      case measure => simp [intOf]; omega
end Go.Proofs.Ytjpmicjlbkdcbaa.hI
