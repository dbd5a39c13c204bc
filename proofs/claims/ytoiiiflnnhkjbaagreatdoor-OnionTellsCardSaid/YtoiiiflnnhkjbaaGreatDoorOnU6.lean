/-
  The document's Build.
-/
import Derived.Test.YtoiiiflnnhkjbaaGreatDoorHp
import Derived.Test.YtoiiiflnnhkjbaaGreatDoorOnU5
namespace Go.Proofs.YtoiiiflnnhkjbaaGreatDoor
set_option linter.unusedVariables false
set_option linter.unusedSimpArgs false
open Go.RowKit

theorem merge0 {R P : World → Prop} {G : Prop} (walk : Hid (∀ W, R W → P W) → G) (rest : ∀ W, R W → P W) : G := walk rest
theorem rslot_nonce (last : Bool) (a b c d : Nat) (x y l : List UInt8) (lo hi : Nat) {dl : Nat} (hx : x.length = 16) (hl : l.length = 16) : splice (slotC ⟨last, a, b, c, d, x, y, lo, hi, dl⟩) 5 (cellsB l) = slotC ⟨last, a, b, c, d, l, y, lo, hi, dl⟩ := by
  match x, hx, l, hl with
  | [_, _, _, _, _, _, _, _, _, _, _, _, _, _, _, _], _, [_, _, _, _, _, _, _, _, _, _, _, _, _, _, _, _], _ => rfl
theorem rslot_mac (last : Bool) (a b c d : Nat) (x : List UInt8) (lo hi dl : Nat) (m : List UInt8) (i : Nat) (hx : x.length = 16) (hm : m.length = 16) (hi' : i < 16) : (slotC ⟨last, a, b, c, d, x, mix m Z16 i, lo, hi, dl⟩).set (21 + i) (.int .u8 ((m.getD i 0).toNat : Int)) = slotC ⟨last, a, b, c, d, x, mix m Z16 (i + 1), lo, hi, dl⟩ := by
  have h := mix_set m Z16 i (m.getD i 0) hm hi' (by rw [List.getD_eq_getElem?_getD, List.getElem?_eq_getElem (by omega)]; rfl)
  have hl : (mix m Z16 i).length = 16 := by rw [mix_length m Z16 i hm]; rfl
  rw [← h]
  have e : ∀ y : List UInt8, slotC ⟨last, a, b, c, d, x, y, lo, hi, dl⟩ = ([.bool last, .int .u16 (a : Int), .int .u16 (b : Int), .int .u16 (c : Int), .int .u32 (d : Int)] ++ cellsB x) ++ (cellsB y ++ [.int .u64 (lo : Int), .int .u64 (hi : Int), .int .u32 (dl : Int)]) := fun y => by simp [slotC]
  rw [e, e]
  exact set_bytes _ _ _ 21 i _ (by simp [cellsB_length, hx]) (by omega)

set_option maxHeartbeats 64000000 in
set_option maxRecDepth 100000 in
theorem rbuild_any (A : Option Addr) (n c box : Nat) (hs : List HopL) (body : List UInt8) (w : World) (hT : Tb w) (hR : XRow w A n hs) (hA : 0 < n → ∃ g, A = some ⟨g, 0, none⟩) (hn : n ≤ 1000) (hx : box < 65536) (hb : body.length = 256) :
    Calls Tryz.prog 6 #[.slice A n c, .int .u16 (box : Int), .string ⟨body.toArray⟩] w fun e w' => e = .returned (.tuple #[.agg (rbuildC hs box body).toArray, .int .i64 (buildE hs)]) ∧ Below w.heap.size w w' := by
  have H := hide (OAt.start hT)
  have hlen := hR.len
  have hbz := build_rz
  have HX := hide hx
  have HB := hide hb
  by_cases h15 : 1 ≤ n ∧ n ≤ 5
  · obtain ⟨h1, h5⟩ := h15
    obtain ⟨g, rfl⟩ := hA h1
    have HR := hide hR
    have HOK := hide hR.ok
    have HLEN := hide hlen
    obtain ⟨RC, hRC⟩ : ∃ c, c = rbuildC hs box body := ⟨_, rfl⟩
    obtain ⟨RE, hRE⟩ : ∃ c, c = buildE hs := ⟨_, rfl⟩
    rw [← hRC, ← hRE]
    have HRC := hide hRC
    have HRE := hide hRE
    have hz1 : ¬ (n : Int) < 1 := by omega
    have hz3 : ¬ (5 : Int) < (n : Int) := by omega
    clear hR hT hA hRC hRE hx hb hlen
    have HN := hide (And.intro h1 h5)
    clear h1
    go_enter Tryz.func6, Tryz.ntmps6
    go_wp2_with (first
      | (with_reducible refine at_op (op := ⟨some 6, _, _, _, _, _⟩) ?_; (with_reducible refine wpl_alloca (op := ⟨some 6, _, _, _, _, _⟩) rfl _ rfl _ zeroR ?_); intro g6 W6 hB1 hg1 hF1; replace H := hide (H.out.box hg1 hF1 hB1); clear hB1 hg1 hF1))
    have H0 := H
    clear H
    go_loopw [9] (fun v wr => ∃ k : Nat, k ≤ n ∧ v = .int .i64 (k : Int) ∧ (∀ j, j < k → (hs.getD j hop0).lo ≤ (hs.getD j hop0).hi) ∧ OAt w [(g6, 41, rz)] wr) (fun v _ => n - (intOf v).toNat)
    case atStart => exact ⟨0, by omega, rfl, fun j hj => by omega, H0.out⟩
    case round =>
      clear H0
      obtain ⟨k, hk, rfl, hbef, hat⟩ := hrel
      have HBEF := hide hbef
      have H := hide hat
      clear hat hbef
      by_cases hlt : k < n
      · have hki : (k : Int) < (n : Int) := by omega
        have HO := hide (HR.out.hop hlt)
        have HCL := hide (fun (W : World) (b : Below w.heap.size w W) => HR.out.at0 hlt (rhopC_lo HO.out) b)
        have HCH := hide (fun (W : World) (b : Below w.heap.size w W) => HR.out.at0 hlt (rhopC_hi HO.out) b)
        obtain ⟨h, hh⟩ : ∃ h, h = hs.getD k hop0 := ⟨_, rfl⟩
        rw [← hh] at HO HCL HCH
        have HHH := hide hh
        clear hh
        by_cases hlh : h.lo ≤ h.hi
        · have hc1 : ¬ (h.hi : Int) < (h.lo : Int) := by omega
          have hc2 : ¬ h.hi < h.lo := by omega
          have hc3 : decide ((h.hi : Int) < (h.lo : Int)) = false := decide_eq_false hc1
          have hc4 : decide (h.hi < h.lo) = false := decide_eq_false hc2
          have HST : Hid (∀ j, j < k + 1 → (hs.getD j hop0).lo ≤ (hs.getD j hop0).hi) := fun j hj => by
            by_cases e : j = k
            · rw [e, ← HHH.out]; exact hlh
            · exact HBEF.out j (by omega)
          clear hlh
          go_wp2_with fail
          obtain ⟨N, hN⟩ : ∃ N, N = wr.heap.size := ⟨_, rfl⟩
          have hq : Below N wr wr := hN ▸ Below.refl _ _
          have HA := hide (fun W' (h : Below N wr W') => H.out.call (hN ▸ h))
          have HC := hide (fun W' (h : Below N wr W') W'' (k : Below W'.heap.size W' W'') => h.trans (k.mono (by rw [hN]; exact h.size)))
          clear hN
          refine wp_region_class (fun W' => Below N wr W') (by kernel_rfl) (by kernel_rfl) (below_drewN hq 1) ?_
          iterate 4 (with_reducible refine wpQuiet_step ?_; intro K hK; go_simp; first | (refine hK _ ?_; clear hK K) | (refine ⟨_, fun w' hw' => rfl, hK _ ?_⟩; clear hK K))
          with_reducible refine wpQuiet_step ?_
          intro K hK
          go_simp
          refine ⟨.int .u64 (h.lo : Int), fun w' hw' => ?_, hK _ ?_⟩
          · have hcell0 := (fun w' hw' => HCL.out w' ((HA.out w' hw').bel)) w' hw'
            go_simp
          clear hK K
          iterate 4 (with_reducible refine wpQuiet_step ?_; intro K hK; go_simp; first | (refine hK _ ?_; clear hK K) | (refine ⟨_, fun w' hw' => rfl, hK _ ?_⟩; clear hK K))
          with_reducible refine wpQuiet_step ?_
          intro K hK
          go_simp
          refine ⟨.int .u64 (h.hi : Int), fun w' hw' => ?_, hK _ ?_⟩
          · have hcell0 := (fun w' hw' => HCH.out w' ((HA.out w' hw').bel)) w' hw'
            go_simp
          clear hK K
          with_reducible refine wpQuiet_step ?_; intro K hK; go_simp; first | (refine hK _ ?_; clear hK K) | (refine ⟨_, fun w' hw' => rfl, hK _ ?_⟩; clear hK K)
          refine wpQuiet_nil ?_
          clear hq
          intro wq hwq
          replace H := hide (HA.out wq hwq)
          clear HA HC hwq
          go_wp2_with fail
          go_roundw
          case rel => exact ⟨k + 1, by omega, by go_num, HST.out, H.out⟩
          case measure => simp [intOf]; omega
        · have hc1 : (h.hi : Int) < (h.lo : Int) := by omega
          have hc2 : h.hi < h.lo := by omega
          have hc3 : decide ((h.hi : Int) < (h.lo : Int)) = true := decide_eq_true hc1
          have hc4 : decide (h.hi < h.lo) = true := decide_eq_true hc2
          have hr : rightH hs = false := rightH_not (j := k) (by rw [HLEN.out]; exact hlt) (by rw [← HHH.out]; exact hlh)
          have e1 : RC = rz := by rw [HRC.out]; exact if_neg (by rw [hr]; decide)
          have e2 : RE = 1 := by rw [HRE.out]; exact (built_wrong hr box body).2
          subst e1 e2
          clear hr hlh
          go_wp2_with fail
          obtain ⟨N, hN⟩ : ∃ N, N = wr.heap.size := ⟨_, rfl⟩
          have hq : Below N wr wr := hN ▸ Below.refl _ _
          have HA := hide (fun W' (h : Below N wr W') => H.out.call (hN ▸ h))
          have HC := hide (fun W' (h : Below N wr W') W'' (k : Below W'.heap.size W' W'') => h.trans (k.mono (by rw [hN]; exact h.size)))
          clear hN
          refine wp_region_class (fun W' => Below N wr W') (by kernel_rfl) (by kernel_rfl) (below_drewN hq 1) ?_
          iterate 4 (with_reducible refine wpQuiet_step ?_; intro K hK; go_simp; first | (refine hK _ ?_; clear hK K) | (refine ⟨_, fun w' hw' => rfl, hK _ ?_⟩; clear hK K))
          with_reducible refine wpQuiet_step ?_
          intro K hK
          go_simp
          refine ⟨.int .u64 (h.lo : Int), fun w' hw' => ?_, hK _ ?_⟩
          · have hcell0 := (fun w' hw' => HCL.out w' ((HA.out w' hw').bel)) w' hw'
            go_simp
          clear hK K
          iterate 4 (with_reducible refine wpQuiet_step ?_; intro K hK; go_simp; first | (refine hK _ ?_; clear hK K) | (refine ⟨_, fun w' hw' => rfl, hK _ ?_⟩; clear hK K))
          with_reducible refine wpQuiet_step ?_
          intro K hK
          go_simp
          refine ⟨.int .u64 (h.hi : Int), fun w' hw' => ?_, hK _ ?_⟩
          · have hcell0 := (fun w' hw' => HCH.out w' ((HA.out w' hw').bel)) w' hw'
            go_simp
          clear hK K
          with_reducible refine wpQuiet_step ?_; intro K hK; go_simp; first | (refine hK _ ?_; clear hK K) | (refine ⟨_, fun w' hw' => rfl, hK _ ?_⟩; clear hK K)
          refine wpQuiet_nil ?_
          clear hq
          intro wq hwq
          replace H := hide (HA.out wq hwq)
          clear HA HC hwq
          go_wp2_with (first
            | (with_reducible refine at_op (op := ⟨some 46, _, _, _, _, _⟩) ?_; refine wpl_held (op := ⟨some 46, _, _, _, _, _⟩) (.agg (rz).toArray) (held_build _ _ rfl _ _ (hbz _) rfl) rfl ?_)
            | (with_reducible refine at_op (op := ⟨none, .store _ (.tmp 6) (.tmp 46), _, _, _, _⟩) ?_; (with_reducible refine wpl_storea aggR rfl (.tmp 6) (.tmp 46) rfl g6 (rz) rfl rfl _ _ (H.out.get 0 rfl) rz_c (rz_len) rz_one ?_); intro W7 hB1 hF1; replace H := hide (H.out.store 0 rfl hF1 hB1); clear hB1 hF1))
          exact bodyPost_ret (results_ct aggR rfl _ _ g6 _ _ rfl (H.out.get 0 rfl) rz_c) rfl ⟨rfl, H.out.bel⟩
      · obtain rfl : n = k := by omega
        have hr : rightH hs = true := rightH_of (by rw [HLEN.out]; exact HN.out.1) (by rw [HLEN.out]; exact HN.out.2) (fun j hj => HBEF.out j (by rw [← HLEN.out]; exact hj))
        have HRI := hide hr
        obtain ⟨PC, hPC⟩ : ∃ f, f = rpc hs box body := ⟨_, rfl⟩
        have HPL : Hid (∀ i, (PC i).length = 6) := by rw [hPC]; exact rpc_len hs box body
        have HPO : Hid (∀ i, ∀ u ∈ PC i, u.oneCell' = true) := by rw [hPC]; exact rpc_one hs box body
        have HPE : Hid (PC n = rp0 body) := by show _ = _; rw [hPC, ← HLEN.out]; exact rpc_end hs box body
        have HPA : Hid (∀ i, i < n → PC i = rpktC (pktAt hs box body i)) := by rw [hPC]; exact fun i hi => rpc_at hs box body (by rw [HLEN.out]; exact hi)
        have HPB : Hid (∀ i, i ≤ n → (PC i)[5]? = some (strV (pktAt hs box body i).body)) := by rw [hPC]; exact fun i hi => rpc_body hs box body (by rw [HLEN.out]; exact hi)
        have e1 : RC = PC 0 := by rw [HRC.out, HPA.out 0 HN.out.1, ← (built_right hr box body).1]; exact if_pos hr
        have e2 : RE = 0 := by rw [HRE.out]; exact (built_right hr box body).2
        subst e1 e2
        have hbp : ∀ W, Sem.run Tryz.prog (Instr.build 41 #[(5, .string ⟨body.toArray⟩)]) W = .ok (.agg (PC n).toArray) W := fun W => by
          rw [HPE.out]
          exact build_rp0 _ W
        clear hr hPC HRC HRE HBEF
        obtain ⟨n1, hn1⟩ : ∃ n1, n = n1 + 1 := ⟨n - 1, by have := HN.out.1; omega⟩
        have f1 : (n : Int) - 1 = (n1 : Int) := by omega
        have f2 : IntKind.i64.wrap ((n : Int) - 1) = (n1 : Int) := by rw [IntKind.wrap_i64] <;> omega
        have f3 : IntKind.i64.wrap (n1 : Int) = (n1 : Int) := by rw [IntKind.wrap_i64] <;> omega
        have HN1 := hide hn1
        clear hn1
        go_wp2_with (first
          | (with_reducible refine at_op (op := ⟨some 48, _, _, _, _, _⟩) ?_; refine wpl_held (op := ⟨some 48, _, _, _, _, _⟩) (.agg (PC n).toArray) (held_build _ _ rfl _ _ (hbp _) rfl) rfl ?_)
          | (with_reducible refine at_op (op := ⟨some 10, _, _, _, _, _⟩) ?_; (with_reducible refine wpl_alloca (op := ⟨some 10, _, _, _, _, _⟩) rfl _ rfl _ zeroR ?_); intro g10 V10 hB1 hg1 hF1; go_simp; (with_reducible refine wpl_storea aggR rfl (.tmp 10) (.tmp 48) rfl g10 (PC n) rfl rfl _ _ hB1 (HPL.out _) rz_len (HPO.out _) ?_); intro W10 hB2 hF2; replace H := hide (H.out.var hg1 hF1 hF2 hB2); clear hB1 hg1 hF1 hB2 hF2))
        have H0 := H
        clear H
        go_loopw [11] (fun v wr => ∃ (i : Nat) (x : Int), i ≤ n ∧ x = (i : Int) - 1 ∧ v = .int .i64 x ∧ OAt w [(g6, 41, rz), (g10, 41, PC i)] wr) (fun v _ => (intOf v + 1).toNat)
        case atStart => exact ⟨n, (n1 : Int), by omega, by omega, rfl, H0.out⟩
        case round =>
          clear H0
          obtain ⟨i, x, hi, hxi, rfl, hat⟩ := hrel
          have H := hide hat
          clear hat
          cases i with
          | zero =>
            have hx1 : ¬ (0 : Int) ≤ x := by omega
            have hx2 : decide ((0 : Int) ≤ x) = false := decide_eq_false hx1
            have hx3 : x < 0 := by omega
            clear hxi
            go_wp2_with (first
              | (with_reducible refine at_op (op := ⟨some 170, _, _, _, _, _⟩) ?_; refine wpl_held (op := ⟨some 170, _, _, _, _, _⟩) (.agg (PC 0).toArray) (held_loadf aggR _ rfl g10 rfl _ (PC 0) (H.out.get 1 rfl) (HPL.out _)) rfl ?_)
              | (with_reducible refine at_op (op := ⟨none, .store _ (.tmp 6) (.tmp 170), _, _, _, _⟩) ?_; (with_reducible refine wpl_storea aggR rfl (.tmp 6) (.tmp 170) rfl g6 (PC 0) rfl rfl _ _ (H.out.get 0 rfl) (HPL.out _) (rz_len) (HPO.out _) ?_); intro W50 hB1 hF1; replace H := hide (H.out.store 0 rfl hF1 hB1); clear hB1 hF1))
            exact bodyPost_ret (results_ct aggR rfl _ _ g6 _ _ rfl (H.out.get 0 rfl) (HPL.out _)) rfl ⟨rfl, H.out.bel⟩
          | succ j =>
            obtain rfl : x = (j : Int) := by omega
            clear hxi
            by_cases hl : j + 1 = n
            · have hjn : j < n := by omega
              have hnn := HN1.out
              obtain ⟨h, hh⟩ : ∃ h, h = hs.getD j hop0 := ⟨_, rfl⟩
              have HO : Hid h.ok := by rw [hh]; exact HR.out.hop hjn
              have HHC : Hid (∀ W, Below w.heap.size w W → ∀ q u, (rhopC h)[q]? = some u → W.cell? ((⟨g, j * 23, none⟩ : Addr).add q) = some u) := fun W b => by rw [hh]; exact HR.out.hopAt hjn b
              have HHL := hide (rhopC_length HO.out)
              have HXN := hide (rhopC_nonce HO.out)
              have HLN := hide HO.out.nonce
              have HLO := hide (rhopC_lo HO.out)
              have HLH := hide (rhopC_hi HO.out)
              have HLD := hide (rhopC_delay HO.out)
              obtain ⟨S, hS⟩ : ∃ s, s = slotAt hs box body j := ⟨_, rfl⟩
              obtain ⟨I, hI⟩ : ∃ p, p = pktAt hs box body (j + 1) := ⟨_, rfl⟩
              have HSO : Hid S.ok := by rw [hS]; exact slotAt_ok HOK.out HX.out HB.out (by rw [HLEN.out]; exact hjn)
              have HIO : Hid I.ok := by rw [hI]; exact pktAt_ok HOK.out HX.out HB.out (j + 1)
              have hSR : rightM S := by rw [hS]; exact slotAt_right (rightH_iff HRI.out).2.2 box body (by rw [HLEN.out]; exact hjn)
              have hout : outM S = encM S := outM_right hSR
              have hstep : pktAt hs box body j = wrapL h S I := by rw [hh, hS, hI]; exact pktAt_step hs box body (by rw [HLEN.out]; exact hjn)
              obtain ⟨q, hq⟩ : ∃ q, q = wrapP h S I := ⟨_, rfl⟩
              have HQO : Hid q.ok := by rw [hq]; exact wrapP_ok HO.out HSO.out HIO.out
              have hpj : PC j = rpktC { q with mac := macO h.key q } := by rw [HPA.out j hjn, hstep, wrapL_mac, hq]
              have hen : (encM S).length = 64 := by rw [← hout]; exact outM_len HSO.out
              obtain ⟨r0, hr0⟩ : ∃ l : List UInt8, l = zeros 256 := ⟨_, rfl⟩
              have hr0l : r0.length = 256 := by rw [hr0, zeros_length]
              have hqh : q.head = (xorB (encM S ++ r0.take 256) ((hopS h).take 320)).take (320 - (behindL hs j).length) ++ behindL hs j := by
                have e1 : q.head = (xorB (outM S ++ I.head) (hopS h)).take 320 := by rw [hq]; rfl
                have e2 : I.head = leftH hs (j + 1) := by rw [hI, hl, ← HLEN.out]; exact pktAt_end hs box body
                have e3 : r0.take 256 = zeros 256 := by rw [hr0]; exact zeros_take 256 256 (by omega)
                rw [e1, hout, e2, e3, hh]
                exact top_last hs j (by omega) hen
              obtain ⟨sk, hsk⟩ : ∃ s : ByteArray, s = ⟨(h.key).toArray⟩ := ⟨_, rfl⟩
              obtain ⟨sw, hsw⟩ : ∃ s : ByteArray, s = ⟨(be 2 h.who).toArray⟩ := ⟨_, rfl⟩
              obtain ⟨se, hse⟩ : ∃ s : ByteArray, s = ⟨(be 4 h.epoch).toArray⟩ := ⟨_, rfl⟩
              obtain ⟨sr0, hsr0⟩ : ∃ s : ByteArray, s = ⟨(r0).toArray⟩ := ⟨_, rfl⟩
              obtain ⟨sr, hsr⟩ : ∃ s : ByteArray, s = ⟨(r0.take 256).toArray⟩ := ⟨_, rfl⟩
              obtain ⟨sw1, hsw1⟩ : ∃ s : ByteArray, s = ⟨(encM S).toArray⟩ := ⟨_, rfl⟩
              obtain ⟨s1, hs1⟩ : ∃ s : ByteArray, s = ⟨(encM S ++ r0.take 256).toArray⟩ := ⟨_, rfl⟩
              obtain ⟨ss, hss⟩ : ∃ s : ByteArray, s = ⟨(hopS h).toArray⟩ := ⟨_, rfl⟩
              obtain ⟨s320, hs320⟩ : ∃ s : ByteArray, s = ⟨((hopS h).take 320).toArray⟩ := ⟨_, rfl⟩
              obtain ⟨st, hst⟩ : ∃ s : ByteArray, s = ⟨(q.head).toArray⟩ := ⟨_, rfl⟩
              obtain ⟨sbI, hsbI⟩ : ∃ s : ByteArray, s = ⟨(I.body).toArray⟩ := ⟨_, rfl⟩
              obtain ⟨sbs, hsbs⟩ : ∃ s : ByteArray, s = ⟨(bodyS h.key h.epoch h.nonce).toArray⟩ := ⟨_, rfl⟩
              obtain ⟨sbd, hsbd⟩ : ∃ s : ByteArray, s = ⟨(q.body).toArray⟩ := ⟨_, rfl⟩
              obtain ⟨so, hso⟩ : ∃ s : ByteArray, s = ⟨(macO h.key q).toArray⟩ := ⟨_, rfl⟩
              obtain ⟨t1, ht1⟩ : ∃ s : ByteArray, s = ⟨(xorB (encM S ++ r0.take 256) ((hopS h).take 320)).toArray⟩ := ⟨_, rfl⟩
              obtain ⟨t1a, ht1a⟩ : ∃ s : ByteArray, s = ⟨((xorB (encM S ++ r0.take 256) ((hopS h).take 320)).take (320 - (behindL hs j).length)).toArray⟩ := ⟨_, rfl⟩
              obtain ⟨sbh, hsbh⟩ : ∃ s : ByteArray, s = ⟨(behindL hs j).toArray⟩ := ⟨_, rfl⟩
              have HTE : Hid (∀ W : World, Tb W → Calls Tryz.prog 19 #[.int .u64 (h.epoch : Int), .int .i64 4] W fun e w' => e = .returned (.string se) ∧ Below W.heap.size W w') := fun W _ => by
                rw [hse]
                exact text11_any h.epoch 4 W (by decide) (by have := HO.out.epoch; omega)
              have HTW : Hid (∀ W : World, Tb W → Calls Tryz.prog 19 #[.int .u64 (h.who : Int), .int .i64 2] W fun e w' => e = .returned (.string sw) ∧ Below W.heap.size W w') := fun W _ => by
                rw [hsw]
                exact text11_any h.who 2 W (by decide) (by have := HO.out.who; omega)
              have HHS : Hid (∀ W : World, Tb W → Calls Tryz.prog 21 #[.string sk, .string se, .string ⟨h.nonce.toArray⟩] W fun e w' => e = .returned (.string ss) ∧ Below W.heap.size W w') := fun W _ => by
                rw [hsk, hse, hss]
                exact rhead11_any h.key h.epoch h.nonce W (by rw [HO.out.key]; decide) HO.out.nonce
              have HBS : Hid (∀ W : World, Tb W → Calls Tryz.prog 25 #[.string sk, .string se, .string ⟨h.nonce.toArray⟩] W fun e w' => e = .returned (.string sbs) ∧ Below W.heap.size W w') := fun W _ => by
                rw [hsk, hse, hsbs]
                exact rbody11_any h.key h.epoch h.nonce W (by rw [HO.out.key]; decide) HO.out.nonce
              have HWR : Hid (∀ W : World, Tb W → Calls Tryz.prog 23 #[.agg (slotC S).toArray] W fun e w' => e = .returned (.string sw1) ∧ Below W.heap.size W w') := fun W _ => by
                rw [hsw1]
                exact writeref_any S HSO.out W
              have hrl : (r0.take 256).length = 256 := by rw [List.length_take, hr0l]; rfl
              have hsl : ((hopS h).take 320).length = 320 := by rw [List.length_take, hopS_length]; rfl
              have HX1 : Hid (∀ W : World, Tb W → Calls Tryz.prog 22 #[.string s1, .string s320] W fun e w' => e = .returned (.string t1) ∧ Below W.heap.size W w') := fun W _ => by
                rw [hs1, hs320, ht1]
                exact rxor11_any (encM S ++ r0.take 256) ((hopS h).take 320) W (by rw [List.length_append, hen, hrl]; decide) (by rw [List.length_append, hen, hrl, hsl]; decide)
              have HX2 : Hid (∀ W : World, Tb W → Calls Tryz.prog 22 #[.string sbI, .string sbs] W fun e w' => e = .returned (.string sbd) ∧ Below W.heap.size W w') := fun W _ => by
                have e1 : q.body = xorB I.body (bodyS h.key h.epoch h.nonce) := by rw [hq]; rfl
                rw [hsbI, hsbs, hsbd, e1]
                exact rxor11_any I.body (bodyS h.key h.epoch h.nonce) W (by rw [HIO.out.body]; decide) (by rw [HIO.out.body, bodyS_length]; decide)
              obtain ⟨RQ, hRQ⟩ : ∃ c : List Value, c = [.string sw, .string se, .string ⟨h.nonce.toArray⟩, .string ⟨#[]⟩, .string st, .string sbd] := ⟨_, rfl⟩
              have hRQ2 : rpktC { q with mac := [] } = RQ := by rw [hRQ, hsw, hse, hst, hsbd, hq]; rfl
              have HMA : Hid (∀ W : World, Tb W → Calls Tryz.prog 14 #[.string sk, .agg RQ.toArray] W fun e w' => e = .returned (.string so) ∧ Below W.heap.size W w') := fun W hW => by
                have := rmac11m_any h.key q [] W hW (by rw [HO.out.key]; decide) HQO.out
                rw [hRQ2] at this
                rw [hsk, hso]
                exact this
              have HXM : Hid (RQ.set 3 (.string so) = PC j) := by show _ = _; rw [hpj, ← hRQ2, hso]; rfl
              have HQL : Hid (RQ.length = 6) := by show _ = _; rw [hRQ]; rfl
              have HQ1 : Hid (∀ u ∈ RQ, u.oneCell' = true) := by
                intro u hu
                rw [hRQ] at hu
                simp only [List.mem_cons, List.not_mem_nil, or_false] at hu
                rcases hu with rfl | rfl | rfl | rfl | rfl | rfl <;> rfl
              have HBQ : Hid (∀ W, Sem.run Tryz.prog (Instr.build 41 #[(0, .string sw), (1, .string se), (2, .string ⟨h.nonce.toArray⟩), (4, .string st), (5, .string sbd)]) W = .ok (.agg RQ.toArray) W) := fun W => by
                rw [hRQ]
                exact build_rp5 _ _ _ _ _ W
              have HC2 : Hid ((rhopC h)[2]? = some (.string sk)) := by show _ = _; rw [rhopC_key, hsk]; rfl
              have HC5 : Hid ((PC (j + 1))[5]? = some (.string sbI)) := by show _ = _; rw [HPB.out (j + 1) (by omega), ← hI, hsbI]; rfl
              have a1 : sw1 ++ sr = s1 := by rw [hsw1, hsr, hs1, txt_append]
              have z1 : sw1.size = 64 := by rw [hsw1, txt_size, hen]
              have z2 : sr.size = 256 := by rw [hsr, txt_size, hrl]
              have z3 : sr0.size = 256 := by rw [hsr0, txt_size, hr0l]
              have z4 : ss.size = 384 := by rw [hss, txt_size, hopS_length]
              have x1 : sr0.extract 0 256 = sr := by rw [hsr0, hsr, extract_mk, List.drop_zero]
              have x2 : ss.extract 0 320 = s320 := by rw [hss, hs320, extract_mk, List.drop_zero]
              have HSc := hide (slotC_length S HSO.out.nonce HSO.out.mac)
              have hN := slN
              have hwi : (0 : Int) ≤ (h.who : Int) ∧ (h.who : Int) < 65536 := by have := HO.out.who; omega
              have hei : (0 : Int) ≤ (h.epoch : Int) ∧ (h.epoch : Int) < 4294967296 := by have := HO.out.epoch; omega
              have hww : IntKind.u64.wrap (h.who : Int) = (h.who : Int) := by rw [IntKind.wrap_u64] <;> omega
              have hwe : IntKind.u64.wrap (h.epoch : Int) = (h.epoch : Int) := by rw [IntKind.wrap_u64] <;> omega
              have hj0 : (0 : Int) ≤ (j : Int) := by omega
              have hwj : IntKind.i64.wrap ((j : Int) - 1) = (j : Int) - 1 := by rw [IntKind.wrap_i64] <;> omega
              obtain ⟨S0, hS0⟩ : ∃ s : Slot, s = ⟨false, 0, 0, 0, 0, Z16, Z16, h.lo, h.hi, h.delay⟩ := ⟨_, rfl⟩
              have hbs : ∀ W, Sem.run Tryz.prog (Instr.build 51 #[(7, .int .u64 (h.lo : Int)), (8, .int .u64 (h.hi : Int)), (9, .int .u32 (h.delay : Int))]) W = .ok (.agg (slotC S0).toArray) W := fun W => by
                rw [hS0]
                exact build_lhd _ _ _ W
              have HS0 : Hid ((slotC S0).length = 40) := by show _ = _; rw [hS0]; rfl
              have HN256 : Hid (∀ W : World, Tb W → Calls Tryz.prog 20 #[.int .i64 256] W fun e w' => e = .returned (.string sr0) ∧ Below W.heap.size W w') := fun W _ => by
                rw [hsr0, hr0]
                exact noughts_any 256 W (by decide) (by decide)
              obtain ⟨z, hz⟩ : ∃ z, z = (behindL hs j).length := ⟨_, rfl⟩
              have hz64 : z = 64 * j := by rw [hz]; exact behindL_length hs j (by omega)
              obtain ⟨d, hd⟩ : ∃ d, d = 320 - z := ⟨_, rfl⟩
              have d1 : (320 : Int) - (z : Int) = (d : Int) := by omega
              have d2 : IntKind.i64.wrap (320 - (z : Int)) = (d : Int) := by rw [IntKind.wrap_i64] <;> omega
              have d3 : IntKind.i64.wrap (d : Int) = (d : Int) := by rw [IntKind.wrap_i64] <;> omega
              have d4 : (d : Int) ≤ 320 := by omega
              have d5 : d ≤ 320 := by omega
              have d6 : ¬ 9223372036854775807 < d + z := by omega
              have hxl : (xorB (encM S ++ r0.take 256) ((hopS h).take 320)).length = 320 := by rw [xorB_length, List.length_append, hen, hrl, hsl]; rfl
              have y1 : t1.size = 320 := by rw [ht1, txt_size, hxl]
              have y2 : t1.extract 0 d = t1a := by rw [ht1, ht1a, extract_mk, List.drop_zero, ← hz, ← hd]; rfl
              have y3 : t1a.size = d := by rw [ht1a, txt_size, List.length_take, hxl, ← hz]; omega
              have y4 : sbh.size = z := by rw [hsbh, txt_size, hz]
              have y5 : t1a ++ sbh = st := by rw [ht1a, hsbh, hst, hqh, txt_append]
              have HBH : Hid (∀ W, Tb W → Below w.heap.size w W → Calls Tryz.prog 24 #[.slice (some ⟨g, 0, none⟩) n c, .int .i64 (j : Int)] W fun e w' => e = .returned (.string sbh) ∧ Below W.heap.size W w') := fun W hW b => by
                rw [hsbh]
                exact rbehind_any g n c hs j W hW (HR.out.below b) (by omega) (by omega)
              obtain ⟨S1, hS1⟩ : ∃ s : Slot, s = ⟨true, 0, 0, 0, 0, Z16, Z16, h.lo, h.hi, h.delay⟩ := ⟨_, rfl⟩
              have hSe : S = ⟨true, 0, box, 0, 0, Z16, Z16, h.lo, h.hi, h.delay⟩ := by rw [hS, hh]; exact slotAt_last hs box body (by rw [HLEN.out]; exact hl)
              have HE1 : Hid ((slotC S0).set 0 (.bool true) = slotC S1) := by show _ = _; rw [hS0, hS1]; rfl
              have HE2 : Hid ((slotC S1).set 2 (.int .u16 (box : Int)) = slotC S) := by show _ = _; rw [hS1, hSe]; rfl
              have HS1 : Hid ((slotC S1).length = 40) := by show _ = _; rw [hS1]; rfl
              obtain ⟨sh0, hsh0⟩ : ∃ s : ByteArray, s = ⟨#[]⟩ := ⟨_, rfl⟩
              have HC4 : Hid ((PC (j + 1))[4]? = some (.string sh0)) := by show _ = _; rw [hl, HPE.out, hsh0]; rfl
              obtain rfl : j = n1 := by omega
              clear hz hz64 hd hxl hS1 hSe hsh0 ht1 ht1a hsbh
              have HJ := hide (And.intro hjn hl)
              clear hnn hh hS hI hSR hout hstep hq hpj hen hr0 hr0l hqh hrl hsl hRQ hRQ2 hS0 hjn hl hsk hsw hse hsr0 hsr hsw1 hs1 hss hs320 hst hsbI hsbs hsbd hso
              go_wp2_with (first
                | (with_reducible refine at_op (op := ⟨some 58, _, _, _, _, _⟩) ?_; refine wpl_held (op := ⟨some 58, _, _, _, _, _⟩) (.agg (rhopC h).toArray) (held_loadC aggRH _ rfl (⟨g, j * 23, none⟩) rfl (rhopC h) HHL.out (HHC.out _ H.out.bel)) rfl ?_)
                | (with_reducible refine at_op (op := ⟨some 12, _, _, _, _, _⟩) ?_; (with_reducible refine wpl_alloca (op := ⟨some 12, _, _, _, _, _⟩) rfl _ rfl _ zeroRH ?_); intro g12 V12 hB1 hg1 hF1; go_simp; (with_reducible refine wpl_storea aggRH rfl (.tmp 12) (.tmp 58) rfl g12 (rhopC h) rfl rfl _ _ hB1 HHL.out rhop0_len (rhopC_one _) ?_); intro W12 hB2 hF2; replace H := hide (H.out.var hg1 hF1 hF2 hB2); clear hB1 hg1 hF1 hB2 hF2)
                | (with_reducible refine at_op (op := ⟨some 60, _, _, _, _, _⟩) ?_; refine wpl_held (op := ⟨some 60, _, _, _, _, _⟩) (.int .u32 (h.epoch : Int)) (held_load1 Tryz.underlying28 rfl one32 _ rfl g12 3 rfl _ _ (.int .u32 (h.epoch : Int)) (H.out.get 2 rfl) rfl) rfl ?_)
                | (go_at_call 19; with_reducible refine (HTE.out _ H.out.tb).mono ?_; rintro e W13 ⟨rfl, hbc⟩; replace H := hide (H.out.call hbc); clear hbc)
                | (with_reducible refine at_op (op := ⟨some 65, _, _, _, _, _⟩) ?_; refine wpl_held (op := ⟨some 65, _, _, _, _, _⟩) (.string ⟨(h.nonce).toArray⟩) (held_convm _ rfl g12 4 16 16 rfl (h.nonce) ((H.out.get 2 rfl).mid 4 16 (h.nonce) HXN.out HLN.out)) rfl ?_)
                | (with_reducible refine at_op (op := ⟨some 67, _, _, _, _, _⟩) ?_; refine wpl_held (op := ⟨some 67, _, _, _, _, _⟩) (.int .u64 (h.lo : Int)) (held_load1 Tryz.underlying49 rfl one64 _ rfl g12 20 rfl _ _ (.int .u64 (h.lo : Int)) (H.out.get 2 rfl) HLO.out) rfl ?_)
                | (with_reducible refine at_op (op := ⟨some 69, _, _, _, _, _⟩) ?_; refine wpl_held (op := ⟨some 69, _, _, _, _, _⟩) (.int .u64 (h.hi : Int)) (held_load1 Tryz.underlying49 rfl one64 _ rfl g12 21 rfl _ _ (.int .u64 (h.hi : Int)) (H.out.get 2 rfl) HLH.out) rfl ?_)
                | (with_reducible refine at_op (op := ⟨some 71, _, _, _, _, _⟩) ?_; refine wpl_held (op := ⟨some 71, _, _, _, _, _⟩) (.int .u32 (h.delay : Int)) (held_load1 Tryz.underlying28 rfl one32 _ rfl g12 22 rfl _ _ (.int .u32 (h.delay : Int)) (H.out.get 2 rfl) HLD.out) rfl ?_)
                | (with_reducible refine at_op (op := ⟨some 72, _, _, _, _, _⟩) ?_; refine wpl_held (op := ⟨some 72, _, _, _, _, _⟩) (.agg (slotC S0).toArray) (held_build _ _ rfl _ _ (hbs _) rfl) rfl ?_)
                | (with_reducible refine at_op (op := ⟨some 15, _, _, _, _, _⟩) ?_; (with_reducible refine wpl_alloca (op := ⟨some 15, _, _, _, _, _⟩) rfl _ rfl _ zeroS ?_); intro g15 V15 hB1 hg1 hF1; go_simp; (with_reducible refine wpl_storea aggS rfl (.tmp 15) (.tmp 72) rfl g15 (slotC S0) rfl rfl _ _ hB1 HS0.out slot0_len (slotC_one _) ?_); intro W15 hB2 hF2; replace H := hide (H.out.var hg1 hF1 hF2 hB2); clear hB1 hg1 hF1 hB2 hF2)
                | (with_reducible refine at_op (op := ⟨some 74, _, _, _, _, _⟩) ?_; refine wpl_held (op := ⟨some 74, _, _, _, _, _⟩) (.string sh0) (held_load1 Tryz.underlying9 rfl oneStr _ rfl g10 4 rfl _ _ (.string sh0) (H.out.get 1 rfl) HC4.out) rfl ?_)
                | (with_reducible refine at_op (op := ⟨none, .store _ (.tmp 79) _, _, _, _, _⟩) ?_; (refine wpl_store1 (op := ⟨none, _, _, _, _, _⟩) oneBool rfl (.tmp 79) (.const (.bool true)) rfl g15 0 (.bool true) (slotC S0) (slotC S1) rfl rfl rfl _ (H.out.get 3 rfl) (by rw [HS0.out]; decide) HE1.out ?_); intro W16 hB1 hF1; replace H := hide (H.out.store 3 rfl hF1 hB1); clear hB1 hF1)
                | (with_reducible refine at_op (op := ⟨none, .store _ (.tmp 81) _, _, _, _, _⟩) ?_; (refine wpl_store1 (op := ⟨none, _, _, _, _, _⟩) one16b rfl (.tmp 81) (.tmp 80) rfl g15 2 (.int .u16 (box : Int)) (slotC S1) (slotC S) rfl rfl rfl _ (H.out.get 3 rfl) (by rw [HS1.out]; decide) HE2.out ?_); intro W17 hB1 hF1; replace H := hide (H.out.store 3 rfl hF1 hB1); clear hB1 hF1)
                | (go_at_call 20; with_reducible refine (HN256.out _ H.out.tb).mono ?_; rintro e W18 ⟨rfl, hbc⟩; replace H := hide (H.out.call hbc); clear hbc)
                | (with_reducible refine at_op (op := ⟨some 123, _, _, _, _, _⟩) ?_; refine wpl_held (op := ⟨some 123, _, _, _, _, _⟩) (.string sk) (held_load1 Tryz.underlying9 rfl oneStr _ rfl g12 2 rfl _ _ (.string sk) (H.out.get 2 rfl) HC2.out) rfl ?_)
                | (go_at_call 21; with_reducible refine (HHS.out _ H.out.tb).mono ?_; rintro e W30 ⟨rfl, hbc⟩; replace H := hide (H.out.call hbc); clear hbc))
              obtain ⟨N, hN⟩ : ∃ N, N = W30.heap.size := ⟨_, rfl⟩
              have hq : Below N W30 W30 := hN ▸ Below.refl _ _
              have HA := hide (fun W' (h : Below N W30 W') => H.out.call (hN ▸ h))
              have HC := hide (fun W' (h : Below N W30 W') W'' (k : Below W'.heap.size W' W'') => h.trans (k.mono (by rw [hN]; exact h.size)))
              have hqw : ∀ W', Below N W30 W' → Calls Tryz.prog 23 #[.agg (slotC S).toArray] W' (fun e w'' => e = .returned (.string sw1) ∧ Below N W30 w'') := fun W' h => (HWR.out W' (HA.out W' h).tb).mono (fun e w'' ⟨he, hb⟩ => ⟨he, HC.out W' h w'' hb⟩)
              have hqx : ∀ W', Below N W30 W' → Calls Tryz.prog 22 #[.string s1, .string s320] W' (fun e w'' => e = .returned (.string t1) ∧ Below N W30 w'') := fun W' h => (HX1.out W' (HA.out W' h).tb).mono (fun e w'' ⟨he, hb⟩ => ⟨he, HC.out W' h w'' hb⟩)
              clear hN
              refine wp_region_class (fun W' => Below N W30 W') (by kernel_rfl) (by kernel_rfl) (below_drewN hq 1) ?_
              with_reducible refine wpQuiet_step ?_
              intro K hK
              refine quiet_val (.agg (slotC S).toArray) (fun w' hw' => held_loadf aggS _ rfl g15 rfl _ (slotC S) ((HA.out w' hw').get 3 rfl) HSc.out) ?_ rfl
              go_simp
              refine hK _ ?_
              clear hK K
              with_reducible refine wpQuiet_step ?_
              intro K hK
              go_simp
              refine ⟨_, hqw, hK _ ?_⟩
              clear hK K
              iterate 5 (with_reducible refine wpQuiet_step ?_; intro K hK; go_simp; first | (refine hK _ ?_; clear hK K) | (refine ⟨_, fun w' hw' => rfl, hK _ ?_⟩; clear hK K))
              with_reducible refine wpQuiet_step ?_
              intro K hK
              go_simp
              refine ⟨_, hqx, hK _ ?_⟩
              clear hK K
              with_reducible refine wpQuiet_step ?_; intro K hK; go_simp; first | (refine hK _ ?_; clear hK K) | (refine ⟨_, fun w' hw' => rfl, hK _ ?_⟩; clear hK K)
              refine wpQuiet_nil ?_
              clear hq
              intro wq hwq
              replace H := hide (HA.out wq hwq)
              clear HA HC hwq
              obtain ⟨W31, hW31⟩ : ∃ W, W = wq := ⟨_, rfl⟩
              rw [← hW31] at H ⊢
              clear hW31
              go_wp2_with (first
                | (go_at_call 24; with_reducible refine (HBH.out _ H.out.tb H.out.bel).mono ?_; rintro e W33 ⟨rfl, hbc⟩; replace H := hide (H.out.call hbc); clear hbc))
              apply merge0 (R := fun W => OAt w [(g6, 41, rz), (g10, 41, RQ), (g12, 71, rhopC h), (g15, 51, slotC S)] W)
              · intro hend
                obtain ⟨U0, hU0⟩ : ∃ U0, U0 = W33.drew := ⟨_, rfl⟩
                refine wp_region_held_drew (S := fun W' => Blk W' g12 71 (rhopC h).toArray) (by kernel_rfl) (by rw [← hU0]; replace H := hide (by rw [hU0]; exact H.out.drew : OAt w _ U0); exact H.out.get 2 rfl) ?_
                intro hHeld
                replace H := hide (by rw [hU0]; exact H.out.drew : OAt w _ U0)
                rw [← hU0] at hHeld ⊢
                clear hU0
                refine tkH 0 (v := ?v1) rfl ?hy1 ?rest1
                case hy1 => (intro w hSw; (try go_simp); try with_reducible rfl)
                try simp only [Act.put, PTs]
                refine tkH 1 (v := ?v2) rfl ?hy2 ?rest2
                case hy2 => (intro w hSw; refine held_load1 Tryz.underlying27 rfl one16w (.tmp 149) ?_ g12 1 ?_ _ _ (.int .u16 (h.who : Int)) hSw rfl <;> rfl)
                try simp only [Act.put, PTs]
                refine tkH 2 (v := ?v3) rfl ?hy3 ?rest3
                case hy3 => (intro w hSw; (try go_simp); try with_reducible rfl)
                try simp only [Act.put, PTs]
                refine tkH 4 (v := ?v4) rfl ?hy4 ?rest4
                case hy4 => (intro w hSw; (try go_simp); try with_reducible rfl)
                try simp only [Act.put, PTs]
                refine tkH 5 (v := ?v5) rfl ?hy5 ?rest5
                case hy5 => (intro w hSw; (try go_simp); try with_reducible rfl)
                try simp only [Act.put, PTs]
                refine tkH 6 (v := ?v6) rfl ?hy6 ?rest6
                case hy6 => (intro w hSw; (try go_simp); try with_reducible rfl)
                try simp only [Act.put, PTs]
                refine tkH 7 (v := ?v7) rfl ?hy7 ?rest7
                case hy7 => (intro w hSw; (try go_simp); try with_reducible rfl)
                try simp only [Act.put, PTs]
                refine tkH 9 (v := ?v8) rfl ?hy8 ?rest8
                case hy8 => (intro w hSw; (try go_simp); try with_reducible rfl)
                try simp only [Act.put, PTs]
                refine tkH 10 (v := ?v9) rfl ?hy9 ?rest9
                case hy9 => (intro w hSw; refine held_load1 Tryz.underlying9 rfl oneStr (.tmp 158) ?_ g12 2 ?_ _ _ (.string sk) hSw HC2.out <;> rfl)
                try simp only [Act.put, PTs]
                refine tkH 11 (v := ?v10) rfl ?hy10 ?rest10
                case hy10 => (intro w hSw; (try go_simp); try with_reducible rfl)
                try simp only [Act.put, PTs]
                refine tkH 12 (v := ?v11) rfl ?hy11 ?rest11
                case hy11 => (intro w hSw; (try go_simp); try with_reducible rfl)
                try simp only [Act.put, PTs]
                refine wpAnyH_ready (rs := [3, 8]) (by kernel_rfl) (by simp) ?_
                refine AllReadyH.cons rfl (fun K hK => ?_) ?_
                · go_simp
                  refine (HTW.out _ H.out.tb).mono ?_
                  rintro e V1 ⟨rfl, hbc⟩
                  replace H := hide (H.out.call hbc)
                  clear hbc
                  refine hK.out _ _ (H.out.get 2 rfl) (fun hHeld => ?_)
                  clear hK K
                  refine wpAnyH_ready (rs := [8, 13]) (by kernel_rfl) (by simp) ?_
                  refine AllReadyH.cons rfl (fun K hK => ?_) ?_
                  · refine step_held (.string sbI) (by refine held_load1 Tryz.underlying9 rfl oneStr (.tmp 156) ?_ g10 5 ?_ _ _ (.string sbI) (H.out.get 1 rfl) HC5.out <;> rfl) rfl ?_
                    refine hK.out _ _ (H.out.get 2 rfl) (fun hHeld => ?_)
                    clear hK K
                    try simp only [Act.put, PTs]
                    refine rdH 13 rfl (by kernel_rfl) (fun K hK => ?_)
                    go_simp
                    refine (HBS.out _ H.out.tb).mono ?_
                    rintro e V3 ⟨rfl, hbc⟩
                    replace H := hide (H.out.call hbc)
                    clear hbc
                    refine hK.out _ _ (H.out.get 2 rfl) (fun hHeld => ?_)
                    clear hK K
                    refine rdH 14 rfl (by kernel_rfl) (fun K hK => ?_)
                    go_simp
                    refine (HX2.out _ H.out.tb).mono ?_
                    rintro e V4 ⟨rfl, hbc⟩
                    replace H := hide (H.out.call hbc)
                    clear hbc
                    refine hK.out _ _ (H.out.get 2 rfl) (fun hHeld => ?_)
                    clear hK K
                    refine tkH 15 (v := ?v12) rfl ?hy12 ?rest12
                    case hy12 => (intro w hSw; refine held_build 41 #[(0, .tmp 152), (1, .tmp 153), (2, .tmp 154), (4, .tmp 155), (5, .tmp 163)] ?_ _ (RQ) (HBQ.out _) ?_ <;> rfl)
                    try simp only [Act.put, PTs]
                    refine rdH 16 rfl (by kernel_rfl) (fun K hK => ?_)
                    refine step_storem aggR rfl (.tmp 10) (.tmp 164) rfl g10 0 (RQ) _ (RQ) rfl rfl _ (H.out.get 1 rfl) HQL.out (Nat.le_of_eq (by rw [Nat.zero_add]; exact (HPL.out _).symm)) (splice_all _ _ (by rw [HQL.out, HPL.out])) HQ1.out ?_
                    intro W9 hB10 hF10
                    replace H := hide (H.out.store 1 rfl hF10 hB10)
                    clear hB10 hF10
                    refine hK.out _ _ (H.out.get 2 rfl) (fun hHeld => ?_)
                    clear hK K
                    refine wpAnyH_done (by kernel_rfl) ?_ _
                    clear hHeld
                    exact hend.out _ H.out
                  refine AllReadyH.cons rfl (fun K hK => ?_) AllReadyH.nil
                  go_simp
                  refine (HBS.out _ H.out.tb).mono ?_
                  rintro e V5 ⟨rfl, hbc⟩
                  replace H := hide (H.out.call hbc)
                  clear hbc
                  refine hK.out _ _ (H.out.get 2 rfl) (fun hHeld => ?_)
                  clear hK K
                  refine rdH 8 rfl (by kernel_rfl) (fun K hK => ?_)
                  refine step_held (.string sbI) (by refine held_load1 Tryz.underlying9 rfl oneStr (.tmp 156) ?_ g10 5 ?_ _ _ (.string sbI) (H.out.get 1 rfl) HC5.out <;> rfl) rfl ?_
                  refine hK.out _ _ (H.out.get 2 rfl) (fun hHeld => ?_)
                  clear hK K
                  try simp only [Act.put, PTs]
                  refine rdH 14 rfl (by kernel_rfl) (fun K hK => ?_)
                  go_simp
                  refine (HX2.out _ H.out.tb).mono ?_
                  rintro e V7 ⟨rfl, hbc⟩
                  replace H := hide (H.out.call hbc)
                  clear hbc
                  refine hK.out _ _ (H.out.get 2 rfl) (fun hHeld => ?_)
                  clear hK K
                  refine tkH 15 (v := ?v13) rfl ?hy13 ?rest13
                  case hy13 => (intro w hSw; refine held_build 41 #[(0, .tmp 152), (1, .tmp 153), (2, .tmp 154), (4, .tmp 155), (5, .tmp 163)] ?_ _ (RQ) (HBQ.out _) ?_ <;> rfl)
                  try simp only [Act.put, PTs]
                  refine rdH 16 rfl (by kernel_rfl) (fun K hK => ?_)
                  refine step_storem aggR rfl (.tmp 10) (.tmp 164) rfl g10 0 (RQ) _ (RQ) rfl rfl _ (H.out.get 1 rfl) HQL.out (Nat.le_of_eq (by rw [Nat.zero_add]; exact (HPL.out _).symm)) (splice_all _ _ (by rw [HQL.out, HPL.out])) HQ1.out ?_
                  intro W9 hB10 hF10
                  replace H := hide (H.out.store 1 rfl hF10 hB10)
                  clear hB10 hF10
                  refine hK.out _ _ (H.out.get 2 rfl) (fun hHeld => ?_)
                  clear hK K
                  refine wpAnyH_done (by kernel_rfl) ?_ _
                  clear hHeld
                  exact hend.out _ H.out
                refine AllReadyH.cons rfl (fun K hK => ?_) AllReadyH.nil
                refine step_held (.string sbI) (by refine held_load1 Tryz.underlying9 rfl oneStr (.tmp 156) ?_ g10 5 ?_ _ _ (.string sbI) (H.out.get 1 rfl) HC5.out <;> rfl) rfl ?_
                refine hK.out _ _ (H.out.get 2 rfl) (fun hHeld => ?_)
                clear hK K
                try simp only [Act.put, PTs]
                refine rdH 3 rfl (by kernel_rfl) (fun K hK => ?_)
                go_simp
                refine (HTW.out _ H.out.tb).mono ?_
                rintro e V9 ⟨rfl, hbc⟩
                replace H := hide (H.out.call hbc)
                clear hbc
                refine hK.out _ _ (H.out.get 2 rfl) (fun hHeld => ?_)
                clear hK K
                refine rdH 13 rfl (by kernel_rfl) (fun K hK => ?_)
                go_simp
                refine (HBS.out _ H.out.tb).mono ?_
                rintro e V10 ⟨rfl, hbc⟩
                replace H := hide (H.out.call hbc)
                clear hbc
                refine hK.out _ _ (H.out.get 2 rfl) (fun hHeld => ?_)
                clear hK K
                refine rdH 14 rfl (by kernel_rfl) (fun K hK => ?_)
                go_simp
                refine (HX2.out _ H.out.tb).mono ?_
                rintro e V11 ⟨rfl, hbc⟩
                replace H := hide (H.out.call hbc)
                clear hbc
                refine hK.out _ _ (H.out.get 2 rfl) (fun hHeld => ?_)
                clear hK K
                refine tkH 15 (v := ?v14) rfl ?hy14 ?rest14
                case hy14 => (intro w hSw; refine held_build 41 #[(0, .tmp 152), (1, .tmp 153), (2, .tmp 154), (4, .tmp 155), (5, .tmp 163)] ?_ _ (RQ) (HBQ.out _) ?_ <;> rfl)
                try simp only [Act.put, PTs]
                refine rdH 16 rfl (by kernel_rfl) (fun K hK => ?_)
                refine step_storem aggR rfl (.tmp 10) (.tmp 164) rfl g10 0 (RQ) _ (RQ) rfl rfl _ (H.out.get 1 rfl) HQL.out (Nat.le_of_eq (by rw [Nat.zero_add]; exact (HPL.out _).symm)) (splice_all _ _ (by rw [HQL.out, HPL.out])) HQ1.out ?_
                intro W9 hB10 hF10
                replace H := hide (H.out.store 1 rfl hF10 hB10)
                clear hB10 hF10
                refine hK.out _ _ (H.out.get 2 rfl) (fun hHeld => ?_)
                clear hK K
                refine wpAnyH_done (by kernel_rfl) ?_ _
                clear hHeld
                exact hend.out _ H.out
              intro W40 hR2
              replace H := hide hR2
              clear hR2
              go_wp2_with (first
                | (with_reducible refine at_op (op := ⟨some 166, _, _, _, _, _⟩) ?_; refine wpl_held (op := ⟨some 166, _, _, _, _, _⟩) (.string sk) (held_load1 Tryz.underlying9 rfl oneStr _ rfl g12 2 rfl _ _ (.string sk) (H.out.get 2 rfl) HC2.out) rfl ?_)
                | (with_reducible refine at_op (op := ⟨some 167, _, _, _, _, _⟩) ?_; refine wpl_held (op := ⟨some 167, _, _, _, _, _⟩) (.agg (RQ).toArray) (held_loadf aggR _ rfl g10 rfl _ (RQ) (H.out.get 1 rfl) HQL.out) rfl ?_)
                | (go_at_call 14; with_reducible refine (HMA.out _ H.out.tb).mono ?_; rintro e W41 ⟨rfl, hbc⟩; replace H := hide (H.out.call hbc); clear hbc)
                | (with_reducible refine at_op (op := ⟨none, .store _ (.tmp 169) _, _, _, _, _⟩) ?_; (refine wpl_store1 (op := ⟨none, _, _, _, _, _⟩) oneStr rfl (.tmp 169) (.tmp 168) rfl g10 3 (.string so) (RQ) (PC j) rfl rfl rfl _ (H.out.get 1 rfl) (by rw [HQL.out]; decide) HXM.out ?_); intro W42 hB1 hF1; replace H := hide (H.out.store 1 rfl hF1 hB1); clear hB1 hF1))
              replace H := hide (H.out.pre 2)
              go_roundw
              case rel => first | exact ⟨j, (j : Int) - 1, by have := HJ.out.1; omega, rfl, by go_num, H.out⟩ | ((repeat apply Exists.intro); exact ⟨⟨j, (j : Int) - 1, by have := HJ.out.1; omega, rfl, by go_num, H.out⟩, rfl⟩)
              case measure => first | (simp [intOf]; done) | (simp [intOf]; omega)
            · have hjn : j < n := by omega
              have hnn := HN1.out
              obtain ⟨h, hh⟩ : ∃ h, h = hs.getD j hop0 := ⟨_, rfl⟩
              have HO : Hid h.ok := by rw [hh]; exact HR.out.hop hjn
              have HHC : Hid (∀ W, Below w.heap.size w W → ∀ q u, (rhopC h)[q]? = some u → W.cell? ((⟨g, j * 23, none⟩ : Addr).add q) = some u) := fun W b => by rw [hh]; exact HR.out.hopAt hjn b
              have HHL := hide (rhopC_length HO.out)
              have HXN := hide (rhopC_nonce HO.out)
              have HLN := hide HO.out.nonce
              have HLO := hide (rhopC_lo HO.out)
              have HLH := hide (rhopC_hi HO.out)
              have HLD := hide (rhopC_delay HO.out)
              obtain ⟨S, hS⟩ : ∃ s, s = slotAt hs box body j := ⟨_, rfl⟩
              obtain ⟨I, hI⟩ : ∃ p, p = pktAt hs box body (j + 1) := ⟨_, rfl⟩
              have HSO : Hid S.ok := by rw [hS]; exact slotAt_ok HOK.out HX.out HB.out (by rw [HLEN.out]; exact hjn)
              have HIO : Hid I.ok := by rw [hI]; exact pktAt_ok HOK.out HX.out HB.out (j + 1)
              have hSR : rightM S := by rw [hS]; exact slotAt_right (rightH_iff HRI.out).2.2 box body (by rw [HLEN.out]; exact hjn)
              have hout : outM S = encM S := outM_right hSR
              have hstep : pktAt hs box body j = wrapL h S I := by rw [hh, hS, hI]; exact pktAt_step hs box body (by rw [HLEN.out]; exact hjn)
              obtain ⟨q, hq⟩ : ∃ q, q = wrapP h S I := ⟨_, rfl⟩
              have HQO : Hid q.ok := by rw [hq]; exact wrapP_ok HO.out HSO.out HIO.out
              have hpj : PC j = rpktC { q with mac := macO h.key q } := by rw [HPA.out j hjn, hstep, wrapL_mac, hq]
              have hen : (encM S).length = 64 := by rw [← hout]; exact outM_len HSO.out
              obtain ⟨r0, hr0⟩ : ∃ l : List UInt8, l = I.head := ⟨_, rfl⟩
              have hr0l : r0.length = 320 := by rw [hr0]; exact HIO.out.head
              have hqh : q.head = xorB (encM S ++ r0.take 256) ((hopS h).take 320) := by
                have e1 : q.head = (xorB (outM S ++ I.head) (hopS h)).take 320 := by rw [hq]; rfl
                rw [e1, hout, hr0]
                exact top_inner hen HIO.out.head (hopS_length h)
              obtain ⟨sk, hsk⟩ : ∃ s : ByteArray, s = ⟨(h.key).toArray⟩ := ⟨_, rfl⟩
              obtain ⟨sw, hsw⟩ : ∃ s : ByteArray, s = ⟨(be 2 h.who).toArray⟩ := ⟨_, rfl⟩
              obtain ⟨se, hse⟩ : ∃ s : ByteArray, s = ⟨(be 4 h.epoch).toArray⟩ := ⟨_, rfl⟩
              obtain ⟨sr0, hsr0⟩ : ∃ s : ByteArray, s = ⟨(r0).toArray⟩ := ⟨_, rfl⟩
              obtain ⟨sr, hsr⟩ : ∃ s : ByteArray, s = ⟨(r0.take 256).toArray⟩ := ⟨_, rfl⟩
              obtain ⟨sw1, hsw1⟩ : ∃ s : ByteArray, s = ⟨(encM S).toArray⟩ := ⟨_, rfl⟩
              obtain ⟨s1, hs1⟩ : ∃ s : ByteArray, s = ⟨(encM S ++ r0.take 256).toArray⟩ := ⟨_, rfl⟩
              obtain ⟨ss, hss⟩ : ∃ s : ByteArray, s = ⟨(hopS h).toArray⟩ := ⟨_, rfl⟩
              obtain ⟨s320, hs320⟩ : ∃ s : ByteArray, s = ⟨((hopS h).take 320).toArray⟩ := ⟨_, rfl⟩
              obtain ⟨st, hst⟩ : ∃ s : ByteArray, s = ⟨(q.head).toArray⟩ := ⟨_, rfl⟩
              obtain ⟨sbI, hsbI⟩ : ∃ s : ByteArray, s = ⟨(I.body).toArray⟩ := ⟨_, rfl⟩
              obtain ⟨sbs, hsbs⟩ : ∃ s : ByteArray, s = ⟨(bodyS h.key h.epoch h.nonce).toArray⟩ := ⟨_, rfl⟩
              obtain ⟨sbd, hsbd⟩ : ∃ s : ByteArray, s = ⟨(q.body).toArray⟩ := ⟨_, rfl⟩
              obtain ⟨so, hso⟩ : ∃ s : ByteArray, s = ⟨(macO h.key q).toArray⟩ := ⟨_, rfl⟩
              have HTE : Hid (∀ W : World, Tb W → Calls Tryz.prog 19 #[.int .u64 (h.epoch : Int), .int .i64 4] W fun e w' => e = .returned (.string se) ∧ Below W.heap.size W w') := fun W _ => by
                rw [hse]
                exact text11_any h.epoch 4 W (by decide) (by have := HO.out.epoch; omega)
              have HTW : Hid (∀ W : World, Tb W → Calls Tryz.prog 19 #[.int .u64 (h.who : Int), .int .i64 2] W fun e w' => e = .returned (.string sw) ∧ Below W.heap.size W w') := fun W _ => by
                rw [hsw]
                exact text11_any h.who 2 W (by decide) (by have := HO.out.who; omega)
              have HHS : Hid (∀ W : World, Tb W → Calls Tryz.prog 21 #[.string sk, .string se, .string ⟨h.nonce.toArray⟩] W fun e w' => e = .returned (.string ss) ∧ Below W.heap.size W w') := fun W _ => by
                rw [hsk, hse, hss]
                exact rhead11_any h.key h.epoch h.nonce W (by rw [HO.out.key]; decide) HO.out.nonce
              have HBS : Hid (∀ W : World, Tb W → Calls Tryz.prog 25 #[.string sk, .string se, .string ⟨h.nonce.toArray⟩] W fun e w' => e = .returned (.string sbs) ∧ Below W.heap.size W w') := fun W _ => by
                rw [hsk, hse, hsbs]
                exact rbody11_any h.key h.epoch h.nonce W (by rw [HO.out.key]; decide) HO.out.nonce
              have HWR : Hid (∀ W : World, Tb W → Calls Tryz.prog 23 #[.agg (slotC S).toArray] W fun e w' => e = .returned (.string sw1) ∧ Below W.heap.size W w') := fun W _ => by
                rw [hsw1]
                exact writeref_any S HSO.out W
              have hrl : (r0.take 256).length = 256 := by rw [List.length_take, hr0l]; rfl
              have hsl : ((hopS h).take 320).length = 320 := by rw [List.length_take, hopS_length]; rfl
              have HX1 : Hid (∀ W : World, Tb W → Calls Tryz.prog 22 #[.string s1, .string s320] W fun e w' => e = .returned (.string st) ∧ Below W.heap.size W w') := fun W _ => by
                rw [hs1, hs320, hst, hqh]
                exact rxor11_any (encM S ++ r0.take 256) ((hopS h).take 320) W (by rw [List.length_append, hen, hrl]; decide) (by rw [List.length_append, hen, hrl, hsl]; decide)
              have HX2 : Hid (∀ W : World, Tb W → Calls Tryz.prog 22 #[.string sbI, .string sbs] W fun e w' => e = .returned (.string sbd) ∧ Below W.heap.size W w') := fun W _ => by
                have e1 : q.body = xorB I.body (bodyS h.key h.epoch h.nonce) := by rw [hq]; rfl
                rw [hsbI, hsbs, hsbd, e1]
                exact rxor11_any I.body (bodyS h.key h.epoch h.nonce) W (by rw [HIO.out.body]; decide) (by rw [HIO.out.body, bodyS_length]; decide)
              obtain ⟨RQ, hRQ⟩ : ∃ c : List Value, c = [.string sw, .string se, .string ⟨h.nonce.toArray⟩, .string ⟨#[]⟩, .string st, .string sbd] := ⟨_, rfl⟩
              have hRQ2 : rpktC { q with mac := [] } = RQ := by rw [hRQ, hsw, hse, hst, hsbd, hq]; rfl
              have HMA : Hid (∀ W : World, Tb W → Calls Tryz.prog 14 #[.string sk, .agg RQ.toArray] W fun e w' => e = .returned (.string so) ∧ Below W.heap.size W w') := fun W hW => by
                have := rmac11m_any h.key q [] W hW (by rw [HO.out.key]; decide) HQO.out
                rw [hRQ2] at this
                rw [hsk, hso]
                exact this
              have HXM : Hid (RQ.set 3 (.string so) = PC j) := by show _ = _; rw [hpj, ← hRQ2, hso]; rfl
              have HQL : Hid (RQ.length = 6) := by show _ = _; rw [hRQ]; rfl
              have HQ1 : Hid (∀ u ∈ RQ, u.oneCell' = true) := by
                intro u hu
                rw [hRQ] at hu
                simp only [List.mem_cons, List.not_mem_nil, or_false] at hu
                rcases hu with rfl | rfl | rfl | rfl | rfl | rfl <;> rfl
              have HBQ : Hid (∀ W, Sem.run Tryz.prog (Instr.build 41 #[(0, .string sw), (1, .string se), (2, .string ⟨h.nonce.toArray⟩), (4, .string st), (5, .string sbd)]) W = .ok (.agg RQ.toArray) W) := fun W => by
                rw [hRQ]
                exact build_rp5 _ _ _ _ _ W
              have HC2 : Hid ((rhopC h)[2]? = some (.string sk)) := by show _ = _; rw [rhopC_key, hsk]; rfl
              have HC5 : Hid ((PC (j + 1))[5]? = some (.string sbI)) := by show _ = _; rw [HPB.out (j + 1) (by omega), ← hI, hsbI]; rfl
              have a1 : sw1 ++ sr = s1 := by rw [hsw1, hsr, hs1, txt_append]
              have z1 : sw1.size = 64 := by rw [hsw1, txt_size, hen]
              have z2 : sr.size = 256 := by rw [hsr, txt_size, hrl]
              have z3 : sr0.size = 320 := by rw [hsr0, txt_size, hr0l]
              have z4 : ss.size = 384 := by rw [hss, txt_size, hopS_length]
              have x1 : sr0.extract 0 256 = sr := by rw [hsr0, hsr, extract_mk, List.drop_zero]
              have x2 : ss.extract 0 320 = s320 := by rw [hss, hs320, extract_mk, List.drop_zero]
              have HSc := hide (slotC_length S HSO.out.nonce HSO.out.mac)
              have hN := slN
              have hwi : (0 : Int) ≤ (h.who : Int) ∧ (h.who : Int) < 65536 := by have := HO.out.who; omega
              have hei : (0 : Int) ≤ (h.epoch : Int) ∧ (h.epoch : Int) < 4294967296 := by have := HO.out.epoch; omega
              have hww : IntKind.u64.wrap (h.who : Int) = (h.who : Int) := by rw [IntKind.wrap_u64] <;> omega
              have hwe : IntKind.u64.wrap (h.epoch : Int) = (h.epoch : Int) := by rw [IntKind.wrap_u64] <;> omega
              have hj0 : (0 : Int) ≤ (j : Int) := by omega
              have hwj : IntKind.i64.wrap ((j : Int) - 1) = (j : Int) - 1 := by rw [IntKind.wrap_i64] <;> omega
              obtain ⟨S0, hS0⟩ : ∃ s : Slot, s = ⟨false, 0, 0, 0, 0, Z16, Z16, h.lo, h.hi, h.delay⟩ := ⟨_, rfl⟩
              have hbs : ∀ W, Sem.run Tryz.prog (Instr.build 51 #[(7, .int .u64 (h.lo : Int)), (8, .int .u64 (h.hi : Int)), (9, .int .u32 (h.delay : Int))]) W = .ok (.agg (slotC S0).toArray) W := fun W => by
                rw [hS0]
                exact build_lhd _ _ _ W
              have HS0 : Hid ((slotC S0).length = 40) := by show _ = _; rw [hS0]; rfl
              have hn2 : j + 1 < n := by omega
              have HO1 := hide (HR.out.hop hn2)
              have HCA := hide (fun (W : World) (b : Below w.heap.size w W) => HR.out.at0 hn2 (rhopC_addr _) b)
              have HCW := hide (fun (W : World) (b : Below w.heap.size w W) => HR.out.at0 hn2 (rhopC_who _) b)
              have HCE := hide (fun (W : World) (b : Below w.heap.size w W) => HR.out.at0 hn2 (rhopC_epoch _) b)
              have HCN := hide (fun (W : World) (b : Below w.heap.size w W) => HR.out.nonce0 hn2 b)
              have hSe : S = ⟨false, (hs.getD (j + 1) hop0).addr, 0, (hs.getD (j + 1) hop0).who, (hs.getD (j + 1) hop0).epoch, (hs.getD (j + 1) hop0).nonce, I.mac, h.lo, h.hi, h.delay⟩ := by rw [hS, hh, hI]; exact slotAt_inner hs box body (by rw [HLEN.out]; exact hn2)
              obtain ⟨k1, hk1⟩ : ∃ h, h = hs.getD (j + 1) hop0 := ⟨_, rfl⟩
              rw [← hk1] at HO1 HCA HCW HCE HCN hSe
              obtain ⟨j1, hj1⟩ : ∃ j1, j1 = j + 1 := ⟨_, rfl⟩
              rw [← hj1] at HCA HCW HCE HCN
              have b1 : (j : Int) + 1 = (j1 : Int) := by omega
              have b2 : IntKind.i64.wrap ((j : Int) + 1) = (j1 : Int) := by rw [IntKind.wrap_i64] <;> omega
              have b3 : IntKind.i64.wrap (j1 : Int) = (j1 : Int) := by rw [IntKind.wrap_i64] <;> omega
              have b4 : (j1 : Int) < (n : Int) := by omega
              obtain ⟨m, hm⟩ : ∃ m, m = I.mac := ⟨_, rfl⟩
              have hml : m.length = 16 := by rw [hm]; exact HIO.out.mac
              obtain ⟨sm, hsm⟩ : ∃ s : ByteArray, s = ⟨m.toArray⟩ := ⟨_, rfl⟩
              obtain ⟨S1, hS1⟩ : ∃ s : Slot, s = ⟨false, k1.addr, 0, 0, 0, Z16, Z16, h.lo, h.hi, h.delay⟩ := ⟨_, rfl⟩
              obtain ⟨S2, hS2⟩ : ∃ s : Slot, s = ⟨false, k1.addr, 0, k1.who, 0, Z16, Z16, h.lo, h.hi, h.delay⟩ := ⟨_, rfl⟩
              obtain ⟨S3, hS3⟩ : ∃ s : Slot, s = ⟨false, k1.addr, 0, k1.who, k1.epoch, Z16, Z16, h.lo, h.hi, h.delay⟩ := ⟨_, rfl⟩
              obtain ⟨S4, hS4⟩ : ∃ s : Slot, s = ⟨false, k1.addr, 0, k1.who, k1.epoch, k1.nonce, Z16, h.lo, h.hi, h.delay⟩ := ⟨_, rfl⟩
              have HE1 : Hid ((slotC S0).set 1 (.int .u16 (k1.addr : Int)) = slotC S1) := by show _ = _; rw [hS0, hS1]; rfl
              have HE2 : Hid ((slotC S1).set 3 (.int .u16 (k1.who : Int)) = slotC S2) := by show _ = _; rw [hS1, hS2]; rfl
              have HE3 : Hid ((slotC S2).set 4 (.int .u32 (k1.epoch : Int)) = slotC S3) := by show _ = _; rw [hS2, hS3]; rfl
              have HE4 : Hid (splice (slotC S3) 5 (cellsB k1.nonce) = slotC S4) := by show _ = _; rw [hS3, hS4]; exact rslot_nonce _ _ _ _ _ _ _ _ _ _ rfl HO1.out.nonce
              have HS1 : Hid ((slotC S1).length = 40) := by show _ = _; rw [hS1]; rfl
              have HS2 : Hid ((slotC S2).length = 40) := by show _ = _; rw [hS2]; rfl
              have HS3 : Hid ((slotC S3).length = 40) := by show _ = _; rw [hS3]; rfl
              obtain ⟨SM, hSM⟩ : ∃ f : Nat → Slot, f = fun i => { S4 with mac := mix m Z16 i } := ⟨_, rfl⟩
              have HM0 : Hid (SM 0 = S4) := by show _ = _; rw [hSM, hS4]; show Slot.mk _ _ _ _ _ _ _ _ _ _ = _; rw [mix_zero]
              have HM16 : Hid (SM 16 = S) := by show _ = _; rw [hSM, hS4, hSe, ← hm]; show Slot.mk _ _ _ _ _ _ _ _ _ _ = _; rw [mix_all m Z16 16 hml (Nat.le_refl _)]
              have HML : Hid (∀ i, (slotC (SM i)).length = 40) := fun i => by rw [hSM, hS4]; exact slotC_length _ HO1.out.nonce (by show (mix m Z16 i).length = 16; rw [mix_length m Z16 i hml]; rfl)
              have HMS : Hid (∀ (i : Nat), i < 16 → (slotC (SM i)).set (21 + i) (.int .u8 ((m.getD i 0).toNat : Int)) = slotC (SM (i + 1))) := fun i hi => by
                rw [hSM, hS4]
                exact rslot_mac _ _ _ _ _ _ _ _ _ m i HO1.out.nonce hml hi
              have HIX : Hid (∀ (i : Nat), i < 16 → ∀ W, Sem.run Tryz.prog (Instr.index 9 (.string sm) (.int .i64 (i : Int))) W = .ok (.int .u8 ((m.getD i 0).toNat : Int)) W) := fun i hi W => by rw [hsm]; exact str_index m i (by omega) W
              have HC4 : Hid ((PC (j + 1))[4]? = some (.string sr0)) := by show _ = _; rw [HPA.out (j + 1) hn2, ← hI, hsr0, hr0]; rfl
              have HC3 : Hid ((PC (j + 1))[3]? = some (.string sm)) := by show _ = _; rw [HPA.out (j + 1) hn2, ← hI, hsm, hm]; rfl
              have HNl := hide HO1.out.nonce
              have HNc := hide (cl HNl.out)
              have c1 : ¬ (j : Int) = (n1 : Int) := by omega
              have c2 : ((j : Int) == (n1 : Int)) = false := beq_eq_false_iff_ne.2 c1
              have c3 : ¬ j = n1 := by omega
              have c4 : (j == n1) = false := beq_eq_false_iff_ne.2 c3
              clear hSe hk1 hj1 hm hml hsm hS1 hS2 hS3 hS4 hSM HO1 hn2
              have HJ := hide (And.intro hjn hl)
              clear hnn hh hS hI hSR hout hstep hq hpj hen hr0 hr0l hqh hrl hsl hRQ hRQ2 hS0 hjn hl hsk hsw hse hsr0 hsr hsw1 hs1 hss hs320 hst hsbI hsbs hsbd hso
              go_wp2_with (first
                | (with_reducible refine at_op (op := ⟨some 58, _, _, _, _, _⟩) ?_; refine wpl_held (op := ⟨some 58, _, _, _, _, _⟩) (.agg (rhopC h).toArray) (held_loadC aggRH _ rfl (⟨g, j * 23, none⟩) rfl (rhopC h) HHL.out (HHC.out _ H.out.bel)) rfl ?_)
                | (with_reducible refine at_op (op := ⟨some 12, _, _, _, _, _⟩) ?_; (with_reducible refine wpl_alloca (op := ⟨some 12, _, _, _, _, _⟩) rfl _ rfl _ zeroRH ?_); intro g12 V12 hB1 hg1 hF1; go_simp; (with_reducible refine wpl_storea aggRH rfl (.tmp 12) (.tmp 58) rfl g12 (rhopC h) rfl rfl _ _ hB1 HHL.out rhop0_len (rhopC_one _) ?_); intro W12 hB2 hF2; replace H := hide (H.out.var hg1 hF1 hF2 hB2); clear hB1 hg1 hF1 hB2 hF2)
                | (with_reducible refine at_op (op := ⟨some 60, _, _, _, _, _⟩) ?_; refine wpl_held (op := ⟨some 60, _, _, _, _, _⟩) (.int .u32 (h.epoch : Int)) (held_load1 Tryz.underlying28 rfl one32 _ rfl g12 3 rfl _ _ (.int .u32 (h.epoch : Int)) (H.out.get 2 rfl) rfl) rfl ?_)
                | (go_at_call 19; with_reducible refine (HTE.out _ H.out.tb).mono ?_; rintro e W13 ⟨rfl, hbc⟩; replace H := hide (H.out.call hbc); clear hbc)
                | (with_reducible refine at_op (op := ⟨some 65, _, _, _, _, _⟩) ?_; refine wpl_held (op := ⟨some 65, _, _, _, _, _⟩) (.string ⟨(h.nonce).toArray⟩) (held_convm _ rfl g12 4 16 16 rfl (h.nonce) ((H.out.get 2 rfl).mid 4 16 (h.nonce) HXN.out HLN.out)) rfl ?_)
                | (with_reducible refine at_op (op := ⟨some 67, _, _, _, _, _⟩) ?_; refine wpl_held (op := ⟨some 67, _, _, _, _, _⟩) (.int .u64 (h.lo : Int)) (held_load1 Tryz.underlying49 rfl one64 _ rfl g12 20 rfl _ _ (.int .u64 (h.lo : Int)) (H.out.get 2 rfl) HLO.out) rfl ?_)
                | (with_reducible refine at_op (op := ⟨some 69, _, _, _, _, _⟩) ?_; refine wpl_held (op := ⟨some 69, _, _, _, _, _⟩) (.int .u64 (h.hi : Int)) (held_load1 Tryz.underlying49 rfl one64 _ rfl g12 21 rfl _ _ (.int .u64 (h.hi : Int)) (H.out.get 2 rfl) HLH.out) rfl ?_)
                | (with_reducible refine at_op (op := ⟨some 71, _, _, _, _, _⟩) ?_; refine wpl_held (op := ⟨some 71, _, _, _, _, _⟩) (.int .u32 (h.delay : Int)) (held_load1 Tryz.underlying28 rfl one32 _ rfl g12 22 rfl _ _ (.int .u32 (h.delay : Int)) (H.out.get 2 rfl) HLD.out) rfl ?_)
                | (with_reducible refine at_op (op := ⟨some 72, _, _, _, _, _⟩) ?_; refine wpl_held (op := ⟨some 72, _, _, _, _, _⟩) (.agg (slotC S0).toArray) (held_build _ _ rfl _ _ (hbs _) rfl) rfl ?_)
                | (with_reducible refine at_op (op := ⟨some 15, _, _, _, _, _⟩) ?_; (with_reducible refine wpl_alloca (op := ⟨some 15, _, _, _, _, _⟩) rfl _ rfl _ zeroS ?_); intro g15 V15 hB1 hg1 hF1; go_simp; (with_reducible refine wpl_storea aggS rfl (.tmp 15) (.tmp 72) rfl g15 (slotC S0) rfl rfl _ _ hB1 HS0.out slot0_len (slotC_one _) ?_); intro W15 hB2 hF2; replace H := hide (H.out.var hg1 hF1 hF2 hB2); clear hB1 hg1 hF1 hB2 hF2)
                | (with_reducible refine at_op (op := ⟨some 74, _, _, _, _, _⟩) ?_; refine wpl_held (op := ⟨some 74, _, _, _, _, _⟩) (.string sr0) (held_load1 Tryz.underlying9 rfl oneStr _ rfl g10 4 rfl _ _ (.string sr0) (H.out.get 1 rfl) HC4.out) rfl ?_)
                | (with_reducible refine at_op (op := ⟨some 88, _, _, _, _, _⟩) ?_; refine wpl_held (op := ⟨some 88, _, _, _, _, _⟩) (.int .u16 (k1.addr : Int)) (held_loadc1 Tryz.underlying48 rfl _ rfl (⟨g, j1 * 23 + 0, none⟩) rfl (.int .u16 (k1.addr : Int)) (HCA.out _ H.out.bel)) rfl ?_)
                | (with_reducible refine at_op (op := ⟨none, .store _ (.tmp 89) _, _, _, _, _⟩) ?_; (refine wpl_store1 (op := ⟨none, _, _, _, _, _⟩) one16a rfl (.tmp 89) (.tmp 88) rfl g15 1 (.int .u16 (k1.addr : Int)) (slotC S0) (slotC S1) rfl rfl rfl _ (H.out.get 3 rfl) (by rw [HS0.out]; decide) HE1.out ?_); intro W16 hB1 hF1; replace H := hide (H.out.store 3 rfl hF1 hB1); clear hB1 hF1)
                | (with_reducible refine at_op (op := ⟨some 95, _, _, _, _, _⟩) ?_; refine wpl_held (op := ⟨some 95, _, _, _, _, _⟩) (.int .u16 (k1.who : Int)) (held_loadc1 Tryz.underlying27 rfl _ rfl (⟨g, j1 * 23 + 1, none⟩) rfl (.int .u16 (k1.who : Int)) (HCW.out _ H.out.bel)) rfl ?_)
                | (with_reducible refine at_op (op := ⟨none, .store _ (.tmp 96) _, _, _, _, _⟩) ?_; (refine wpl_store1 (op := ⟨none, _, _, _, _, _⟩) one16w rfl (.tmp 96) (.tmp 95) rfl g15 3 (.int .u16 (k1.who : Int)) (slotC S1) (slotC S2) rfl rfl rfl _ (H.out.get 3 rfl) (by rw [HS1.out]; decide) HE2.out ?_); intro W17 hB1 hF1; replace H := hide (H.out.store 3 rfl hF1 hB1); clear hB1 hF1)
                | (with_reducible refine at_op (op := ⟨some 102, _, _, _, _, _⟩) ?_; refine wpl_held (op := ⟨some 102, _, _, _, _, _⟩) (.int .u32 (k1.epoch : Int)) (held_loadc1 Tryz.underlying28 rfl _ rfl (⟨g, j1 * 23 + 3, none⟩) rfl (.int .u32 (k1.epoch : Int)) (HCE.out _ H.out.bel)) rfl ?_)
                | (with_reducible refine at_op (op := ⟨none, .store _ (.tmp 103) _, _, _, _, _⟩) ?_; (refine wpl_store1 (op := ⟨none, _, _, _, _, _⟩) one32 rfl (.tmp 103) (.tmp 102) rfl g15 4 (.int .u32 (k1.epoch : Int)) (slotC S2) (slotC S3) rfl rfl rfl _ (H.out.get 3 rfl) (by rw [HS2.out]; decide) HE3.out ?_); intro W18 hB1 hF1; replace H := hide (H.out.store 3 rfl hF1 hB1); clear hB1 hF1)
                | (with_reducible refine at_op (op := ⟨some 109, _, _, _, _, _⟩) ?_; refine wpl_held (op := ⟨some 109, _, _, _, _, _⟩) (.agg (cellsB k1.nonce).toArray) (held_loadC aggN _ rfl (⟨g, j1 * 23 + 4, none⟩) rfl (cellsB k1.nonce) HNc.out (HCN.out _ H.out.bel)) rfl ?_)
                | (with_reducible refine at_op (op := ⟨none, .store _ (.tmp 110) (.tmp 109), _, _, _, _⟩) ?_; (with_reducible refine wpl_storem aggN rfl (.tmp 110) (.tmp 109) rfl g15 5 (cellsB k1.nonce) (slotC S3) (slotC S4) rfl rfl _ (H.out.get 3 rfl) HNc.out (by rw [HS3.out]; decide) HE4.out (cellsB_one _) ?_); intro W19 hB1 hF1; replace H := hide (H.out.store 3 rfl hF1 hB1); clear hB1 hF1))
              have H1 := H
              clear H
              go_loopw [17] (fun v wr => ∃ i : Nat, i ≤ 16 ∧ v = .int .i64 (i : Int) ∧ OAt w [(g6, 41, rz), (g10, 41, PC (j + 1)), (g12, 71, rhopC h), (g15, 51, slotC (SM i))] wr) (fun v _ => 16 - (intOf v).toNat)
              case atStart => exact ⟨0, by omega, rfl, by rw [HM0.out]; exact H1.out⟩
              case round =>
                clear H1
                obtain ⟨i, hi, rfl, hat⟩ := hrel
                have H := hide hat
                clear hat
                by_cases hi6 : i < 16
                · have i1 : (i : Int) < 16 := by omega
                  have hix := HIX.out i hi6
                  have HSI := hide (HMS.out i hi6)
                  generalize (m.getD i 0).toNat = mi at *
                  go_wp2_with (first
                    | (with_reducible refine at_op (op := ⟨some 117, _, _, _, _, _⟩) ?_; refine wpl_held (op := ⟨some 117, _, _, _, _, _⟩) (.string sm) (held_load1 Tryz.underlying9 rfl oneStr _ rfl g10 3 rfl _ _ (.string sm) (H.out.get 1 rfl) HC3.out) rfl ?_)
                    | (with_reducible refine at_op (op := ⟨none, .store _ (.tmp 121) _, _, _, _, _⟩) ?_; (refine wpl_store1 (op := ⟨none, _, _, _, _, _⟩) one8 rfl (.tmp 121) (.tmp 119) rfl g15 (21 + i) (.int .u8 (mi : Int)) (slotC (SM i)) (slotC (SM (i + 1))) rfl rfl rfl _ (H.out.get 3 rfl) (by rw [HML.out]; omega) HSI.out ?_); intro W20 hB1 hF1; replace H := hide (H.out.store 3 rfl hF1 hB1); clear hB1 hF1))
                  go_roundw
                  case rel => exact ⟨i + 1, by omega, by go_num, H.out⟩
                  case measure => simp [intOf]; omega
                · obtain rfl : i = 16 := by omega
                  rw [HM16.out] at H
                  go_wp2_with (first
                    | (with_reducible refine at_op (op := ⟨some 123, _, _, _, _, _⟩) ?_; refine wpl_held (op := ⟨some 123, _, _, _, _, _⟩) (.string sk) (held_load1 Tryz.underlying9 rfl oneStr _ rfl g12 2 rfl _ _ (.string sk) (H.out.get 2 rfl) HC2.out) rfl ?_)
                    | (go_at_call 21; with_reducible refine (HHS.out _ H.out.tb).mono ?_; rintro e W30 ⟨rfl, hbc⟩; replace H := hide (H.out.call hbc); clear hbc))
                  obtain ⟨N, hN⟩ : ∃ N, N = W30.heap.size := ⟨_, rfl⟩
                  have hq : Below N W30 W30 := hN ▸ Below.refl _ _
                  have HA := hide (fun W' (h : Below N W30 W') => H.out.call (hN ▸ h))
                  have HC := hide (fun W' (h : Below N W30 W') W'' (k : Below W'.heap.size W' W'') => h.trans (k.mono (by rw [hN]; exact h.size)))
                  have hqw : ∀ W', Below N W30 W' → Calls Tryz.prog 23 #[.agg (slotC S).toArray] W' (fun e w'' => e = .returned (.string sw1) ∧ Below N W30 w'') := fun W' h => (HWR.out W' (HA.out W' h).tb).mono (fun e w'' ⟨he, hb⟩ => ⟨he, HC.out W' h w'' hb⟩)
                  have hqx : ∀ W', Below N W30 W' → Calls Tryz.prog 22 #[.string s1, .string s320] W' (fun e w'' => e = .returned (.string st) ∧ Below N W30 w'') := fun W' h => (HX1.out W' (HA.out W' h).tb).mono (fun e w'' ⟨he, hb⟩ => ⟨he, HC.out W' h w'' hb⟩)
                  clear hN
                  refine wp_region_class (fun W' => Below N W30 W') (by kernel_rfl) (by kernel_rfl) (below_drewN hq 1) ?_
                  with_reducible refine wpQuiet_step ?_
                  intro K hK
                  refine quiet_val (.agg (slotC S).toArray) (fun w' hw' => held_loadf aggS _ rfl g15 rfl _ (slotC S) ((HA.out w' hw').get 3 rfl) HSc.out) ?_ rfl
                  go_simp
                  refine hK _ ?_
                  clear hK K
                  with_reducible refine wpQuiet_step ?_
                  intro K hK
                  go_simp
                  refine ⟨_, hqw, hK _ ?_⟩
                  clear hK K
                  iterate 5 (with_reducible refine wpQuiet_step ?_; intro K hK; go_simp; first | (refine hK _ ?_; clear hK K) | (refine ⟨_, fun w' hw' => rfl, hK _ ?_⟩; clear hK K))
                  with_reducible refine wpQuiet_step ?_
                  intro K hK
                  go_simp
                  refine ⟨_, hqx, hK _ ?_⟩
                  clear hK K
                  with_reducible refine wpQuiet_step ?_; intro K hK; go_simp; first | (refine hK _ ?_; clear hK K) | (refine ⟨_, fun w' hw' => rfl, hK _ ?_⟩; clear hK K)
                  refine wpQuiet_nil ?_
                  clear hq
                  intro wq hwq
                  replace H := hide (HA.out wq hwq)
                  clear HA HC hwq
                  obtain ⟨W31, hW31⟩ : ∃ W, W = wq := ⟨_, rfl⟩
                  rw [← hW31] at H ⊢
                  clear hW31
                  go_wp2_with fail
                  apply merge0 (R := fun W => OAt w [(g6, 41, rz), (g10, 41, RQ), (g12, 71, rhopC h), (g15, 51, slotC S)] W)
                  · intro hend
                    obtain ⟨U0, hU0⟩ : ∃ U0, U0 = W31.drew := ⟨_, rfl⟩
                    refine wp_region_held_drew (S := fun W' => Blk W' g12 71 (rhopC h).toArray) (by kernel_rfl) (by rw [← hU0]; replace H := hide (by rw [hU0]; exact H.out.drew : OAt w _ U0); exact H.out.get 2 rfl) ?_
                    intro hHeld
                    replace H := hide (by rw [hU0]; exact H.out.drew : OAt w _ U0)
                    rw [← hU0] at hHeld ⊢
                    clear hU0
                    refine tkH 0 (v := ?v15) rfl ?hy15 ?rest15
                    case hy15 => (intro w hSw; (try go_simp); try with_reducible rfl)
                    try simp only [Act.put, PTs]
                    refine tkH 1 (v := ?v16) rfl ?hy16 ?rest16
                    case hy16 => (intro w hSw; refine held_load1 Tryz.underlying27 rfl one16w (.tmp 149) ?_ g12 1 ?_ _ _ (.int .u16 (h.who : Int)) hSw rfl <;> rfl)
                    try simp only [Act.put, PTs]
                    refine tkH 2 (v := ?v17) rfl ?hy17 ?rest17
                    case hy17 => (intro w hSw; (try go_simp); try with_reducible rfl)
                    try simp only [Act.put, PTs]
                    refine tkH 4 (v := ?v18) rfl ?hy18 ?rest18
                    case hy18 => (intro w hSw; (try go_simp); try with_reducible rfl)
                    try simp only [Act.put, PTs]
                    refine tkH 5 (v := ?v19) rfl ?hy19 ?rest19
                    case hy19 => (intro w hSw; (try go_simp); try with_reducible rfl)
                    try simp only [Act.put, PTs]
                    refine tkH 6 (v := ?v20) rfl ?hy20 ?rest20
                    case hy20 => (intro w hSw; (try go_simp); try with_reducible rfl)
                    try simp only [Act.put, PTs]
                    refine tkH 7 (v := ?v21) rfl ?hy21 ?rest21
                    case hy21 => (intro w hSw; (try go_simp); try with_reducible rfl)
                    try simp only [Act.put, PTs]
                    refine tkH 9 (v := ?v22) rfl ?hy22 ?rest22
                    case hy22 => (intro w hSw; (try go_simp); try with_reducible rfl)
                    try simp only [Act.put, PTs]
                    refine tkH 10 (v := ?v23) rfl ?hy23 ?rest23
                    case hy23 => (intro w hSw; refine held_load1 Tryz.underlying9 rfl oneStr (.tmp 158) ?_ g12 2 ?_ _ _ (.string sk) hSw HC2.out <;> rfl)
                    try simp only [Act.put, PTs]
                    refine tkH 11 (v := ?v24) rfl ?hy24 ?rest24
                    case hy24 => (intro w hSw; (try go_simp); try with_reducible rfl)
                    try simp only [Act.put, PTs]
                    refine tkH 12 (v := ?v25) rfl ?hy25 ?rest25
                    case hy25 => (intro w hSw; (try go_simp); try with_reducible rfl)
                    try simp only [Act.put, PTs]
                    refine wpAnyH_ready (rs := [3, 8]) (by kernel_rfl) (by simp) ?_
                    refine AllReadyH.cons rfl (fun K hK => ?_) ?_
                    · go_simp
                      refine (HTW.out _ H.out.tb).mono ?_
                      rintro e V1 ⟨rfl, hbc⟩
                      replace H := hide (H.out.call hbc)
                      clear hbc
                      refine hK.out _ _ (H.out.get 2 rfl) (fun hHeld => ?_)
                      clear hK K
                      refine wpAnyH_ready (rs := [8, 13]) (by kernel_rfl) (by simp) ?_
                      refine AllReadyH.cons rfl (fun K hK => ?_) ?_
                      · refine step_held (.string sbI) (by refine held_load1 Tryz.underlying9 rfl oneStr (.tmp 156) ?_ g10 5 ?_ _ _ (.string sbI) (H.out.get 1 rfl) HC5.out <;> rfl) rfl ?_
                        refine hK.out _ _ (H.out.get 2 rfl) (fun hHeld => ?_)
                        clear hK K
                        try simp only [Act.put, PTs]
                        refine rdH 13 rfl (by kernel_rfl) (fun K hK => ?_)
                        go_simp
                        refine (HBS.out _ H.out.tb).mono ?_
                        rintro e V3 ⟨rfl, hbc⟩
                        replace H := hide (H.out.call hbc)
                        clear hbc
                        refine hK.out _ _ (H.out.get 2 rfl) (fun hHeld => ?_)
                        clear hK K
                        refine rdH 14 rfl (by kernel_rfl) (fun K hK => ?_)
                        go_simp
                        refine (HX2.out _ H.out.tb).mono ?_
                        rintro e V4 ⟨rfl, hbc⟩
                        replace H := hide (H.out.call hbc)
                        clear hbc
                        refine hK.out _ _ (H.out.get 2 rfl) (fun hHeld => ?_)
                        clear hK K
                        refine tkH 15 (v := ?v26) rfl ?hy26 ?rest26
                        case hy26 => (intro w hSw; refine held_build 41 #[(0, .tmp 152), (1, .tmp 153), (2, .tmp 154), (4, .tmp 155), (5, .tmp 163)] ?_ _ (RQ) (HBQ.out _) ?_ <;> rfl)
                        try simp only [Act.put, PTs]
                        refine rdH 16 rfl (by kernel_rfl) (fun K hK => ?_)
                        refine step_storem aggR rfl (.tmp 10) (.tmp 164) rfl g10 0 (RQ) _ (RQ) rfl rfl _ (H.out.get 1 rfl) HQL.out (Nat.le_of_eq (by rw [Nat.zero_add]; exact (HPL.out _).symm)) (splice_all _ _ (by rw [HQL.out, HPL.out])) HQ1.out ?_
                        intro W9 hB10 hF10
                        replace H := hide (H.out.store 1 rfl hF10 hB10)
                        clear hB10 hF10
                        refine hK.out _ _ (H.out.get 2 rfl) (fun hHeld => ?_)
                        clear hK K
                        refine wpAnyH_done (by kernel_rfl) ?_ _
                        clear hHeld
                        exact hend.out _ H.out
                      refine AllReadyH.cons rfl (fun K hK => ?_) AllReadyH.nil
                      go_simp
                      refine (HBS.out _ H.out.tb).mono ?_
                      rintro e V5 ⟨rfl, hbc⟩
                      replace H := hide (H.out.call hbc)
                      clear hbc
                      refine hK.out _ _ (H.out.get 2 rfl) (fun hHeld => ?_)
                      clear hK K
                      refine rdH 8 rfl (by kernel_rfl) (fun K hK => ?_)
                      refine step_held (.string sbI) (by refine held_load1 Tryz.underlying9 rfl oneStr (.tmp 156) ?_ g10 5 ?_ _ _ (.string sbI) (H.out.get 1 rfl) HC5.out <;> rfl) rfl ?_
                      refine hK.out _ _ (H.out.get 2 rfl) (fun hHeld => ?_)
                      clear hK K
                      try simp only [Act.put, PTs]
                      refine rdH 14 rfl (by kernel_rfl) (fun K hK => ?_)
                      go_simp
                      refine (HX2.out _ H.out.tb).mono ?_
                      rintro e V7 ⟨rfl, hbc⟩
                      replace H := hide (H.out.call hbc)
                      clear hbc
                      refine hK.out _ _ (H.out.get 2 rfl) (fun hHeld => ?_)
                      clear hK K
                      refine tkH 15 (v := ?v27) rfl ?hy27 ?rest27
                      case hy27 => (intro w hSw; refine held_build 41 #[(0, .tmp 152), (1, .tmp 153), (2, .tmp 154), (4, .tmp 155), (5, .tmp 163)] ?_ _ (RQ) (HBQ.out _) ?_ <;> rfl)
                      try simp only [Act.put, PTs]
                      refine rdH 16 rfl (by kernel_rfl) (fun K hK => ?_)
                      refine step_storem aggR rfl (.tmp 10) (.tmp 164) rfl g10 0 (RQ) _ (RQ) rfl rfl _ (H.out.get 1 rfl) HQL.out (Nat.le_of_eq (by rw [Nat.zero_add]; exact (HPL.out _).symm)) (splice_all _ _ (by rw [HQL.out, HPL.out])) HQ1.out ?_
                      intro W9 hB10 hF10
                      replace H := hide (H.out.store 1 rfl hF10 hB10)
                      clear hB10 hF10
                      refine hK.out _ _ (H.out.get 2 rfl) (fun hHeld => ?_)
                      clear hK K
                      refine wpAnyH_done (by kernel_rfl) ?_ _
                      clear hHeld
                      exact hend.out _ H.out
                    refine AllReadyH.cons rfl (fun K hK => ?_) AllReadyH.nil
                    refine step_held (.string sbI) (by refine held_load1 Tryz.underlying9 rfl oneStr (.tmp 156) ?_ g10 5 ?_ _ _ (.string sbI) (H.out.get 1 rfl) HC5.out <;> rfl) rfl ?_
                    refine hK.out _ _ (H.out.get 2 rfl) (fun hHeld => ?_)
                    clear hK K
                    try simp only [Act.put, PTs]
                    refine rdH 3 rfl (by kernel_rfl) (fun K hK => ?_)
                    go_simp
                    refine (HTW.out _ H.out.tb).mono ?_
                    rintro e V9 ⟨rfl, hbc⟩
                    replace H := hide (H.out.call hbc)
                    clear hbc
                    refine hK.out _ _ (H.out.get 2 rfl) (fun hHeld => ?_)
                    clear hK K
                    refine rdH 13 rfl (by kernel_rfl) (fun K hK => ?_)
                    go_simp
                    refine (HBS.out _ H.out.tb).mono ?_
                    rintro e V10 ⟨rfl, hbc⟩
                    replace H := hide (H.out.call hbc)
                    clear hbc
                    refine hK.out _ _ (H.out.get 2 rfl) (fun hHeld => ?_)
                    clear hK K
                    refine rdH 14 rfl (by kernel_rfl) (fun K hK => ?_)
                    go_simp
                    refine (HX2.out _ H.out.tb).mono ?_
                    rintro e V11 ⟨rfl, hbc⟩
                    replace H := hide (H.out.call hbc)
                    clear hbc
                    refine hK.out _ _ (H.out.get 2 rfl) (fun hHeld => ?_)
                    clear hK K
                    refine tkH 15 (v := ?v28) rfl ?hy28 ?rest28
                    case hy28 => (intro w hSw; refine held_build 41 #[(0, .tmp 152), (1, .tmp 153), (2, .tmp 154), (4, .tmp 155), (5, .tmp 163)] ?_ _ (RQ) (HBQ.out _) ?_ <;> rfl)
                    try simp only [Act.put, PTs]
                    refine rdH 16 rfl (by kernel_rfl) (fun K hK => ?_)
                    refine step_storem aggR rfl (.tmp 10) (.tmp 164) rfl g10 0 (RQ) _ (RQ) rfl rfl _ (H.out.get 1 rfl) HQL.out (Nat.le_of_eq (by rw [Nat.zero_add]; exact (HPL.out _).symm)) (splice_all _ _ (by rw [HQL.out, HPL.out])) HQ1.out ?_
                    intro W9 hB10 hF10
                    replace H := hide (H.out.store 1 rfl hF10 hB10)
                    clear hB10 hF10
                    refine hK.out _ _ (H.out.get 2 rfl) (fun hHeld => ?_)
                    clear hK K
                    refine wpAnyH_done (by kernel_rfl) ?_ _
                    clear hHeld
                    exact hend.out _ H.out
                  intro W40 hR2
                  replace H := hide hR2
                  clear hR2
                  go_wp2_with (first
                    | (with_reducible refine at_op (op := ⟨some 166, _, _, _, _, _⟩) ?_; refine wpl_held (op := ⟨some 166, _, _, _, _, _⟩) (.string sk) (held_load1 Tryz.underlying9 rfl oneStr _ rfl g12 2 rfl _ _ (.string sk) (H.out.get 2 rfl) HC2.out) rfl ?_)
                    | (with_reducible refine at_op (op := ⟨some 167, _, _, _, _, _⟩) ?_; refine wpl_held (op := ⟨some 167, _, _, _, _, _⟩) (.agg (RQ).toArray) (held_loadf aggR _ rfl g10 rfl _ (RQ) (H.out.get 1 rfl) HQL.out) rfl ?_)
                    | (go_at_call 14; with_reducible refine (HMA.out _ H.out.tb).mono ?_; rintro e W41 ⟨rfl, hbc⟩; replace H := hide (H.out.call hbc); clear hbc)
                    | (with_reducible refine at_op (op := ⟨none, .store _ (.tmp 169) _, _, _, _, _⟩) ?_; (refine wpl_store1 (op := ⟨none, _, _, _, _, _⟩) oneStr rfl (.tmp 169) (.tmp 168) rfl g10 3 (.string so) (RQ) (PC j) rfl rfl rfl _ (H.out.get 1 rfl) (by rw [HQL.out]; decide) HXM.out ?_); intro W42 hB1 hF1; replace H := hide (H.out.store 1 rfl hF1 hB1); clear hB1 hF1))
                  replace H := hide (H.out.pre 2)
                  go_roundw
                  case rel => first | exact ⟨j, (j : Int) - 1, by have := HJ.out.1; omega, rfl, by go_num, H.out⟩ | ((repeat apply Exists.intro); exact ⟨⟨j, (j : Int) - 1, by have := HJ.out.1; omega, rfl, by go_num, H.out⟩, rfl⟩)
                  case measure => first | (simp [intOf]; done) | (simp [intOf]; omega)
  · have hr : rightH hs = false := rightH_size (by rw [hlen]; exact h15)
    have h1 : rbuildC hs box body = rz := if_neg (by rw [hr]; decide)
    have h2 := (built_wrong hr box body).2
    rw [h1, h2]
    clear h1 h2 hr hA hR hb hx hlen hT
    by_cases h0 : n < 1
    · have hz1 : (n : Int) < 1 := by omega
      clear h15
      go_enter Tryz.func6, Tryz.ntmps6
      go_wp2_with (first
        | (with_reducible refine at_op (op := ⟨some 6, _, _, _, _, _⟩) ?_; (with_reducible refine wpl_alloca (op := ⟨some 6, _, _, _, _, _⟩) rfl _ rfl _ zeroR ?_); intro g6 W6 hB1 hg1 hF1; replace H := hide (H.out.box hg1 hF1 hB1); clear hB1 hg1 hF1)
        | (with_reducible refine at_op (op := ⟨some 29, _, _, _, _, _⟩) ?_; refine wpl_held (op := ⟨some 29, _, _, _, _, _⟩) (.agg (rz).toArray) (held_build _ _ rfl _ _ (hbz _) rfl) rfl ?_)
        | (with_reducible refine at_op (op := ⟨none, .store _ (.tmp 6) (.tmp 29), _, _, _, _⟩) ?_; (with_reducible refine wpl_storea aggR rfl (.tmp 6) (.tmp 29) rfl g6 (rz) rfl rfl _ _ (H.out.get 0 rfl) rz_c (rz_len) rz_one ?_); intro W7 hB1 hF1; replace H := hide (H.out.store 0 rfl hF1 hB1); clear hB1 hF1))
      exact bodyPost_ret (results_ct aggR rfl _ _ g6 _ _ rfl (H.out.get 0 rfl) rz_c) rfl ⟨rfl, H.out.bel⟩
    · have hz1 : ¬ (n : Int) < 1 := by omega
      have hz3 : (5 : Int) < (n : Int) := by omega
      clear h15
      go_enter Tryz.func6, Tryz.ntmps6
      go_wp2_with (first
        | (with_reducible refine at_op (op := ⟨some 6, _, _, _, _, _⟩) ?_; (with_reducible refine wpl_alloca (op := ⟨some 6, _, _, _, _, _⟩) rfl _ rfl _ zeroR ?_); intro g6 W6 hB1 hg1 hF1; replace H := hide (H.out.box hg1 hF1 hB1); clear hB1 hg1 hF1)
        | (with_reducible refine at_op (op := ⟨some 29, _, _, _, _, _⟩) ?_; refine wpl_held (op := ⟨some 29, _, _, _, _, _⟩) (.agg (rz).toArray) (held_build _ _ rfl _ _ (hbz _) rfl) rfl ?_)
        | (with_reducible refine at_op (op := ⟨none, .store _ (.tmp 6) (.tmp 29), _, _, _, _⟩) ?_; (with_reducible refine wpl_storea aggR rfl (.tmp 6) (.tmp 29) rfl g6 (rz) rfl rfl _ _ (H.out.get 0 rfl) rz_c (rz_len) rz_one ?_); intro W7 hB1 hF1; replace H := hide (H.out.store 0 rfl hF1 hB1); clear hB1 hF1))
      exact bodyPost_ret (results_ct aggR rfl _ _ g6 _ _ rfl (H.out.get 0 rfl) rz_c) rfl ⟨rfl, H.out.bel⟩
end Go.Proofs.YtoiiiflnnhkjbaaGreatDoor
