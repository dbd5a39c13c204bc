/-
  OnionBody, walked.
-/
import Derived.Test.YtoiiiflnnhkjbaaDoorOnG
namespace Go.Proofs.YtoiiiflnnhkjbaaDoor
set_option linter.unusedVariables false
set_option linter.unusedSimpArgs false
open Go.RowKit

set_option maxHeartbeats 64000000 in
set_option maxRecDepth 100000 in
theorem obody_walk (w : World) (hT : Tb w) (A : Option Addr) (n c : Nat) (hs0 : List HopL) (box : Nat) (x y : List UInt8) (hR0 : HRow w A n hs0) (hnc : n ≤ c) (hc : c ≤ 9223372036854775807) (hbx : box < 65536) (hx : x.length = 256) (hy : y.length = 256) :
    Calls Tryd.prog 7 #[.slice A n c, .int .u16 (box : Int), .agg (cellsB x).toArray, .agg (cellsB y).toArray] w fun e w' => e = .returned (.bool true) ∧ Below w.heap.size w w' := by
  have H := hide (OAt.start hT)
  have HSH := hide shown_o
  obtain ⟨m, HM, hmn, hm5, hme⟩ := nat_min n 5
  clear hme
  have hcut := cut_hops A n c m (by omega)
  obtain ⟨hs, hhs⟩ : ∃ hs, hs = hs0.take m := ⟨_, rfl⟩
  have hR : HRow w A m hs := by rw [hhs]; exact hR0.take hmn
  have HR := hide hR
  have hlen := hR.len
  have hok := hR.ok
  clear hhs hR0
  have HXc := hide (cl hx)
  have HYc := hide (cl hy)
  have HBX0 : Hid (∀ W, Tb W → HRow W A m hs → Calls Tryd.prog 9 #[.slice A m c, .int .u16 (box : Int), .agg (cellsB x).toArray] W fun e w' => e = .returned (.tuple #[.agg (pktC (buildP hs box x)).toArray, .int .i64 (buildE hs)]) ∧ Below W.heap.size W w') := fun W h1 h2 => build_any A m c box hs x W h2 (by omega) hbx hx h1
  have HBY0 : Hid (∀ W, Tb W → HRow W A m hs → Calls Tryd.prog 9 #[.slice A m c, .int .u16 (box : Int), .agg (cellsB y).toArray] W fun e w' => e = .returned (.tuple #[.agg (pktC (buildP hs box y)).toArray, .int .i64 (buildE hs)]) ∧ Below W.heap.size W w') := fun W h1 h2 => build_any A m c box hs y W h2 (by omega) hbx hy h1
  cases hr : rightH hs
  · have HBX := HBX0
    have HBY := HBY0
    rw [(built_wrong hr box x).1, (built_wrong hr box x).2] at HBX
    rw [(built_wrong hr box y).1, (built_wrong hr box y).2] at HBY
    clear HBX0 HBY0 hr hR hT hok hlen hx hy
    go_enter Tryd.func7, Tryd.ntmps7
    go_wp2_with (first
      | (with_reducible refine at_op (op := ⟨some 6, _, _, _, _, _⟩) ?_; (refine wpl_boxa (op := ⟨some 6, _, _, _, _, _⟩) rfl _ _ rfl (cellsB x) rfl ?_); intro g6 W6 hB1 hg1 hF1; replace H := hide (H.out.box hg1 hF1 hB1); clear hB1 hg1 hF1)
      | (with_reducible refine at_op (op := ⟨some 7, _, _, _, _, _⟩) ?_; (refine wpl_boxa (op := ⟨some 7, _, _, _, _, _⟩) rfl _ _ rfl (cellsB y) rfl ?_); intro g7 W7 hB1 hg1 hF1; replace H := hide (H.out.box hg1 hF1 hB1); clear hB1 hg1 hF1)
      | (go_at_call 8; with_reducible refine (HSH.out _ H.out.tb).mono ?_; rintro e W8 ⟨rfl, hbc⟩; replace H := hide (H.out.call hbc); clear hbc)
      | (with_reducible refine wpl_min (op := ⟨some 25, _, _, _, _, _⟩) rfl _ _ _ _ rfl _ _ _ (m : Int) rfl rfl HM.out ?_)
      | (with_reducible refine at_op (op := ⟨some 30, _, _, _, _, _⟩) ?_; refine wpl_held (op := ⟨some 30, _, _, _, _, _⟩) (.agg (cellsB x).toArray) (held_loadf agg256 _ rfl g6 rfl _ (cellsB x) (H.out.get 0 rfl) HXc.out) rfl ?_)
      | (go_at_call 9; with_reducible refine (HBX.out _ H.out.tb (HR.out.below H.out.bel)).mono ?_; rintro e W9 ⟨rfl, hbc⟩; replace H := hide (H.out.call hbc); clear hbc)
      | (with_reducible refine at_op (op := ⟨some 10, _, _, _, _, _⟩) ?_; (with_reducible refine wpl_alloca (op := ⟨some 10, _, _, _, _, _⟩) rfl _ rfl _ zeroP ?_); intro g10 V10 hB1 hg1 hF1; go_simp; (with_reducible refine wpl_storea aggP rfl (.tmp 10) (.tmp 32) rfl g10 (pktC pkt0) rfl rfl _ _ hB1 pkt0_c pkt0_len (pktC_one _) ?_); intro W10 hB2 hF2; replace H := hide (H.out.var hg1 hF1 hF2 hB2); clear hB1 hg1 hF1 hB2 hF2)
      | (with_reducible refine at_op (op := ⟨some 37, _, _, _, _, _⟩) ?_; refine wpl_held (op := ⟨some 37, _, _, _, _, _⟩) (.agg (cellsB y).toArray) (held_loadf agg256 _ rfl g7 rfl _ (cellsB y) (H.out.get 1 rfl) HYc.out) rfl ?_)
      | (go_at_call 9; with_reducible refine (HBY.out _ H.out.tb (HR.out.below H.out.bel)).mono ?_; rintro e W11 ⟨rfl, hbc⟩; replace H := hide (H.out.call hbc); clear hbc)
      | (with_reducible refine at_op (op := ⟨some 12, _, _, _, _, _⟩) ?_; (with_reducible refine wpl_alloca (op := ⟨some 12, _, _, _, _, _⟩) rfl _ rfl _ zeroP ?_); intro g12 V12 hB1 hg1 hF1; go_simp; (with_reducible refine wpl_storea aggP rfl (.tmp 12) (.tmp 39) rfl g12 (pktC pkt0) rfl rfl _ _ hB1 pkt0_c pkt0_len (pktC_one _) ?_); intro W12 hB2 hF2; replace H := hide (H.out.var hg1 hF1 hF2 hB2); clear hB1 hg1 hF1 hB2 hF2))
    go_ret
    exact ⟨rfl, H.out.bel⟩
  · have HBX := HBX0
    have HBY := HBY0
    rw [(built_right hr box x).1, (built_right hr box x).2] at HBX
    rw [(built_right hr box y).1, (built_right hr box y).2] at HBY
    clear HBX0 HBY0
    have hlm : ∀ k, k < m → k < hs.length := fun k h => by rw [hlen]; exact h
    obtain ⟨X, hX⟩ : ∃ X, X = pktAt hs box x := ⟨_, rfl⟩
    obtain ⟨Y, hY⟩ : ∃ Y, Y = pktAt hs box y := ⟨_, rfl⟩
    obtain ⟨S, hS⟩ : ∃ S, S = slotAt hs box x := ⟨_, rfl⟩
    obtain ⟨S', hS'⟩ : ∃ S, S = slotAt hs box y := ⟨_, rfl⟩
    obtain ⟨Z, hZ⟩ : ∃ Z : Nat → Slot, Z = fun k => { S k with mac := Z16 } := ⟨_, rfl⟩
    obtain ⟨K, hK⟩ : ∃ K : Nat → List UInt8, K = fun k => (hs.getD k hop0).key := ⟨_, rfl⟩
    have HPX : Hid (∀ k, k < m → ∀ W, Tb W → Calls Tryd.prog 10 #[.agg (cellsB (K k)).toArray, .agg (pktC (X k)).toArray] W fun e w' => e = .returned (.tuple #[.agg (slotC (S k)).toArray, .agg (pktC (X (k + 1))).toArray, .int .i64 0]) ∧ Below W.heap.size W w') := by
      rw [hX, hS, hK]; exact fun k hk W h => peel_at hok hr hbx hx (hlm k hk) W h
    have HPY : Hid (∀ k, k < m → ∀ W, Tb W → Calls Tryd.prog 10 #[.agg (cellsB (K k)).toArray, .agg (pktC (Y k)).toArray] W fun e w' => e = .returned (.tuple #[.agg (slotC (S' k)).toArray, .agg (pktC (Y (k + 1))).toArray, .int .i64 0]) ∧ Below W.heap.size W w') := by
      rw [hY, hS', hK]; exact fun k hk W h => peel_at hok hr hbx hy (hlm k hk) W h
    have oX : ∀ k, (X k).ok := by rw [hX]; exact pktAt_ok hok hbx hx
    have oY : ∀ k, (Y k).ok := by rw [hY]; exact pktAt_ok hok hbx hy
    have oS : ∀ k, k < m → (S k).ok := by rw [hS]; exact fun k hk => slotAt_ok hok hbx hx (hlm k hk)
    have oS' : ∀ k, k < m → (S' k).ok := by rw [hS']; exact fun k hk => slotAt_ok hok hbx hy (hlm k hk)
    have HLX := hide (fun k => pktC_length (oX k))
    have HLY := hide (fun k => pktC_length (oY k))
    have HLS := hide (fun k (hk : k < m) => slotC_length (S k) (oS k hk).nonce (oS k hk).mac)
    have HLS' := hide (fun k (hk : k < m) => slotC_length (S' k) (oS' k hk).nonce (oS' k hk).mac)
    have hZ' : ∀ k, Z k = { S' k with mac := Z16 } := fun k => by rw [hZ, hS, hS']; exact slotAt_same hs box x y k
    have oZ : ∀ k, k < m → (Z k).ok := fun k hk => by rw [hZ]; exact ⟨(oS k hk).next, (oS k hk).box, (oS k hk).who, (oS k hk).epoch, (oS k hk).lo, (oS k hk).hi, (oS k hk).delay, (oS k hk).nonce, rfl⟩
    have HLZ := hide (fun k (hk : k < m) => slotC_length (Z k) (oZ k hk).nonce (oZ k hk).mac)
    have HZX : Hid (∀ k, k < m → splice (slotC (S k)) 21 (cellsB Z16) = slotC (Z k)) := fun k hk => by rw [hZ]; exact slotC_smac (oS k hk).nonce (oS k hk).mac Z16 rfl
    have HZY : Hid (∀ k, k < m → splice (slotC (S' k)) 21 (cellsB Z16) = slotC (Z k)) := fun k hk => by rw [hZ' k]; exact slotC_smac (oS' k hk).nonce (oS' k hk).mac Z16 rfl
    have hself : ∀ l : List UInt8, (l == l) = true := fun l => by simp
    have HES : Hid (∀ k, k < m → ∀ w, (Op.equalIn 10000 45 (.agg (slotC (Z k)).toArray) (.agg (slotC (Z k)).toArray)).run Tryd.prog w = .ok true w) := fun k hk w => by
      have h := eq_slot (oZ k hk) (oZ k hk) w
      rw [show slotEq (Z k) (Z k) = true from slotEq_iff.2 rfl] at h
      exact h
    have hq : ∀ k, k < m → (Y k).who = (X k).who ∧ (Y k).epoch = (X k).epoch ∧ (Y k).nonce = (X k).nonce := fun k hk => by
      rw [hX, hY]
      obtain ⟨a1, a2, a3⟩ := pktAt_head hs box x (hlm k hk)
      obtain ⟨b1, b2, b3⟩ := pktAt_head hs box y (hlm k hk)
      rw [a1, a2, a3, b1, b2, b3]
      exact ⟨rfl, rfl, rfl⟩
    have HYw : Hid (∀ k, k < m → (pktC (Y k))[0]? = some (.int .u16 ((X k).who : Int))) := fun k hk => by rw [← (hq k hk).1]; rfl
    have HYe : Hid (∀ k, k < m → (pktC (Y k))[1]? = some (.int .u32 ((X k).epoch : Int))) := fun k hk => by rw [← (hq k hk).2.1]; rfl
    have HXn := hide (fun k => pktC_nonce (oX k))
    have HYn : Hid (∀ k, k < m → ((pktC (Y k)).drop 2).take 16 = cellsB (X k).nonce) := fun k hk => by rw [← (hq k hk).2.2]; exact pktC_nonce (oY k)
    have HEN : Hid (∀ k w, (Op.equalIn 10000 32 (.agg (cellsB (X k).nonce).toArray) (.agg (cellsB (X k).nonce).toArray)).run Tryd.prog w = .ok true w) := fun k w => by
      have h := eq_bytes 9998 underN (X k).nonce (X k).nonce (oX k).nonce (oX k).nonce w
      rwa [hself] at h
    have HXb : Hid (((pktC (X m)).drop 354).take 256 = cellsB x) := by
      show _ = _
      rw [pktC_body (oX m), hX, ← hlen, pktAt_last]
    have HYb : Hid (((pktC (Y m)).drop 354).take 256 = cellsB y) := by
      show _ = _
      rw [pktC_body (oY m), hY, ← hlen, pktAt_last]
    have HEX : Hid (∀ w, (Op.equalIn 10000 24 (.agg (cellsB x).toArray) (.agg (cellsB x).toArray)).run Tryd.prog w = .ok true w) := fun w => by
      have h := eq_bytes 9998 under256 x x hx hx w
      rwa [hself] at h
    have HEY : Hid (∀ w, (Op.equalIn 10000 24 (.agg (cellsB y).toArray) (.agg (cellsB y).toArray)).run Tryd.prog w = .ok true w) := fun w => by
      have h := eq_bytes 9998 under256 y y hy hy w
      rwa [hself] at h
    have HKL : Hid (∀ k, k < m → (cellsB (K k)).length = 32) := fun k hk => by rw [hK]; exact cl (hok _ (hop_mem (hlm k hk))).key
    have HKC : Hid (∀ k, k < m → ∀ (W : World) (p : Addr), HRow W (some p) m hs → ∀ q u, (cellsB (K k))[q]? = some u → W.cell? (((p.add (k * 54)).add 2).add q) = some u) := fun k hk W p h => by rw [hK]; exact h.key hk
    have hbm : ∀ w, Sem.run Tryd.prog (Instr.build 36 #[]) w = .ok (.agg (cellsB Z16).toArray) w := fun w => run_build w _ _ _ (by kernel_rfl)
    have HZ16 : Hid ((cellsB Z16).length = 16) := rfl
    rw [← hX] at HBX
    rw [← hY] at HBY
    clear hX hY hS hS' hZ hK oX oY oS oS' oZ hZ' hq hself hr hR hT hok hlm hx hy
    go_enter Tryd.func7, Tryd.ntmps7
    go_wp2_with (first
      | (with_reducible refine at_op (op := ⟨some 6, _, _, _, _, _⟩) ?_; (refine wpl_boxa (op := ⟨some 6, _, _, _, _, _⟩) rfl _ _ rfl (cellsB x) rfl ?_); intro g6 W6 hB1 hg1 hF1; replace H := hide (H.out.box hg1 hF1 hB1); clear hB1 hg1 hF1)
      | (with_reducible refine at_op (op := ⟨some 7, _, _, _, _, _⟩) ?_; (refine wpl_boxa (op := ⟨some 7, _, _, _, _, _⟩) rfl _ _ rfl (cellsB y) rfl ?_); intro g7 W7 hB1 hg1 hF1; replace H := hide (H.out.box hg1 hF1 hB1); clear hB1 hg1 hF1)
      | (go_at_call 8; with_reducible refine (HSH.out _ H.out.tb).mono ?_; rintro e W8 ⟨rfl, hbc⟩; replace H := hide (H.out.call hbc); clear hbc)
      | (with_reducible refine wpl_min (op := ⟨some 25, _, _, _, _, _⟩) rfl _ _ _ _ rfl _ _ _ (m : Int) rfl rfl HM.out ?_)
      | (with_reducible refine at_op (op := ⟨some 30, _, _, _, _, _⟩) ?_; refine wpl_held (op := ⟨some 30, _, _, _, _, _⟩) (.agg (cellsB x).toArray) (held_loadf agg256 _ rfl g6 rfl _ (cellsB x) (H.out.get 0 rfl) HXc.out) rfl ?_)
      | (go_at_call 9; with_reducible refine (HBX.out _ H.out.tb (HR.out.below H.out.bel)).mono ?_; rintro e W9 ⟨rfl, hbc⟩; replace H := hide (H.out.call hbc); clear hbc)
      | (with_reducible refine at_op (op := ⟨some 10, _, _, _, _, _⟩) ?_; (with_reducible refine wpl_alloca (op := ⟨some 10, _, _, _, _, _⟩) rfl _ rfl _ zeroP ?_); intro g10 V10 hB1 hg1 hF1; go_simp; (with_reducible refine wpl_storea aggP rfl (.tmp 10) (.tmp 32) rfl g10 (pktC (X 0)) rfl rfl _ _ hB1 (HLX.out 0) pkt0_len (pktC_one _) ?_); intro W10 hB2 hF2; replace H := hide (H.out.var hg1 hF1 hF2 hB2); clear hB1 hg1 hF1 hB2 hF2)
      | (with_reducible refine at_op (op := ⟨some 37, _, _, _, _, _⟩) ?_; refine wpl_held (op := ⟨some 37, _, _, _, _, _⟩) (.agg (cellsB y).toArray) (held_loadf agg256 _ rfl g7 rfl _ (cellsB y) (H.out.get 1 rfl) HYc.out) rfl ?_)
      | (go_at_call 9; with_reducible refine (HBY.out _ H.out.tb (HR.out.below H.out.bel)).mono ?_; rintro e W11 ⟨rfl, hbc⟩; replace H := hide (H.out.call hbc); clear hbc)
      | (with_reducible refine at_op (op := ⟨some 12, _, _, _, _, _⟩) ?_; (with_reducible refine wpl_alloca (op := ⟨some 12, _, _, _, _, _⟩) rfl _ rfl _ zeroP ?_); intro g12 V12 hB1 hg1 hF1; go_simp; (with_reducible refine wpl_storea aggP rfl (.tmp 12) (.tmp 39) rfl g12 (pktC (Y 0)) rfl rfl _ _ hB1 (HLY.out 0) pkt0_len (pktC_one _) ?_); intro W12 hB2 hF2; replace H := hide (H.out.var hg1 hF1 hF2 hB2); clear hB1 hg1 hF1 hB2 hF2))
    have H0 : Hid (OAt w [(g6, 24, cellsB x), (g7, 24, cellsB y), (g10, 39, pktC (X 0)), (g12, 39, pktC (Y 0))] W12) := H
    clear H
    go_loopw [14] (fun i wr => ∃ k : Nat, k ≤ m ∧ i = .int .i64 k ∧ OAt w [(g6, 24, cellsB x), (g7, 24, cellsB y), (g10, 39, pktC (X k)), (g12, 39, pktC (Y k))] wr) (fun i _ => m - (intOf i).toNat)
    case atStart => exact ⟨0, by omega, rfl, H0.out⟩
    case round =>
      clear H0
      obtain ⟨k, hk, rfl, hat⟩ := hrel
      have H := hide hat
      clear hat
      by_cases hlt : k < m
      · obtain ⟨p, rfl, _⟩ := HR.out.at' (by omega)
        have HX1 := hide (HPX.out k hlt)
        have HY1 := hide (HPY.out k hlt)
        have HKC1 := hide (HKC.out k hlt)
        have HKL1 := hide (HKL.out k hlt)
        have HLS1 := hide (HLS.out k hlt)
        have HLT1 := hide (HLS'.out k hlt)
        have HLZ1 := hide (HLZ.out k hlt)
        have HLX1 := hide (HLX.out k)
        have HLY1 := hide (HLY.out k)
        have HLX2 := hide (HLX.out (k + 1))
        have HLY2 := hide (HLY.out (k + 1))
        have hki : (k : Int) < (m : Int) := by omega
        have hkd : decide ((k : Int) < (m : Int)) = true := decide_eq_true hki
        go_wp2_with fail
        apply merge2 (R := fun a15 a16 W => OAt w [(g6, 24, cellsB x), (g7, 24, cellsB y), (g10, 39, pktC (X k)), (g12, 39, pktC (Y k)), (a15, 45, slotC (S k)), (a16, 39, pktC (X (k + 1)))] W)
        · intro hend
          obtain ⟨U1, hU1⟩ : ∃ U1, U1 = wr.drew := ⟨_, rfl⟩
          refine wp_region_held_drew (S := fun W' => Blk W' g10 39 (pktC (X k)).toArray ∧ HRow W' (some p) m hs) (by kernel_rfl) (by rw [← hU1]; replace H := hide (by rw [hU1]; exact H.out.drew : OAt w _ U1); exact ⟨H.out.get 2 rfl, HR.out.below H.out.bel⟩) ?_
          intro hHeld
          replace H := hide (by rw [hU1]; exact H.out.drew : OAt w _ U1)
          rw [← hU1] at hHeld ⊢
          clear hU1
          refine wpAnyH_take (i := 0) (v := ?v1) rfl (by kernel_rfl) (by kernel_rfl) (by kernel_rfl) (fun _ _ _ h => h) (Or.inl ⟨by rfl, ?hy1⟩) (by assumption) ?rest1
          case hy1 => (intro w hSw; (try go_simp); try with_reducible rfl)
          try simp only [Act.put, List.getElem_toArray, List.getElem_cons_zero, List.getElem_cons_succ, List.setIfInBounds_toArray, List.set_cons_zero, List.set_cons_succ]
          refine wpAnyH_take (i := 1) (v := ?v2) rfl (by kernel_rfl) (by kernel_rfl) (by kernel_rfl) (fun _ _ _ h => h) (Or.inl ⟨by rfl, ?hy2⟩) (by assumption) ?rest2
          case hy2 => (intro w hSw; (try go_simp); try with_reducible rfl)
          try simp only [Act.put, List.getElem_toArray, List.getElem_cons_zero, List.getElem_cons_succ, List.setIfInBounds_toArray, List.set_cons_zero, List.set_cons_succ]
          refine wpAnyH_take (i := 2) (v := ?v3) rfl (by kernel_rfl) (by kernel_rfl) (by kernel_rfl) (fun _ _ _ h => h) (Or.inl ⟨by rfl, ?hy3⟩) (by assumption) ?rest3
          case hy3 => (intro w hSw; (try go_simp); try with_reducible rfl)
          try simp only [Act.put, List.getElem_toArray, List.getElem_cons_zero, List.getElem_cons_succ, List.setIfInBounds_toArray, List.set_cons_zero, List.set_cons_succ]
          refine wpAnyH_take (i := 3) (v := ?v4) rfl (by kernel_rfl) (by kernel_rfl) (by kernel_rfl) (fun _ _ _ h => h) (Or.inl ⟨by rfl, ?hy4⟩) (by assumption) ?rest4
          case hy4 => (intro w hSw; (try go_simp); try with_reducible rfl)
          try simp only [Act.put, List.getElem_toArray, List.getElem_cons_zero, List.getElem_cons_succ, List.setIfInBounds_toArray, List.set_cons_zero, List.set_cons_succ]
          refine wpAnyH_take (i := 4) (v := ?v5) rfl (by kernel_rfl) (by kernel_rfl) (by kernel_rfl) (fun _ _ _ h => h) (Or.inl ⟨by rfl, ?hy5⟩) (by assumption) ?rest5
          case hy5 => (intro w hSw; refine held_loadC aggK (.tmp 59) ?_ ((p.add (k * 54)).add 2) ?_ (cellsB (K k)) HKL1.out (HKC1.out _ _ hSw.2) <;> rfl)
          try simp only [Act.put, List.getElem_toArray, List.getElem_cons_zero, List.getElem_cons_succ, List.setIfInBounds_toArray, List.set_cons_zero, List.set_cons_succ]
          refine wpAnyH_take (i := 5) (v := ?v6) rfl (by kernel_rfl) (by kernel_rfl) (by kernel_rfl) (fun _ _ _ h => h) (Or.inl ⟨by rfl, ?hy6⟩) (by assumption) ?rest6
          case hy6 => (intro w hSw; refine held_loadf aggP (.tmp 10) ?_ g10 ?_ _ (pktC (X k)) hSw.1 HLX1.out <;> rfl)
          try simp only [Act.put, List.getElem_toArray, List.getElem_cons_zero, List.getElem_cons_succ, List.setIfInBounds_toArray, List.set_cons_zero, List.set_cons_succ]
          refine wpAnyH_ready (rs := [6, 11, 12]) (by kernel_rfl) (by simp) ?_
          refine AllReadyH.cons rfl (fun K hK => ?_) ?_
          · go_simp
            refine (HX1.out _ H.out.tb).mono ?_
            rintro e V1 ⟨rfl, hbc⟩
            replace H := hide (H.out.call hbc)
            clear hbc
            refine hK.out _ _ (⟨H.out.get 2 rfl, HR.out.below H.out.bel⟩) (fun hHeld => ?_)
            clear hK K
            refine wpAnyH_take (i := 7) (v := ?v7) rfl (by kernel_rfl) (by kernel_rfl) (by kernel_rfl) (fun _ _ _ h => h) (Or.inl ⟨by rfl, ?hy7⟩) (by assumption) ?rest7
            case hy7 => (intro w hSw; (try go_simp); try with_reducible rfl)
            try simp only [Act.put, List.getElem_toArray, List.getElem_cons_zero, List.getElem_cons_succ, List.setIfInBounds_toArray, List.set_cons_zero, List.set_cons_succ]
            refine wpAnyH_take (i := 8) (v := ?v8) rfl (by kernel_rfl) (by kernel_rfl) (by kernel_rfl) (fun _ _ _ h => h) (Or.inl ⟨by rfl, ?hy8⟩) (by assumption) ?rest8
            case hy8 => (intro w hSw; (try go_simp); try with_reducible rfl)
            try simp only [Act.put, List.getElem_toArray, List.getElem_cons_zero, List.getElem_cons_succ, List.setIfInBounds_toArray, List.set_cons_zero, List.set_cons_succ]
            refine wpAnyH_take (i := 9) (v := ?v9) rfl (by kernel_rfl) (by kernel_rfl) (by kernel_rfl) (fun _ _ _ h => h) (Or.inl ⟨by rfl, ?hy9⟩) (by assumption) ?rest9
            case hy9 => (intro w hSw; (try go_simp); try with_reducible rfl)
            try simp only [Act.put, List.getElem_toArray, List.getElem_cons_zero, List.getElem_cons_succ, List.setIfInBounds_toArray, List.set_cons_zero, List.set_cons_succ]
            refine wpAnyH_take (i := 10) (v := ?v10) rfl (by kernel_rfl) (by kernel_rfl) (by kernel_rfl) (fun _ _ _ h => h) (Or.inl ⟨by rfl, ?hy10⟩) (by assumption) ?rest10
            case hy10 => (intro w hSw; (try go_simp); try with_reducible rfl)
            try simp only [Act.put, List.getElem_toArray, List.getElem_cons_zero, List.getElem_cons_succ, List.setIfInBounds_toArray, List.set_cons_zero, List.set_cons_succ]
            refine wpAnyH_ready (rs := [11, 12]) (by kernel_rfl) (by simp) ?_
            refine AllReadyH.cons rfl (fun K hK => ?_) ?_
            · refine step_alloca rfl _ rfl _ zeroS ?_
              intro g15 V2 hB8 hs8 hF8
              replace H := hide (H.out.box hs8 hF8 hB8)
              clear hB8 hs8 hF8
              refine hK.out _ _ (⟨H.out.get 2 rfl, HR.out.below H.out.bel⟩) (fun hHeld => ?_)
              clear hK K
              refine wpAnyH_ready (rs := [12]) (by kernel_rfl) (by simp) ?_
              refine AllReadyH.cons rfl (fun K hK => ?_) AllReadyH.nil
              refine step_alloca rfl _ rfl _ zeroP ?_
              intro g16 V3 hB8 hs8 hF8
              replace H := hide (H.out.box hs8 hF8 hB8)
              clear hB8 hs8 hF8
              refine hK.out _ _ (⟨H.out.get 2 rfl, HR.out.below H.out.bel⟩) (fun hHeld => ?_)
              clear hK K
              refine wpAnyH_ready (rs := [13]) (by kernel_rfl) (by simp) ?_
              refine AllReadyH.cons rfl (fun K hK => ?_) AllReadyH.nil
              refine step_storem aggS rfl (.tmp 15) (.tmp 63) rfl g15 0 (slotC (S k)) _ (slotC (S k)) rfl rfl _ (H.out.get 4 rfl) HLS1.out (Nat.le_of_eq (by rw [Nat.zero_add]; exact slot0_c.symm)) (splice_all _ _ (by rw [HLS1.out]; exact slot0_c)) (slotC_one _) ?_
              intro V4 hB8 hF8
              replace H := hide (H.out.store 4 rfl hF8 hB8)
              clear hB8 hF8
              refine hK.out _ _ (⟨H.out.get 2 rfl, HR.out.below H.out.bel⟩) (fun hHeld => ?_)
              clear hK K
              refine wpAnyH_ready (rs := [14]) (by kernel_rfl) (by simp) ?_
              refine AllReadyH.cons rfl (fun K hK => ?_) AllReadyH.nil
              refine step_storem aggP rfl (.tmp 16) (.tmp 64) rfl g16 0 (pktC (X (k + 1))) _ (pktC (X (k + 1))) rfl rfl _ (H.out.get 5 rfl) HLX2.out (Nat.le_of_eq (by rw [Nat.zero_add]; exact pkt0_c.symm)) (splice_all _ _ (by rw [HLX2.out]; exact pkt0_c)) (pktC_one _) ?_
              intro V5 hB8 hF8
              replace H := hide (H.out.store 5 rfl hF8 hB8)
              clear hB8 hF8
              refine hK.out _ _ (⟨H.out.get 2 rfl, HR.out.below H.out.bel⟩) (fun hHeld => ?_)
              clear hK K
              refine wpAnyH_take (i := 15) (v := ?v11) rfl (by kernel_rfl) (by kernel_rfl) (by kernel_rfl) (fun _ _ _ h => h) (Or.inl ⟨by rfl, ?hy11⟩) (by assumption) ?rest11
              case hy11 => (intro w hSw; (try go_simp); try with_reducible rfl)
              try simp only [Act.put, List.getElem_toArray, List.getElem_cons_zero, List.getElem_cons_succ, List.setIfInBounds_toArray, List.set_cons_zero, List.set_cons_succ]
              refine wpAnyH_done (by kernel_rfl) ?_ _
              clear hHeld
              exact hend.out g15 g16 _ (H.out)
            refine AllReadyH.cons rfl (fun K hK => ?_) AllReadyH.nil
            refine step_alloca rfl _ rfl _ zeroP ?_
            intro g16 V6 hB8 hs8 hF8
            replace H := hide (H.out.box hs8 hF8 hB8)
            clear hB8 hs8 hF8
            refine hK.out _ _ (⟨H.out.get 2 rfl, HR.out.below H.out.bel⟩) (fun hHeld => ?_)
            clear hK K
            refine wpAnyH_ready (rs := [11]) (by kernel_rfl) (by simp) ?_
            refine AllReadyH.cons rfl (fun K hK => ?_) AllReadyH.nil
            refine step_alloca rfl _ rfl _ zeroS ?_
            intro g15 V7 hB8 hs8 hF8
            replace H := hide (H.out.box hs8 hF8 hB8)
            clear hB8 hs8 hF8
            refine hK.out _ _ (⟨H.out.get 2 rfl, HR.out.below H.out.bel⟩) (fun hHeld => ?_)
            clear hK K
            refine wpAnyH_ready (rs := [13]) (by kernel_rfl) (by simp) ?_
            refine AllReadyH.cons rfl (fun K hK => ?_) AllReadyH.nil
            refine step_storem aggS rfl (.tmp 15) (.tmp 63) rfl g15 0 (slotC (S k)) _ (slotC (S k)) rfl rfl _ (H.out.get 5 rfl) HLS1.out (Nat.le_of_eq (by rw [Nat.zero_add]; exact slot0_c.symm)) (splice_all _ _ (by rw [HLS1.out]; exact slot0_c)) (slotC_one _) ?_
            intro V8 hB8 hF8
            replace H := hide (H.out.store 5 rfl hF8 hB8)
            clear hB8 hF8
            refine hK.out _ _ (⟨H.out.get 2 rfl, HR.out.below H.out.bel⟩) (fun hHeld => ?_)
            clear hK K
            refine wpAnyH_ready (rs := [14]) (by kernel_rfl) (by simp) ?_
            refine AllReadyH.cons rfl (fun K hK => ?_) AllReadyH.nil
            refine step_storem aggP rfl (.tmp 16) (.tmp 64) rfl g16 0 (pktC (X (k + 1))) _ (pktC (X (k + 1))) rfl rfl _ (H.out.get 4 rfl) HLX2.out (Nat.le_of_eq (by rw [Nat.zero_add]; exact pkt0_c.symm)) (splice_all _ _ (by rw [HLX2.out]; exact pkt0_c)) (pktC_one _) ?_
            intro V9 hB8 hF8
            replace H := hide (H.out.store 4 rfl hF8 hB8)
            clear hB8 hF8
            refine hK.out _ _ (⟨H.out.get 2 rfl, HR.out.below H.out.bel⟩) (fun hHeld => ?_)
            clear hK K
            refine wpAnyH_take (i := 15) (v := ?v12) rfl (by kernel_rfl) (by kernel_rfl) (by kernel_rfl) (fun _ _ _ h => h) (Or.inl ⟨by rfl, ?hy12⟩) (by assumption) ?rest12
            case hy12 => (intro w hSw; (try go_simp); try with_reducible rfl)
            try simp only [Act.put, List.getElem_toArray, List.getElem_cons_zero, List.getElem_cons_succ, List.setIfInBounds_toArray, List.set_cons_zero, List.set_cons_succ]
            refine wpAnyH_done (by kernel_rfl) ?_ _
            clear hHeld
            exact hend.out g15 g16 _ (H.out.perm (.cons _ (.cons _ (.cons _ (.cons _ (.swap _ _ _))))))
          refine AllReadyH.cons rfl (fun K hK => ?_) ?_
          · refine step_alloca rfl _ rfl _ zeroS ?_
            intro g15 V10 hB8 hs8 hF8
            replace H := hide (H.out.box hs8 hF8 hB8)
            clear hB8 hs8 hF8
            refine hK.out _ _ (⟨H.out.get 2 rfl, HR.out.below H.out.bel⟩) (fun hHeld => ?_)
            clear hK K
            refine wpAnyH_ready (rs := [6, 12]) (by kernel_rfl) (by simp) ?_
            refine AllReadyH.cons rfl (fun K hK => ?_) ?_
            · go_simp
              refine (HX1.out _ H.out.tb).mono ?_
              rintro e V11 ⟨rfl, hbc⟩
              replace H := hide (H.out.call hbc)
              clear hbc
              refine hK.out _ _ (⟨H.out.get 2 rfl, HR.out.below H.out.bel⟩) (fun hHeld => ?_)
              clear hK K
              refine wpAnyH_take (i := 7) (v := ?v13) rfl (by kernel_rfl) (by kernel_rfl) (by kernel_rfl) (fun _ _ _ h => h) (Or.inl ⟨by rfl, ?hy13⟩) (by assumption) ?rest13
              case hy13 => (intro w hSw; (try go_simp); try with_reducible rfl)
              try simp only [Act.put, List.getElem_toArray, List.getElem_cons_zero, List.getElem_cons_succ, List.setIfInBounds_toArray, List.set_cons_zero, List.set_cons_succ]
              refine wpAnyH_take (i := 8) (v := ?v14) rfl (by kernel_rfl) (by kernel_rfl) (by kernel_rfl) (fun _ _ _ h => h) (Or.inl ⟨by rfl, ?hy14⟩) (by assumption) ?rest14
              case hy14 => (intro w hSw; (try go_simp); try with_reducible rfl)
              try simp only [Act.put, List.getElem_toArray, List.getElem_cons_zero, List.getElem_cons_succ, List.setIfInBounds_toArray, List.set_cons_zero, List.set_cons_succ]
              refine wpAnyH_take (i := 9) (v := ?v15) rfl (by kernel_rfl) (by kernel_rfl) (by kernel_rfl) (fun _ _ _ h => h) (Or.inl ⟨by rfl, ?hy15⟩) (by assumption) ?rest15
              case hy15 => (intro w hSw; (try go_simp); try with_reducible rfl)
              try simp only [Act.put, List.getElem_toArray, List.getElem_cons_zero, List.getElem_cons_succ, List.setIfInBounds_toArray, List.set_cons_zero, List.set_cons_succ]
              refine wpAnyH_take (i := 10) (v := ?v16) rfl (by kernel_rfl) (by kernel_rfl) (by kernel_rfl) (fun _ _ _ h => h) (Or.inl ⟨by rfl, ?hy16⟩) (by assumption) ?rest16
              case hy16 => (intro w hSw; (try go_simp); try with_reducible rfl)
              try simp only [Act.put, List.getElem_toArray, List.getElem_cons_zero, List.getElem_cons_succ, List.setIfInBounds_toArray, List.set_cons_zero, List.set_cons_succ]
              refine wpAnyH_ready (rs := [12]) (by kernel_rfl) (by simp) ?_
              refine AllReadyH.cons rfl (fun K hK => ?_) AllReadyH.nil
              refine step_alloca rfl _ rfl _ zeroP ?_
              intro g16 V12 hB8 hs8 hF8
              replace H := hide (H.out.box hs8 hF8 hB8)
              clear hB8 hs8 hF8
              refine hK.out _ _ (⟨H.out.get 2 rfl, HR.out.below H.out.bel⟩) (fun hHeld => ?_)
              clear hK K
              refine wpAnyH_ready (rs := [13]) (by kernel_rfl) (by simp) ?_
              refine AllReadyH.cons rfl (fun K hK => ?_) AllReadyH.nil
              refine step_storem aggS rfl (.tmp 15) (.tmp 63) rfl g15 0 (slotC (S k)) _ (slotC (S k)) rfl rfl _ (H.out.get 4 rfl) HLS1.out (Nat.le_of_eq (by rw [Nat.zero_add]; exact slot0_c.symm)) (splice_all _ _ (by rw [HLS1.out]; exact slot0_c)) (slotC_one _) ?_
              intro V13 hB8 hF8
              replace H := hide (H.out.store 4 rfl hF8 hB8)
              clear hB8 hF8
              refine hK.out _ _ (⟨H.out.get 2 rfl, HR.out.below H.out.bel⟩) (fun hHeld => ?_)
              clear hK K
              refine wpAnyH_ready (rs := [14]) (by kernel_rfl) (by simp) ?_
              refine AllReadyH.cons rfl (fun K hK => ?_) AllReadyH.nil
              refine step_storem aggP rfl (.tmp 16) (.tmp 64) rfl g16 0 (pktC (X (k + 1))) _ (pktC (X (k + 1))) rfl rfl _ (H.out.get 5 rfl) HLX2.out (Nat.le_of_eq (by rw [Nat.zero_add]; exact pkt0_c.symm)) (splice_all _ _ (by rw [HLX2.out]; exact pkt0_c)) (pktC_one _) ?_
              intro V14 hB8 hF8
              replace H := hide (H.out.store 5 rfl hF8 hB8)
              clear hB8 hF8
              refine hK.out _ _ (⟨H.out.get 2 rfl, HR.out.below H.out.bel⟩) (fun hHeld => ?_)
              clear hK K
              refine wpAnyH_take (i := 15) (v := ?v17) rfl (by kernel_rfl) (by kernel_rfl) (by kernel_rfl) (fun _ _ _ h => h) (Or.inl ⟨by rfl, ?hy17⟩) (by assumption) ?rest17
              case hy17 => (intro w hSw; (try go_simp); try with_reducible rfl)
              try simp only [Act.put, List.getElem_toArray, List.getElem_cons_zero, List.getElem_cons_succ, List.setIfInBounds_toArray, List.set_cons_zero, List.set_cons_succ]
              refine wpAnyH_done (by kernel_rfl) ?_ _
              clear hHeld
              exact hend.out g15 g16 _ (H.out)
            refine AllReadyH.cons rfl (fun K hK => ?_) AllReadyH.nil
            refine step_alloca rfl _ rfl _ zeroP ?_
            intro g16 V15 hB8 hs8 hF8
            replace H := hide (H.out.box hs8 hF8 hB8)
            clear hB8 hs8 hF8
            refine hK.out _ _ (⟨H.out.get 2 rfl, HR.out.below H.out.bel⟩) (fun hHeld => ?_)
            clear hK K
            refine wpAnyH_ready (rs := [6]) (by kernel_rfl) (by simp) ?_
            refine AllReadyH.cons rfl (fun K hK => ?_) AllReadyH.nil
            go_simp
            refine (HX1.out _ H.out.tb).mono ?_
            rintro e V16 ⟨rfl, hbc⟩
            replace H := hide (H.out.call hbc)
            clear hbc
            refine hK.out _ _ (⟨H.out.get 2 rfl, HR.out.below H.out.bel⟩) (fun hHeld => ?_)
            clear hK K
            refine wpAnyH_take (i := 7) (v := ?v18) rfl (by kernel_rfl) (by kernel_rfl) (by kernel_rfl) (fun _ _ _ h => h) (Or.inl ⟨by rfl, ?hy18⟩) (by assumption) ?rest18
            case hy18 => (intro w hSw; (try go_simp); try with_reducible rfl)
            try simp only [Act.put, List.getElem_toArray, List.getElem_cons_zero, List.getElem_cons_succ, List.setIfInBounds_toArray, List.set_cons_zero, List.set_cons_succ]
            refine wpAnyH_take (i := 8) (v := ?v19) rfl (by kernel_rfl) (by kernel_rfl) (by kernel_rfl) (fun _ _ _ h => h) (Or.inl ⟨by rfl, ?hy19⟩) (by assumption) ?rest19
            case hy19 => (intro w hSw; (try go_simp); try with_reducible rfl)
            try simp only [Act.put, List.getElem_toArray, List.getElem_cons_zero, List.getElem_cons_succ, List.setIfInBounds_toArray, List.set_cons_zero, List.set_cons_succ]
            refine wpAnyH_take (i := 9) (v := ?v20) rfl (by kernel_rfl) (by kernel_rfl) (by kernel_rfl) (fun _ _ _ h => h) (Or.inl ⟨by rfl, ?hy20⟩) (by assumption) ?rest20
            case hy20 => (intro w hSw; (try go_simp); try with_reducible rfl)
            try simp only [Act.put, List.getElem_toArray, List.getElem_cons_zero, List.getElem_cons_succ, List.setIfInBounds_toArray, List.set_cons_zero, List.set_cons_succ]
            refine wpAnyH_take (i := 10) (v := ?v21) rfl (by kernel_rfl) (by kernel_rfl) (by kernel_rfl) (fun _ _ _ h => h) (Or.inl ⟨by rfl, ?hy21⟩) (by assumption) ?rest21
            case hy21 => (intro w hSw; (try go_simp); try with_reducible rfl)
            try simp only [Act.put, List.getElem_toArray, List.getElem_cons_zero, List.getElem_cons_succ, List.setIfInBounds_toArray, List.set_cons_zero, List.set_cons_succ]
            refine wpAnyH_ready (rs := [13]) (by kernel_rfl) (by simp) ?_
            refine AllReadyH.cons rfl (fun K hK => ?_) AllReadyH.nil
            refine step_storem aggS rfl (.tmp 15) (.tmp 63) rfl g15 0 (slotC (S k)) _ (slotC (S k)) rfl rfl _ (H.out.get 4 rfl) HLS1.out (Nat.le_of_eq (by rw [Nat.zero_add]; exact slot0_c.symm)) (splice_all _ _ (by rw [HLS1.out]; exact slot0_c)) (slotC_one _) ?_
            intro V17 hB8 hF8
            replace H := hide (H.out.store 4 rfl hF8 hB8)
            clear hB8 hF8
            refine hK.out _ _ (⟨H.out.get 2 rfl, HR.out.below H.out.bel⟩) (fun hHeld => ?_)
            clear hK K
            refine wpAnyH_ready (rs := [14]) (by kernel_rfl) (by simp) ?_
            refine AllReadyH.cons rfl (fun K hK => ?_) AllReadyH.nil
            refine step_storem aggP rfl (.tmp 16) (.tmp 64) rfl g16 0 (pktC (X (k + 1))) _ (pktC (X (k + 1))) rfl rfl _ (H.out.get 5 rfl) HLX2.out (Nat.le_of_eq (by rw [Nat.zero_add]; exact pkt0_c.symm)) (splice_all _ _ (by rw [HLX2.out]; exact pkt0_c)) (pktC_one _) ?_
            intro V18 hB8 hF8
            replace H := hide (H.out.store 5 rfl hF8 hB8)
            clear hB8 hF8
            refine hK.out _ _ (⟨H.out.get 2 rfl, HR.out.below H.out.bel⟩) (fun hHeld => ?_)
            clear hK K
            refine wpAnyH_take (i := 15) (v := ?v22) rfl (by kernel_rfl) (by kernel_rfl) (by kernel_rfl) (fun _ _ _ h => h) (Or.inl ⟨by rfl, ?hy22⟩) (by assumption) ?rest22
            case hy22 => (intro w hSw; (try go_simp); try with_reducible rfl)
            try simp only [Act.put, List.getElem_toArray, List.getElem_cons_zero, List.getElem_cons_succ, List.setIfInBounds_toArray, List.set_cons_zero, List.set_cons_succ]
            refine wpAnyH_done (by kernel_rfl) ?_ _
            clear hHeld
            exact hend.out g15 g16 _ (H.out)
          refine AllReadyH.cons rfl (fun K hK => ?_) AllReadyH.nil
          refine step_alloca rfl _ rfl _ zeroP ?_
          intro g16 V19 hB8 hs8 hF8
          replace H := hide (H.out.box hs8 hF8 hB8)
          clear hB8 hs8 hF8
          refine hK.out _ _ (⟨H.out.get 2 rfl, HR.out.below H.out.bel⟩) (fun hHeld => ?_)
          clear hK K
          refine wpAnyH_ready (rs := [6, 11]) (by kernel_rfl) (by simp) ?_
          refine AllReadyH.cons rfl (fun K hK => ?_) ?_
          · go_simp
            refine (HX1.out _ H.out.tb).mono ?_
            rintro e V20 ⟨rfl, hbc⟩
            replace H := hide (H.out.call hbc)
            clear hbc
            refine hK.out _ _ (⟨H.out.get 2 rfl, HR.out.below H.out.bel⟩) (fun hHeld => ?_)
            clear hK K
            refine wpAnyH_take (i := 7) (v := ?v23) rfl (by kernel_rfl) (by kernel_rfl) (by kernel_rfl) (fun _ _ _ h => h) (Or.inl ⟨by rfl, ?hy23⟩) (by assumption) ?rest23
            case hy23 => (intro w hSw; (try go_simp); try with_reducible rfl)
            try simp only [Act.put, List.getElem_toArray, List.getElem_cons_zero, List.getElem_cons_succ, List.setIfInBounds_toArray, List.set_cons_zero, List.set_cons_succ]
            refine wpAnyH_take (i := 8) (v := ?v24) rfl (by kernel_rfl) (by kernel_rfl) (by kernel_rfl) (fun _ _ _ h => h) (Or.inl ⟨by rfl, ?hy24⟩) (by assumption) ?rest24
            case hy24 => (intro w hSw; (try go_simp); try with_reducible rfl)
            try simp only [Act.put, List.getElem_toArray, List.getElem_cons_zero, List.getElem_cons_succ, List.setIfInBounds_toArray, List.set_cons_zero, List.set_cons_succ]
            refine wpAnyH_take (i := 9) (v := ?v25) rfl (by kernel_rfl) (by kernel_rfl) (by kernel_rfl) (fun _ _ _ h => h) (Or.inl ⟨by rfl, ?hy25⟩) (by assumption) ?rest25
            case hy25 => (intro w hSw; (try go_simp); try with_reducible rfl)
            try simp only [Act.put, List.getElem_toArray, List.getElem_cons_zero, List.getElem_cons_succ, List.setIfInBounds_toArray, List.set_cons_zero, List.set_cons_succ]
            refine wpAnyH_take (i := 10) (v := ?v26) rfl (by kernel_rfl) (by kernel_rfl) (by kernel_rfl) (fun _ _ _ h => h) (Or.inl ⟨by rfl, ?hy26⟩) (by assumption) ?rest26
            case hy26 => (intro w hSw; (try go_simp); try with_reducible rfl)
            try simp only [Act.put, List.getElem_toArray, List.getElem_cons_zero, List.getElem_cons_succ, List.setIfInBounds_toArray, List.set_cons_zero, List.set_cons_succ]
            refine wpAnyH_ready (rs := [11]) (by kernel_rfl) (by simp) ?_
            refine AllReadyH.cons rfl (fun K hK => ?_) AllReadyH.nil
            refine step_alloca rfl _ rfl _ zeroS ?_
            intro g15 V21 hB8 hs8 hF8
            replace H := hide (H.out.box hs8 hF8 hB8)
            clear hB8 hs8 hF8
            refine hK.out _ _ (⟨H.out.get 2 rfl, HR.out.below H.out.bel⟩) (fun hHeld => ?_)
            clear hK K
            refine wpAnyH_ready (rs := [13]) (by kernel_rfl) (by simp) ?_
            refine AllReadyH.cons rfl (fun K hK => ?_) AllReadyH.nil
            refine step_storem aggS rfl (.tmp 15) (.tmp 63) rfl g15 0 (slotC (S k)) _ (slotC (S k)) rfl rfl _ (H.out.get 5 rfl) HLS1.out (Nat.le_of_eq (by rw [Nat.zero_add]; exact slot0_c.symm)) (splice_all _ _ (by rw [HLS1.out]; exact slot0_c)) (slotC_one _) ?_
            intro V22 hB8 hF8
            replace H := hide (H.out.store 5 rfl hF8 hB8)
            clear hB8 hF8
            refine hK.out _ _ (⟨H.out.get 2 rfl, HR.out.below H.out.bel⟩) (fun hHeld => ?_)
            clear hK K
            refine wpAnyH_ready (rs := [14]) (by kernel_rfl) (by simp) ?_
            refine AllReadyH.cons rfl (fun K hK => ?_) AllReadyH.nil
            refine step_storem aggP rfl (.tmp 16) (.tmp 64) rfl g16 0 (pktC (X (k + 1))) _ (pktC (X (k + 1))) rfl rfl _ (H.out.get 4 rfl) HLX2.out (Nat.le_of_eq (by rw [Nat.zero_add]; exact pkt0_c.symm)) (splice_all _ _ (by rw [HLX2.out]; exact pkt0_c)) (pktC_one _) ?_
            intro V23 hB8 hF8
            replace H := hide (H.out.store 4 rfl hF8 hB8)
            clear hB8 hF8
            refine hK.out _ _ (⟨H.out.get 2 rfl, HR.out.below H.out.bel⟩) (fun hHeld => ?_)
            clear hK K
            refine wpAnyH_take (i := 15) (v := ?v27) rfl (by kernel_rfl) (by kernel_rfl) (by kernel_rfl) (fun _ _ _ h => h) (Or.inl ⟨by rfl, ?hy27⟩) (by assumption) ?rest27
            case hy27 => (intro w hSw; (try go_simp); try with_reducible rfl)
            try simp only [Act.put, List.getElem_toArray, List.getElem_cons_zero, List.getElem_cons_succ, List.setIfInBounds_toArray, List.set_cons_zero, List.set_cons_succ]
            refine wpAnyH_done (by kernel_rfl) ?_ _
            clear hHeld
            exact hend.out g15 g16 _ (H.out.perm (.cons _ (.cons _ (.cons _ (.cons _ (.swap _ _ _))))))
          refine AllReadyH.cons rfl (fun K hK => ?_) AllReadyH.nil
          refine step_alloca rfl _ rfl _ zeroS ?_
          intro g15 V24 hB8 hs8 hF8
          replace H := hide (H.out.box hs8 hF8 hB8)
          clear hB8 hs8 hF8
          refine hK.out _ _ (⟨H.out.get 2 rfl, HR.out.below H.out.bel⟩) (fun hHeld => ?_)
          clear hK K
          refine wpAnyH_ready (rs := [6]) (by kernel_rfl) (by simp) ?_
          refine AllReadyH.cons rfl (fun K hK => ?_) AllReadyH.nil
          go_simp
          refine (HX1.out _ H.out.tb).mono ?_
          rintro e V25 ⟨rfl, hbc⟩
          replace H := hide (H.out.call hbc)
          clear hbc
          refine hK.out _ _ (⟨H.out.get 2 rfl, HR.out.below H.out.bel⟩) (fun hHeld => ?_)
          clear hK K
          refine wpAnyH_take (i := 7) (v := ?v28) rfl (by kernel_rfl) (by kernel_rfl) (by kernel_rfl) (fun _ _ _ h => h) (Or.inl ⟨by rfl, ?hy28⟩) (by assumption) ?rest28
          case hy28 => (intro w hSw; (try go_simp); try with_reducible rfl)
          try simp only [Act.put, List.getElem_toArray, List.getElem_cons_zero, List.getElem_cons_succ, List.setIfInBounds_toArray, List.set_cons_zero, List.set_cons_succ]
          refine wpAnyH_take (i := 8) (v := ?v29) rfl (by kernel_rfl) (by kernel_rfl) (by kernel_rfl) (fun _ _ _ h => h) (Or.inl ⟨by rfl, ?hy29⟩) (by assumption) ?rest29
          case hy29 => (intro w hSw; (try go_simp); try with_reducible rfl)
          try simp only [Act.put, List.getElem_toArray, List.getElem_cons_zero, List.getElem_cons_succ, List.setIfInBounds_toArray, List.set_cons_zero, List.set_cons_succ]
          refine wpAnyH_take (i := 9) (v := ?v30) rfl (by kernel_rfl) (by kernel_rfl) (by kernel_rfl) (fun _ _ _ h => h) (Or.inl ⟨by rfl, ?hy30⟩) (by assumption) ?rest30
          case hy30 => (intro w hSw; (try go_simp); try with_reducible rfl)
          try simp only [Act.put, List.getElem_toArray, List.getElem_cons_zero, List.getElem_cons_succ, List.setIfInBounds_toArray, List.set_cons_zero, List.set_cons_succ]
          refine wpAnyH_take (i := 10) (v := ?v31) rfl (by kernel_rfl) (by kernel_rfl) (by kernel_rfl) (fun _ _ _ h => h) (Or.inl ⟨by rfl, ?hy31⟩) (by assumption) ?rest31
          case hy31 => (intro w hSw; (try go_simp); try with_reducible rfl)
          try simp only [Act.put, List.getElem_toArray, List.getElem_cons_zero, List.getElem_cons_succ, List.setIfInBounds_toArray, List.set_cons_zero, List.set_cons_succ]
          refine wpAnyH_ready (rs := [13]) (by kernel_rfl) (by simp) ?_
          refine AllReadyH.cons rfl (fun K hK => ?_) AllReadyH.nil
          refine step_storem aggS rfl (.tmp 15) (.tmp 63) rfl g15 0 (slotC (S k)) _ (slotC (S k)) rfl rfl _ (H.out.get 5 rfl) HLS1.out (Nat.le_of_eq (by rw [Nat.zero_add]; exact slot0_c.symm)) (splice_all _ _ (by rw [HLS1.out]; exact slot0_c)) (slotC_one _) ?_
          intro V26 hB8 hF8
          replace H := hide (H.out.store 5 rfl hF8 hB8)
          clear hB8 hF8
          refine hK.out _ _ (⟨H.out.get 2 rfl, HR.out.below H.out.bel⟩) (fun hHeld => ?_)
          clear hK K
          refine wpAnyH_ready (rs := [14]) (by kernel_rfl) (by simp) ?_
          refine AllReadyH.cons rfl (fun K hK => ?_) AllReadyH.nil
          refine step_storem aggP rfl (.tmp 16) (.tmp 64) rfl g16 0 (pktC (X (k + 1))) _ (pktC (X (k + 1))) rfl rfl _ (H.out.get 4 rfl) HLX2.out (Nat.le_of_eq (by rw [Nat.zero_add]; exact pkt0_c.symm)) (splice_all _ _ (by rw [HLX2.out]; exact pkt0_c)) (pktC_one _) ?_
          intro V27 hB8 hF8
          replace H := hide (H.out.store 4 rfl hF8 hB8)
          clear hB8 hF8
          refine hK.out _ _ (⟨H.out.get 2 rfl, HR.out.below H.out.bel⟩) (fun hHeld => ?_)
          clear hK K
          refine wpAnyH_take (i := 15) (v := ?v32) rfl (by kernel_rfl) (by kernel_rfl) (by kernel_rfl) (fun _ _ _ h => h) (Or.inl ⟨by rfl, ?hy32⟩) (by assumption) ?rest32
          case hy32 => (intro w hSw; (try go_simp); try with_reducible rfl)
          try simp only [Act.put, List.getElem_toArray, List.getElem_cons_zero, List.getElem_cons_succ, List.setIfInBounds_toArray, List.set_cons_zero, List.set_cons_succ]
          refine wpAnyH_done (by kernel_rfl) ?_ _
          clear hHeld
          exact hend.out g15 g16 _ (H.out.perm (.cons _ (.cons _ (.cons _ (.cons _ (.swap _ _ _))))))
        intro g15 g16 U2 hR2
        replace H := hide hR2
        clear hR2
        go_wp2_with fail
        apply merge2 (R := fun a18 a19 W => OAt w [(g6, 24, cellsB x), (g7, 24, cellsB y), (g10, 39, pktC (X k)), (g12, 39, pktC (Y k)), (g15, 45, slotC (S k)), (g16, 39, pktC (X (k + 1))), (a18, 45, slotC (S' k)), (a19, 39, pktC (Y (k + 1)))] W)
        · intro hend
          obtain ⟨U3, hU3⟩ : ∃ U3, U3 = U2.drew := ⟨_, rfl⟩
          refine wp_region_held_drew (S := fun W' => Blk W' g12 39 (pktC (Y k)).toArray ∧ HRow W' (some p) m hs) (by kernel_rfl) (by rw [← hU3]; replace H := hide (by rw [hU3]; exact H.out.drew : OAt w _ U3); exact ⟨H.out.get 3 rfl, HR.out.below H.out.bel⟩) ?_
          intro hHeld
          replace H := hide (by rw [hU3]; exact H.out.drew : OAt w _ U3)
          rw [← hU3] at hHeld ⊢
          clear hU3
          refine wpAnyH_take (i := 0) (v := ?v33) rfl (by kernel_rfl) (by kernel_rfl) (by kernel_rfl) (fun _ _ _ h => h) (Or.inl ⟨by rfl, ?hy33⟩) (by assumption) ?rest33
          case hy33 => (intro w hSw; (try go_simp); try with_reducible rfl)
          try simp only [Act.put, List.getElem_toArray, List.getElem_cons_zero, List.getElem_cons_succ, List.setIfInBounds_toArray, List.set_cons_zero, List.set_cons_succ]
          refine wpAnyH_take (i := 1) (v := ?v34) rfl (by kernel_rfl) (by kernel_rfl) (by kernel_rfl) (fun _ _ _ h => h) (Or.inl ⟨by rfl, ?hy34⟩) (by assumption) ?rest34
          case hy34 => (intro w hSw; (try go_simp); try with_reducible rfl)
          try simp only [Act.put, List.getElem_toArray, List.getElem_cons_zero, List.getElem_cons_succ, List.setIfInBounds_toArray, List.set_cons_zero, List.set_cons_succ]
          refine wpAnyH_take (i := 2) (v := ?v35) rfl (by kernel_rfl) (by kernel_rfl) (by kernel_rfl) (fun _ _ _ h => h) (Or.inl ⟨by rfl, ?hy35⟩) (by assumption) ?rest35
          case hy35 => (intro w hSw; (try go_simp); try with_reducible rfl)
          try simp only [Act.put, List.getElem_toArray, List.getElem_cons_zero, List.getElem_cons_succ, List.setIfInBounds_toArray, List.set_cons_zero, List.set_cons_succ]
          refine wpAnyH_take (i := 3) (v := ?v36) rfl (by kernel_rfl) (by kernel_rfl) (by kernel_rfl) (fun _ _ _ h => h) (Or.inl ⟨by rfl, ?hy36⟩) (by assumption) ?rest36
          case hy36 => (intro w hSw; (try go_simp); try with_reducible rfl)
          try simp only [Act.put, List.getElem_toArray, List.getElem_cons_zero, List.getElem_cons_succ, List.setIfInBounds_toArray, List.set_cons_zero, List.set_cons_succ]
          refine wpAnyH_take (i := 4) (v := ?v37) rfl (by kernel_rfl) (by kernel_rfl) (by kernel_rfl) (fun _ _ _ h => h) (Or.inl ⟨by rfl, ?hy37⟩) (by assumption) ?rest37
          case hy37 => (intro w hSw; refine held_loadC aggK (.tmp 70) ?_ ((p.add (k * 54)).add 2) ?_ (cellsB (K k)) HKL1.out (HKC1.out _ _ hSw.2) <;> rfl)
          try simp only [Act.put, List.getElem_toArray, List.getElem_cons_zero, List.getElem_cons_succ, List.setIfInBounds_toArray, List.set_cons_zero, List.set_cons_succ]
          refine wpAnyH_take (i := 5) (v := ?v38) rfl (by kernel_rfl) (by kernel_rfl) (by kernel_rfl) (fun _ _ _ h => h) (Or.inl ⟨by rfl, ?hy38⟩) (by assumption) ?rest38
          case hy38 => (intro w hSw; refine held_loadf aggP (.tmp 12) ?_ g12 ?_ _ (pktC (Y k)) hSw.1 HLY1.out <;> rfl)
          try simp only [Act.put, List.getElem_toArray, List.getElem_cons_zero, List.getElem_cons_succ, List.setIfInBounds_toArray, List.set_cons_zero, List.set_cons_succ]
          refine wpAnyH_ready (rs := [6, 11, 12]) (by kernel_rfl) (by simp) ?_
          refine AllReadyH.cons rfl (fun K hK => ?_) ?_
          · go_simp
            refine (HY1.out _ H.out.tb).mono ?_
            rintro e V1 ⟨rfl, hbc⟩
            replace H := hide (H.out.call hbc)
            clear hbc
            refine hK.out _ _ (⟨H.out.get 3 rfl, HR.out.below H.out.bel⟩) (fun hHeld => ?_)
            clear hK K
            refine wpAnyH_take (i := 7) (v := ?v39) rfl (by kernel_rfl) (by kernel_rfl) (by kernel_rfl) (fun _ _ _ h => h) (Or.inl ⟨by rfl, ?hy39⟩) (by assumption) ?rest39
            case hy39 => (intro w hSw; (try go_simp); try with_reducible rfl)
            try simp only [Act.put, List.getElem_toArray, List.getElem_cons_zero, List.getElem_cons_succ, List.setIfInBounds_toArray, List.set_cons_zero, List.set_cons_succ]
            refine wpAnyH_take (i := 8) (v := ?v40) rfl (by kernel_rfl) (by kernel_rfl) (by kernel_rfl) (fun _ _ _ h => h) (Or.inl ⟨by rfl, ?hy40⟩) (by assumption) ?rest40
            case hy40 => (intro w hSw; (try go_simp); try with_reducible rfl)
            try simp only [Act.put, List.getElem_toArray, List.getElem_cons_zero, List.getElem_cons_succ, List.setIfInBounds_toArray, List.set_cons_zero, List.set_cons_succ]
            refine wpAnyH_take (i := 9) (v := ?v41) rfl (by kernel_rfl) (by kernel_rfl) (by kernel_rfl) (fun _ _ _ h => h) (Or.inl ⟨by rfl, ?hy41⟩) (by assumption) ?rest41
            case hy41 => (intro w hSw; (try go_simp); try with_reducible rfl)
            try simp only [Act.put, List.getElem_toArray, List.getElem_cons_zero, List.getElem_cons_succ, List.setIfInBounds_toArray, List.set_cons_zero, List.set_cons_succ]
            refine wpAnyH_take (i := 10) (v := ?v42) rfl (by kernel_rfl) (by kernel_rfl) (by kernel_rfl) (fun _ _ _ h => h) (Or.inl ⟨by rfl, ?hy42⟩) (by assumption) ?rest42
            case hy42 => (intro w hSw; (try go_simp); try with_reducible rfl)
            try simp only [Act.put, List.getElem_toArray, List.getElem_cons_zero, List.getElem_cons_succ, List.setIfInBounds_toArray, List.set_cons_zero, List.set_cons_succ]
            refine wpAnyH_ready (rs := [11, 12]) (by kernel_rfl) (by simp) ?_
            refine AllReadyH.cons rfl (fun K hK => ?_) ?_
            · refine step_alloca rfl _ rfl _ zeroS ?_
              intro g18 V2 hB8 hs8 hF8
              replace H := hide (H.out.box hs8 hF8 hB8)
              clear hB8 hs8 hF8
              refine hK.out _ _ (⟨H.out.get 3 rfl, HR.out.below H.out.bel⟩) (fun hHeld => ?_)
              clear hK K
              refine wpAnyH_ready (rs := [12]) (by kernel_rfl) (by simp) ?_
              refine AllReadyH.cons rfl (fun K hK => ?_) AllReadyH.nil
              refine step_alloca rfl _ rfl _ zeroP ?_
              intro g19 V3 hB8 hs8 hF8
              replace H := hide (H.out.box hs8 hF8 hB8)
              clear hB8 hs8 hF8
              refine hK.out _ _ (⟨H.out.get 3 rfl, HR.out.below H.out.bel⟩) (fun hHeld => ?_)
              clear hK K
              refine wpAnyH_ready (rs := [13]) (by kernel_rfl) (by simp) ?_
              refine AllReadyH.cons rfl (fun K hK => ?_) AllReadyH.nil
              refine step_storem aggS rfl (.tmp 18) (.tmp 74) rfl g18 0 (slotC (S' k)) _ (slotC (S' k)) rfl rfl _ (H.out.get 6 rfl) HLT1.out (Nat.le_of_eq (by rw [Nat.zero_add]; exact slot0_c.symm)) (splice_all _ _ (by rw [HLT1.out]; exact slot0_c)) (slotC_one _) ?_
              intro V4 hB8 hF8
              replace H := hide (H.out.store 6 rfl hF8 hB8)
              clear hB8 hF8
              refine hK.out _ _ (⟨H.out.get 3 rfl, HR.out.below H.out.bel⟩) (fun hHeld => ?_)
              clear hK K
              refine wpAnyH_ready (rs := [14]) (by kernel_rfl) (by simp) ?_
              refine AllReadyH.cons rfl (fun K hK => ?_) AllReadyH.nil
              refine step_storem aggP rfl (.tmp 19) (.tmp 75) rfl g19 0 (pktC (Y (k + 1))) _ (pktC (Y (k + 1))) rfl rfl _ (H.out.get 7 rfl) HLY2.out (Nat.le_of_eq (by rw [Nat.zero_add]; exact pkt0_c.symm)) (splice_all _ _ (by rw [HLY2.out]; exact pkt0_c)) (pktC_one _) ?_
              intro V5 hB8 hF8
              replace H := hide (H.out.store 7 rfl hF8 hB8)
              clear hB8 hF8
              refine hK.out _ _ (⟨H.out.get 3 rfl, HR.out.below H.out.bel⟩) (fun hHeld => ?_)
              clear hK K
              refine wpAnyH_take (i := 15) (v := ?v43) rfl (by kernel_rfl) (by kernel_rfl) (by kernel_rfl) (fun _ _ _ h => h) (Or.inl ⟨by rfl, ?hy43⟩) (by assumption) ?rest43
              case hy43 => (intro w hSw; (try go_simp); try with_reducible rfl)
              try simp only [Act.put, List.getElem_toArray, List.getElem_cons_zero, List.getElem_cons_succ, List.setIfInBounds_toArray, List.set_cons_zero, List.set_cons_succ]
              refine wpAnyH_done (by kernel_rfl) ?_ _
              clear hHeld
              exact hend.out g18 g19 _ (H.out)
            refine AllReadyH.cons rfl (fun K hK => ?_) AllReadyH.nil
            refine step_alloca rfl _ rfl _ zeroP ?_
            intro g19 V6 hB8 hs8 hF8
            replace H := hide (H.out.box hs8 hF8 hB8)
            clear hB8 hs8 hF8
            refine hK.out _ _ (⟨H.out.get 3 rfl, HR.out.below H.out.bel⟩) (fun hHeld => ?_)
            clear hK K
            refine wpAnyH_ready (rs := [11]) (by kernel_rfl) (by simp) ?_
            refine AllReadyH.cons rfl (fun K hK => ?_) AllReadyH.nil
            refine step_alloca rfl _ rfl _ zeroS ?_
            intro g18 V7 hB8 hs8 hF8
            replace H := hide (H.out.box hs8 hF8 hB8)
            clear hB8 hs8 hF8
            refine hK.out _ _ (⟨H.out.get 3 rfl, HR.out.below H.out.bel⟩) (fun hHeld => ?_)
            clear hK K
            refine wpAnyH_ready (rs := [13]) (by kernel_rfl) (by simp) ?_
            refine AllReadyH.cons rfl (fun K hK => ?_) AllReadyH.nil
            refine step_storem aggS rfl (.tmp 18) (.tmp 74) rfl g18 0 (slotC (S' k)) _ (slotC (S' k)) rfl rfl _ (H.out.get 7 rfl) HLT1.out (Nat.le_of_eq (by rw [Nat.zero_add]; exact slot0_c.symm)) (splice_all _ _ (by rw [HLT1.out]; exact slot0_c)) (slotC_one _) ?_
            intro V8 hB8 hF8
            replace H := hide (H.out.store 7 rfl hF8 hB8)
            clear hB8 hF8
            refine hK.out _ _ (⟨H.out.get 3 rfl, HR.out.below H.out.bel⟩) (fun hHeld => ?_)
            clear hK K
            refine wpAnyH_ready (rs := [14]) (by kernel_rfl) (by simp) ?_
            refine AllReadyH.cons rfl (fun K hK => ?_) AllReadyH.nil
            refine step_storem aggP rfl (.tmp 19) (.tmp 75) rfl g19 0 (pktC (Y (k + 1))) _ (pktC (Y (k + 1))) rfl rfl _ (H.out.get 6 rfl) HLY2.out (Nat.le_of_eq (by rw [Nat.zero_add]; exact pkt0_c.symm)) (splice_all _ _ (by rw [HLY2.out]; exact pkt0_c)) (pktC_one _) ?_
            intro V9 hB8 hF8
            replace H := hide (H.out.store 6 rfl hF8 hB8)
            clear hB8 hF8
            refine hK.out _ _ (⟨H.out.get 3 rfl, HR.out.below H.out.bel⟩) (fun hHeld => ?_)
            clear hK K
            refine wpAnyH_take (i := 15) (v := ?v44) rfl (by kernel_rfl) (by kernel_rfl) (by kernel_rfl) (fun _ _ _ h => h) (Or.inl ⟨by rfl, ?hy44⟩) (by assumption) ?rest44
            case hy44 => (intro w hSw; (try go_simp); try with_reducible rfl)
            try simp only [Act.put, List.getElem_toArray, List.getElem_cons_zero, List.getElem_cons_succ, List.setIfInBounds_toArray, List.set_cons_zero, List.set_cons_succ]
            refine wpAnyH_done (by kernel_rfl) ?_ _
            clear hHeld
            exact hend.out g18 g19 _ (H.out.perm (.cons _ (.cons _ (.cons _ (.cons _ (.cons _ (.cons _ (.swap _ _ _))))))))
          refine AllReadyH.cons rfl (fun K hK => ?_) ?_
          · refine step_alloca rfl _ rfl _ zeroS ?_
            intro g18 V10 hB8 hs8 hF8
            replace H := hide (H.out.box hs8 hF8 hB8)
            clear hB8 hs8 hF8
            refine hK.out _ _ (⟨H.out.get 3 rfl, HR.out.below H.out.bel⟩) (fun hHeld => ?_)
            clear hK K
            refine wpAnyH_ready (rs := [6, 12]) (by kernel_rfl) (by simp) ?_
            refine AllReadyH.cons rfl (fun K hK => ?_) ?_
            · go_simp
              refine (HY1.out _ H.out.tb).mono ?_
              rintro e V11 ⟨rfl, hbc⟩
              replace H := hide (H.out.call hbc)
              clear hbc
              refine hK.out _ _ (⟨H.out.get 3 rfl, HR.out.below H.out.bel⟩) (fun hHeld => ?_)
              clear hK K
              refine wpAnyH_take (i := 7) (v := ?v45) rfl (by kernel_rfl) (by kernel_rfl) (by kernel_rfl) (fun _ _ _ h => h) (Or.inl ⟨by rfl, ?hy45⟩) (by assumption) ?rest45
              case hy45 => (intro w hSw; (try go_simp); try with_reducible rfl)
              try simp only [Act.put, List.getElem_toArray, List.getElem_cons_zero, List.getElem_cons_succ, List.setIfInBounds_toArray, List.set_cons_zero, List.set_cons_succ]
              refine wpAnyH_take (i := 8) (v := ?v46) rfl (by kernel_rfl) (by kernel_rfl) (by kernel_rfl) (fun _ _ _ h => h) (Or.inl ⟨by rfl, ?hy46⟩) (by assumption) ?rest46
              case hy46 => (intro w hSw; (try go_simp); try with_reducible rfl)
              try simp only [Act.put, List.getElem_toArray, List.getElem_cons_zero, List.getElem_cons_succ, List.setIfInBounds_toArray, List.set_cons_zero, List.set_cons_succ]
              refine wpAnyH_take (i := 9) (v := ?v47) rfl (by kernel_rfl) (by kernel_rfl) (by kernel_rfl) (fun _ _ _ h => h) (Or.inl ⟨by rfl, ?hy47⟩) (by assumption) ?rest47
              case hy47 => (intro w hSw; (try go_simp); try with_reducible rfl)
              try simp only [Act.put, List.getElem_toArray, List.getElem_cons_zero, List.getElem_cons_succ, List.setIfInBounds_toArray, List.set_cons_zero, List.set_cons_succ]
              refine wpAnyH_take (i := 10) (v := ?v48) rfl (by kernel_rfl) (by kernel_rfl) (by kernel_rfl) (fun _ _ _ h => h) (Or.inl ⟨by rfl, ?hy48⟩) (by assumption) ?rest48
              case hy48 => (intro w hSw; (try go_simp); try with_reducible rfl)
              try simp only [Act.put, List.getElem_toArray, List.getElem_cons_zero, List.getElem_cons_succ, List.setIfInBounds_toArray, List.set_cons_zero, List.set_cons_succ]
              refine wpAnyH_ready (rs := [12]) (by kernel_rfl) (by simp) ?_
              refine AllReadyH.cons rfl (fun K hK => ?_) AllReadyH.nil
              refine step_alloca rfl _ rfl _ zeroP ?_
              intro g19 V12 hB8 hs8 hF8
              replace H := hide (H.out.box hs8 hF8 hB8)
              clear hB8 hs8 hF8
              refine hK.out _ _ (⟨H.out.get 3 rfl, HR.out.below H.out.bel⟩) (fun hHeld => ?_)
              clear hK K
              refine wpAnyH_ready (rs := [13]) (by kernel_rfl) (by simp) ?_
              refine AllReadyH.cons rfl (fun K hK => ?_) AllReadyH.nil
              refine step_storem aggS rfl (.tmp 18) (.tmp 74) rfl g18 0 (slotC (S' k)) _ (slotC (S' k)) rfl rfl _ (H.out.get 6 rfl) HLT1.out (Nat.le_of_eq (by rw [Nat.zero_add]; exact slot0_c.symm)) (splice_all _ _ (by rw [HLT1.out]; exact slot0_c)) (slotC_one _) ?_
              intro V13 hB8 hF8
              replace H := hide (H.out.store 6 rfl hF8 hB8)
              clear hB8 hF8
              refine hK.out _ _ (⟨H.out.get 3 rfl, HR.out.below H.out.bel⟩) (fun hHeld => ?_)
              clear hK K
              refine wpAnyH_ready (rs := [14]) (by kernel_rfl) (by simp) ?_
              refine AllReadyH.cons rfl (fun K hK => ?_) AllReadyH.nil
              refine step_storem aggP rfl (.tmp 19) (.tmp 75) rfl g19 0 (pktC (Y (k + 1))) _ (pktC (Y (k + 1))) rfl rfl _ (H.out.get 7 rfl) HLY2.out (Nat.le_of_eq (by rw [Nat.zero_add]; exact pkt0_c.symm)) (splice_all _ _ (by rw [HLY2.out]; exact pkt0_c)) (pktC_one _) ?_
              intro V14 hB8 hF8
              replace H := hide (H.out.store 7 rfl hF8 hB8)
              clear hB8 hF8
              refine hK.out _ _ (⟨H.out.get 3 rfl, HR.out.below H.out.bel⟩) (fun hHeld => ?_)
              clear hK K
              refine wpAnyH_take (i := 15) (v := ?v49) rfl (by kernel_rfl) (by kernel_rfl) (by kernel_rfl) (fun _ _ _ h => h) (Or.inl ⟨by rfl, ?hy49⟩) (by assumption) ?rest49
              case hy49 => (intro w hSw; (try go_simp); try with_reducible rfl)
              try simp only [Act.put, List.getElem_toArray, List.getElem_cons_zero, List.getElem_cons_succ, List.setIfInBounds_toArray, List.set_cons_zero, List.set_cons_succ]
              refine wpAnyH_done (by kernel_rfl) ?_ _
              clear hHeld
              exact hend.out g18 g19 _ (H.out)
            refine AllReadyH.cons rfl (fun K hK => ?_) AllReadyH.nil
            refine step_alloca rfl _ rfl _ zeroP ?_
            intro g19 V15 hB8 hs8 hF8
            replace H := hide (H.out.box hs8 hF8 hB8)
            clear hB8 hs8 hF8
            refine hK.out _ _ (⟨H.out.get 3 rfl, HR.out.below H.out.bel⟩) (fun hHeld => ?_)
            clear hK K
            refine wpAnyH_ready (rs := [6]) (by kernel_rfl) (by simp) ?_
            refine AllReadyH.cons rfl (fun K hK => ?_) AllReadyH.nil
            go_simp
            refine (HY1.out _ H.out.tb).mono ?_
            rintro e V16 ⟨rfl, hbc⟩
            replace H := hide (H.out.call hbc)
            clear hbc
            refine hK.out _ _ (⟨H.out.get 3 rfl, HR.out.below H.out.bel⟩) (fun hHeld => ?_)
            clear hK K
            refine wpAnyH_take (i := 7) (v := ?v50) rfl (by kernel_rfl) (by kernel_rfl) (by kernel_rfl) (fun _ _ _ h => h) (Or.inl ⟨by rfl, ?hy50⟩) (by assumption) ?rest50
            case hy50 => (intro w hSw; (try go_simp); try with_reducible rfl)
            try simp only [Act.put, List.getElem_toArray, List.getElem_cons_zero, List.getElem_cons_succ, List.setIfInBounds_toArray, List.set_cons_zero, List.set_cons_succ]
            refine wpAnyH_take (i := 8) (v := ?v51) rfl (by kernel_rfl) (by kernel_rfl) (by kernel_rfl) (fun _ _ _ h => h) (Or.inl ⟨by rfl, ?hy51⟩) (by assumption) ?rest51
            case hy51 => (intro w hSw; (try go_simp); try with_reducible rfl)
            try simp only [Act.put, List.getElem_toArray, List.getElem_cons_zero, List.getElem_cons_succ, List.setIfInBounds_toArray, List.set_cons_zero, List.set_cons_succ]
            refine wpAnyH_take (i := 9) (v := ?v52) rfl (by kernel_rfl) (by kernel_rfl) (by kernel_rfl) (fun _ _ _ h => h) (Or.inl ⟨by rfl, ?hy52⟩) (by assumption) ?rest52
            case hy52 => (intro w hSw; (try go_simp); try with_reducible rfl)
            try simp only [Act.put, List.getElem_toArray, List.getElem_cons_zero, List.getElem_cons_succ, List.setIfInBounds_toArray, List.set_cons_zero, List.set_cons_succ]
            refine wpAnyH_take (i := 10) (v := ?v53) rfl (by kernel_rfl) (by kernel_rfl) (by kernel_rfl) (fun _ _ _ h => h) (Or.inl ⟨by rfl, ?hy53⟩) (by assumption) ?rest53
            case hy53 => (intro w hSw; (try go_simp); try with_reducible rfl)
            try simp only [Act.put, List.getElem_toArray, List.getElem_cons_zero, List.getElem_cons_succ, List.setIfInBounds_toArray, List.set_cons_zero, List.set_cons_succ]
            refine wpAnyH_ready (rs := [13]) (by kernel_rfl) (by simp) ?_
            refine AllReadyH.cons rfl (fun K hK => ?_) AllReadyH.nil
            refine step_storem aggS rfl (.tmp 18) (.tmp 74) rfl g18 0 (slotC (S' k)) _ (slotC (S' k)) rfl rfl _ (H.out.get 6 rfl) HLT1.out (Nat.le_of_eq (by rw [Nat.zero_add]; exact slot0_c.symm)) (splice_all _ _ (by rw [HLT1.out]; exact slot0_c)) (slotC_one _) ?_
            intro V17 hB8 hF8
            replace H := hide (H.out.store 6 rfl hF8 hB8)
            clear hB8 hF8
            refine hK.out _ _ (⟨H.out.get 3 rfl, HR.out.below H.out.bel⟩) (fun hHeld => ?_)
            clear hK K
            refine wpAnyH_ready (rs := [14]) (by kernel_rfl) (by simp) ?_
            refine AllReadyH.cons rfl (fun K hK => ?_) AllReadyH.nil
            refine step_storem aggP rfl (.tmp 19) (.tmp 75) rfl g19 0 (pktC (Y (k + 1))) _ (pktC (Y (k + 1))) rfl rfl _ (H.out.get 7 rfl) HLY2.out (Nat.le_of_eq (by rw [Nat.zero_add]; exact pkt0_c.symm)) (splice_all _ _ (by rw [HLY2.out]; exact pkt0_c)) (pktC_one _) ?_
            intro V18 hB8 hF8
            replace H := hide (H.out.store 7 rfl hF8 hB8)
            clear hB8 hF8
            refine hK.out _ _ (⟨H.out.get 3 rfl, HR.out.below H.out.bel⟩) (fun hHeld => ?_)
            clear hK K
            refine wpAnyH_take (i := 15) (v := ?v54) rfl (by kernel_rfl) (by kernel_rfl) (by kernel_rfl) (fun _ _ _ h => h) (Or.inl ⟨by rfl, ?hy54⟩) (by assumption) ?rest54
            case hy54 => (intro w hSw; (try go_simp); try with_reducible rfl)
            try simp only [Act.put, List.getElem_toArray, List.getElem_cons_zero, List.getElem_cons_succ, List.setIfInBounds_toArray, List.set_cons_zero, List.set_cons_succ]
            refine wpAnyH_done (by kernel_rfl) ?_ _
            clear hHeld
            exact hend.out g18 g19 _ (H.out)
          refine AllReadyH.cons rfl (fun K hK => ?_) AllReadyH.nil
          refine step_alloca rfl _ rfl _ zeroP ?_
          intro g19 V19 hB8 hs8 hF8
          replace H := hide (H.out.box hs8 hF8 hB8)
          clear hB8 hs8 hF8
          refine hK.out _ _ (⟨H.out.get 3 rfl, HR.out.below H.out.bel⟩) (fun hHeld => ?_)
          clear hK K
          refine wpAnyH_ready (rs := [6, 11]) (by kernel_rfl) (by simp) ?_
          refine AllReadyH.cons rfl (fun K hK => ?_) ?_
          · go_simp
            refine (HY1.out _ H.out.tb).mono ?_
            rintro e V20 ⟨rfl, hbc⟩
            replace H := hide (H.out.call hbc)
            clear hbc
            refine hK.out _ _ (⟨H.out.get 3 rfl, HR.out.below H.out.bel⟩) (fun hHeld => ?_)
            clear hK K
            refine wpAnyH_take (i := 7) (v := ?v55) rfl (by kernel_rfl) (by kernel_rfl) (by kernel_rfl) (fun _ _ _ h => h) (Or.inl ⟨by rfl, ?hy55⟩) (by assumption) ?rest55
            case hy55 => (intro w hSw; (try go_simp); try with_reducible rfl)
            try simp only [Act.put, List.getElem_toArray, List.getElem_cons_zero, List.getElem_cons_succ, List.setIfInBounds_toArray, List.set_cons_zero, List.set_cons_succ]
            refine wpAnyH_take (i := 8) (v := ?v56) rfl (by kernel_rfl) (by kernel_rfl) (by kernel_rfl) (fun _ _ _ h => h) (Or.inl ⟨by rfl, ?hy56⟩) (by assumption) ?rest56
            case hy56 => (intro w hSw; (try go_simp); try with_reducible rfl)
            try simp only [Act.put, List.getElem_toArray, List.getElem_cons_zero, List.getElem_cons_succ, List.setIfInBounds_toArray, List.set_cons_zero, List.set_cons_succ]
            refine wpAnyH_take (i := 9) (v := ?v57) rfl (by kernel_rfl) (by kernel_rfl) (by kernel_rfl) (fun _ _ _ h => h) (Or.inl ⟨by rfl, ?hy57⟩) (by assumption) ?rest57
            case hy57 => (intro w hSw; (try go_simp); try with_reducible rfl)
            try simp only [Act.put, List.getElem_toArray, List.getElem_cons_zero, List.getElem_cons_succ, List.setIfInBounds_toArray, List.set_cons_zero, List.set_cons_succ]
            refine wpAnyH_take (i := 10) (v := ?v58) rfl (by kernel_rfl) (by kernel_rfl) (by kernel_rfl) (fun _ _ _ h => h) (Or.inl ⟨by rfl, ?hy58⟩) (by assumption) ?rest58
            case hy58 => (intro w hSw; (try go_simp); try with_reducible rfl)
            try simp only [Act.put, List.getElem_toArray, List.getElem_cons_zero, List.getElem_cons_succ, List.setIfInBounds_toArray, List.set_cons_zero, List.set_cons_succ]
            refine wpAnyH_ready (rs := [11]) (by kernel_rfl) (by simp) ?_
            refine AllReadyH.cons rfl (fun K hK => ?_) AllReadyH.nil
            refine step_alloca rfl _ rfl _ zeroS ?_
            intro g18 V21 hB8 hs8 hF8
            replace H := hide (H.out.box hs8 hF8 hB8)
            clear hB8 hs8 hF8
            refine hK.out _ _ (⟨H.out.get 3 rfl, HR.out.below H.out.bel⟩) (fun hHeld => ?_)
            clear hK K
            refine wpAnyH_ready (rs := [13]) (by kernel_rfl) (by simp) ?_
            refine AllReadyH.cons rfl (fun K hK => ?_) AllReadyH.nil
            refine step_storem aggS rfl (.tmp 18) (.tmp 74) rfl g18 0 (slotC (S' k)) _ (slotC (S' k)) rfl rfl _ (H.out.get 7 rfl) HLT1.out (Nat.le_of_eq (by rw [Nat.zero_add]; exact slot0_c.symm)) (splice_all _ _ (by rw [HLT1.out]; exact slot0_c)) (slotC_one _) ?_
            intro V22 hB8 hF8
            replace H := hide (H.out.store 7 rfl hF8 hB8)
            clear hB8 hF8
            refine hK.out _ _ (⟨H.out.get 3 rfl, HR.out.below H.out.bel⟩) (fun hHeld => ?_)
            clear hK K
            refine wpAnyH_ready (rs := [14]) (by kernel_rfl) (by simp) ?_
            refine AllReadyH.cons rfl (fun K hK => ?_) AllReadyH.nil
            refine step_storem aggP rfl (.tmp 19) (.tmp 75) rfl g19 0 (pktC (Y (k + 1))) _ (pktC (Y (k + 1))) rfl rfl _ (H.out.get 6 rfl) HLY2.out (Nat.le_of_eq (by rw [Nat.zero_add]; exact pkt0_c.symm)) (splice_all _ _ (by rw [HLY2.out]; exact pkt0_c)) (pktC_one _) ?_
            intro V23 hB8 hF8
            replace H := hide (H.out.store 6 rfl hF8 hB8)
            clear hB8 hF8
            refine hK.out _ _ (⟨H.out.get 3 rfl, HR.out.below H.out.bel⟩) (fun hHeld => ?_)
            clear hK K
            refine wpAnyH_take (i := 15) (v := ?v59) rfl (by kernel_rfl) (by kernel_rfl) (by kernel_rfl) (fun _ _ _ h => h) (Or.inl ⟨by rfl, ?hy59⟩) (by assumption) ?rest59
            case hy59 => (intro w hSw; (try go_simp); try with_reducible rfl)
            try simp only [Act.put, List.getElem_toArray, List.getElem_cons_zero, List.getElem_cons_succ, List.setIfInBounds_toArray, List.set_cons_zero, List.set_cons_succ]
            refine wpAnyH_done (by kernel_rfl) ?_ _
            clear hHeld
            exact hend.out g18 g19 _ (H.out.perm (.cons _ (.cons _ (.cons _ (.cons _ (.cons _ (.cons _ (.swap _ _ _))))))))
          refine AllReadyH.cons rfl (fun K hK => ?_) AllReadyH.nil
          refine step_alloca rfl _ rfl _ zeroS ?_
          intro g18 V24 hB8 hs8 hF8
          replace H := hide (H.out.box hs8 hF8 hB8)
          clear hB8 hs8 hF8
          refine hK.out _ _ (⟨H.out.get 3 rfl, HR.out.below H.out.bel⟩) (fun hHeld => ?_)
          clear hK K
          refine wpAnyH_ready (rs := [6]) (by kernel_rfl) (by simp) ?_
          refine AllReadyH.cons rfl (fun K hK => ?_) AllReadyH.nil
          go_simp
          refine (HY1.out _ H.out.tb).mono ?_
          rintro e V25 ⟨rfl, hbc⟩
          replace H := hide (H.out.call hbc)
          clear hbc
          refine hK.out _ _ (⟨H.out.get 3 rfl, HR.out.below H.out.bel⟩) (fun hHeld => ?_)
          clear hK K
          refine wpAnyH_take (i := 7) (v := ?v60) rfl (by kernel_rfl) (by kernel_rfl) (by kernel_rfl) (fun _ _ _ h => h) (Or.inl ⟨by rfl, ?hy60⟩) (by assumption) ?rest60
          case hy60 => (intro w hSw; (try go_simp); try with_reducible rfl)
          try simp only [Act.put, List.getElem_toArray, List.getElem_cons_zero, List.getElem_cons_succ, List.setIfInBounds_toArray, List.set_cons_zero, List.set_cons_succ]
          refine wpAnyH_take (i := 8) (v := ?v61) rfl (by kernel_rfl) (by kernel_rfl) (by kernel_rfl) (fun _ _ _ h => h) (Or.inl ⟨by rfl, ?hy61⟩) (by assumption) ?rest61
          case hy61 => (intro w hSw; (try go_simp); try with_reducible rfl)
          try simp only [Act.put, List.getElem_toArray, List.getElem_cons_zero, List.getElem_cons_succ, List.setIfInBounds_toArray, List.set_cons_zero, List.set_cons_succ]
          refine wpAnyH_take (i := 9) (v := ?v62) rfl (by kernel_rfl) (by kernel_rfl) (by kernel_rfl) (fun _ _ _ h => h) (Or.inl ⟨by rfl, ?hy62⟩) (by assumption) ?rest62
          case hy62 => (intro w hSw; (try go_simp); try with_reducible rfl)
          try simp only [Act.put, List.getElem_toArray, List.getElem_cons_zero, List.getElem_cons_succ, List.setIfInBounds_toArray, List.set_cons_zero, List.set_cons_succ]
          refine wpAnyH_take (i := 10) (v := ?v63) rfl (by kernel_rfl) (by kernel_rfl) (by kernel_rfl) (fun _ _ _ h => h) (Or.inl ⟨by rfl, ?hy63⟩) (by assumption) ?rest63
          case hy63 => (intro w hSw; (try go_simp); try with_reducible rfl)
          try simp only [Act.put, List.getElem_toArray, List.getElem_cons_zero, List.getElem_cons_succ, List.setIfInBounds_toArray, List.set_cons_zero, List.set_cons_succ]
          refine wpAnyH_ready (rs := [13]) (by kernel_rfl) (by simp) ?_
          refine AllReadyH.cons rfl (fun K hK => ?_) AllReadyH.nil
          refine step_storem aggS rfl (.tmp 18) (.tmp 74) rfl g18 0 (slotC (S' k)) _ (slotC (S' k)) rfl rfl _ (H.out.get 7 rfl) HLT1.out (Nat.le_of_eq (by rw [Nat.zero_add]; exact slot0_c.symm)) (splice_all _ _ (by rw [HLT1.out]; exact slot0_c)) (slotC_one _) ?_
          intro V26 hB8 hF8
          replace H := hide (H.out.store 7 rfl hF8 hB8)
          clear hB8 hF8
          refine hK.out _ _ (⟨H.out.get 3 rfl, HR.out.below H.out.bel⟩) (fun hHeld => ?_)
          clear hK K
          refine wpAnyH_ready (rs := [14]) (by kernel_rfl) (by simp) ?_
          refine AllReadyH.cons rfl (fun K hK => ?_) AllReadyH.nil
          refine step_storem aggP rfl (.tmp 19) (.tmp 75) rfl g19 0 (pktC (Y (k + 1))) _ (pktC (Y (k + 1))) rfl rfl _ (H.out.get 6 rfl) HLY2.out (Nat.le_of_eq (by rw [Nat.zero_add]; exact pkt0_c.symm)) (splice_all _ _ (by rw [HLY2.out]; exact pkt0_c)) (pktC_one _) ?_
          intro V27 hB8 hF8
          replace H := hide (H.out.store 6 rfl hF8 hB8)
          clear hB8 hF8
          refine hK.out _ _ (⟨H.out.get 3 rfl, HR.out.below H.out.bel⟩) (fun hHeld => ?_)
          clear hK K
          refine wpAnyH_take (i := 15) (v := ?v64) rfl (by kernel_rfl) (by kernel_rfl) (by kernel_rfl) (fun _ _ _ h => h) (Or.inl ⟨by rfl, ?hy64⟩) (by assumption) ?rest64
          case hy64 => (intro w hSw; (try go_simp); try with_reducible rfl)
          try simp only [Act.put, List.getElem_toArray, List.getElem_cons_zero, List.getElem_cons_succ, List.setIfInBounds_toArray, List.set_cons_zero, List.set_cons_succ]
          refine wpAnyH_done (by kernel_rfl) ?_ _
          clear hHeld
          exact hend.out g18 g19 _ (H.out.perm (.cons _ (.cons _ (.cons _ (.cons _ (.cons _ (.cons _ (.swap _ _ _))))))))
        intro g18 g19 U4 hR2
        replace H := hide hR2
        clear hR2
        go_wp2_with (first
          | (with_reducible refine at_op (op := ⟨some 77, _, _, _, _, _⟩) ?_; refine wpl_held (op := ⟨some 77, _, _, _, _, _⟩) (.agg (cellsB Z16).toArray) (held_build _ _ rfl _ _ (hbm _) rfl) rfl ?_)
          | (with_reducible refine at_op (op := ⟨none, .store _ (.tmp 78) (.tmp 77), _, _, _, _⟩) ?_; (with_reducible refine wpl_storem aggM rfl (.tmp 78) (.tmp 77) rfl g15 21 (cellsB Z16) (slotC (S k)) (slotC (Z k)) rfl rfl _ (H.out.get 4 rfl) HZ16.out (by rw [HLS1.out]; decide) (HZX.out k hlt) (cellsB_one _) ?_); intro U5 hB1 hF1; replace H := hide (H.out.store 4 rfl hF1 hB1); clear hB1 hF1)
          | (with_reducible refine at_op (op := ⟨some 79, _, _, _, _, _⟩) ?_; refine wpl_held (op := ⟨some 79, _, _, _, _, _⟩) (.agg (cellsB Z16).toArray) (held_build _ _ rfl _ _ (hbm _) rfl) rfl ?_)
          | (with_reducible refine at_op (op := ⟨none, .store _ (.tmp 80) (.tmp 79), _, _, _, _⟩) ?_; (with_reducible refine wpl_storem aggM rfl (.tmp 80) (.tmp 79) rfl g18 21 (cellsB Z16) (slotC (S' k)) (slotC (Z k)) rfl rfl _ (H.out.get 6 rfl) HZ16.out (by rw [HLT1.out]; decide) (HZY.out k hlt) (cellsB_one _) ?_); intro U6 hB1 hF1; replace H := hide (H.out.store 6 rfl hF1 hB1); clear hB1 hF1)
          | (with_reducible refine at_op (op := ⟨some 88, _, _, _, _, _⟩) ?_; refine wpl_held (op := ⟨some 88, _, _, _, _, _⟩) (.agg (slotC (Z k)).toArray) (held_loadf aggS _ rfl g15 rfl _ (slotC (Z k)) (H.out.get 4 rfl) HLZ1.out) rfl ?_)
          | (with_reducible refine at_op (op := ⟨some 89, _, _, _, _, _⟩) ?_; refine wpl_held (op := ⟨some 89, _, _, _, _, _⟩) (.agg (slotC (Z k)).toArray) (held_loadf aggS _ rfl g18 rfl _ (slotC (Z k)) (H.out.get 6 rfl) HLZ1.out) rfl ?_)
          | (with_reducible refine at_op (op := ⟨some 90, _, _, _, _, _⟩) ?_; refine wpl_held (op := ⟨some 90, _, _, _, _, _⟩) (.bool (!true)) (held_neq _ _ _ _ rfl (slotC (Z k)) (slotC (Z k)) rfl rfl (true) (HES.out k hlt _) Tryd.eqGuardType45) rfl ?_)
          | (with_reducible refine at_op (op := ⟨some 94, _, _, _, _, _⟩) ?_; refine wpl_held (op := ⟨some 94, _, _, _, _, _⟩) (.int .u16 ((X k).who : Int)) (held_load1 Tryd.underlying27 rfl one16w _ rfl g10 0 rfl _ _ (.int .u16 ((X k).who : Int)) (H.out.get 2 rfl) rfl) rfl ?_)
          | (with_reducible refine at_op (op := ⟨some 96, _, _, _, _, _⟩) ?_; refine wpl_held (op := ⟨some 96, _, _, _, _, _⟩) (.int .u16 ((X k).who : Int)) (held_load1 Tryd.underlying27 rfl one16w _ rfl g12 0 rfl _ _ (.int .u16 ((X k).who : Int)) (H.out.get 3 rfl) (HYw.out k hlt)) rfl ?_)
          | (with_reducible refine at_op (op := ⟨some 101, _, _, _, _, _⟩) ?_; refine wpl_held (op := ⟨some 101, _, _, _, _, _⟩) (.int .u32 ((X k).epoch : Int)) (held_load1 Tryd.underlying30 rfl one32 _ rfl g10 1 rfl _ _ (.int .u32 ((X k).epoch : Int)) (H.out.get 2 rfl) rfl) rfl ?_)
          | (with_reducible refine at_op (op := ⟨some 103, _, _, _, _, _⟩) ?_; refine wpl_held (op := ⟨some 103, _, _, _, _, _⟩) (.int .u32 ((X k).epoch : Int)) (held_load1 Tryd.underlying30 rfl one32 _ rfl g12 1 rfl _ _ (.int .u32 ((X k).epoch : Int)) (H.out.get 3 rfl) (HYe.out k hlt)) rfl ?_)
          | (with_reducible refine at_op (op := ⟨some 108, _, _, _, _, _⟩) ?_; refine wpl_held (op := ⟨some 108, _, _, _, _, _⟩) (.agg (cellsB (X k).nonce).toArray) (held_loada aggN _ rfl g10 2 rfl _ (pktC (X k)) (cellsB (X k).nonce) (H.out.get 2 rfl) (HXn.out k) (by rw [HLX1.out]; decide)) rfl ?_)
          | (with_reducible refine at_op (op := ⟨some 110, _, _, _, _, _⟩) ?_; refine wpl_held (op := ⟨some 110, _, _, _, _, _⟩) (.agg (cellsB (X k).nonce).toArray) (held_loada aggN _ rfl g12 2 rfl _ (pktC (Y k)) (cellsB (X k).nonce) (H.out.get 3 rfl) (HYn.out k hlt) (by rw [HLY1.out]; decide)) rfl ?_)
          | (with_reducible refine at_op (op := ⟨some 111, _, _, _, _, _⟩) ?_; refine wpl_held (op := ⟨some 111, _, _, _, _, _⟩) (.bool (!true)) (held_neq _ _ _ _ rfl (cellsB (X k).nonce) (cellsB (X k).nonce) rfl rfl (true) (HEN.out k _) Tryd.eqGuardType32) rfl ?_)
          | (with_reducible refine at_op (op := ⟨some 113, _, _, _, _, _⟩) ?_; refine wpl_held (op := ⟨some 113, _, _, _, _, _⟩) (.agg (pktC (X (k + 1))).toArray) (held_loadf aggP _ rfl g16 rfl _ (pktC (X (k + 1))) (H.out.get 5 rfl) HLX2.out) rfl ?_)
          | (with_reducible refine at_op (op := ⟨none, .store _ (.tmp 10) (.tmp 113), _, _, _, _⟩) ?_; (with_reducible refine wpl_storea aggP rfl (.tmp 10) (.tmp 113) rfl g10 (pktC (X (k + 1))) rfl rfl _ _ (H.out.get 2 rfl) HLX2.out (by rw [List.size_toArray]; exact HLX1.out) (pktC_one _) ?_); intro U7 hB1 hF1; replace H := hide (H.out.store 2 rfl hF1 hB1); clear hB1 hF1)
          | (with_reducible refine at_op (op := ⟨some 114, _, _, _, _, _⟩) ?_; refine wpl_held (op := ⟨some 114, _, _, _, _, _⟩) (.agg (pktC (Y (k + 1))).toArray) (held_loadf aggP _ rfl g19 rfl _ (pktC (Y (k + 1))) (H.out.get 7 rfl) HLY2.out) rfl ?_)
          | (with_reducible refine at_op (op := ⟨none, .store _ (.tmp 12) (.tmp 114), _, _, _, _⟩) ?_; (with_reducible refine wpl_storea aggP rfl (.tmp 12) (.tmp 114) rfl g12 (pktC (Y (k + 1))) rfl rfl _ _ (H.out.get 3 rfl) HLY2.out (by rw [List.size_toArray]; exact HLY1.out) (pktC_one _) ?_); intro U8 hB1 hF1; replace H := hide (H.out.store 3 rfl hF1 hB1); clear hB1 hF1))
        replace H := hide (H.out.pre 4)
        go_roundw
        case rel => exact ⟨k + 1, by omega, by go_num, H.out⟩
        case measure => simp [intOf]; omega
      · obtain rfl : k = m := by omega
        have HLXm := hide (HLX.out k)
        have HLYm := hide (HLY.out k)
        go_wp2_with (first
          | (with_reducible refine at_op (op := ⟨some 122, _, _, _, _, _⟩) ?_; refine wpl_held (op := ⟨some 122, _, _, _, _, _⟩) (.agg (cellsB x).toArray) (held_loada agg256 _ rfl g10 354 rfl _ (pktC (X k)) (cellsB x) (H.out.get 2 rfl) HXb.out (by rw [HLXm.out]; decide)) rfl ?_)
          | (with_reducible refine at_op (op := ⟨some 123, _, _, _, _, _⟩) ?_; refine wpl_held (op := ⟨some 123, _, _, _, _, _⟩) (.agg (cellsB x).toArray) (held_loadf agg256 _ rfl g6 rfl _ (cellsB x) (H.out.get 0 rfl) HXc.out) rfl ?_)
          | (with_reducible refine at_op (op := ⟨some 124, _, _, _, _, _⟩) ?_; refine wpl_held (op := ⟨some 124, _, _, _, _, _⟩) (.bool true) (held_eql _ _ _ _ rfl (cellsB x) (cellsB x) rfl rfl (true) (HEX.out _) Tryd.eqGuardType24) rfl ?_)
          | (with_reducible refine at_op (op := ⟨some 128, _, _, _, _, _⟩) ?_; refine wpl_held (op := ⟨some 128, _, _, _, _, _⟩) (.agg (cellsB y).toArray) (held_loada agg256 _ rfl g12 354 rfl _ (pktC (Y k)) (cellsB y) (H.out.get 3 rfl) HYb.out (by rw [HLYm.out]; decide)) rfl ?_)
          | (with_reducible refine at_op (op := ⟨some 129, _, _, _, _, _⟩) ?_; refine wpl_held (op := ⟨some 129, _, _, _, _, _⟩) (.agg (cellsB y).toArray) (held_loadf agg256 _ rfl g7 rfl _ (cellsB y) (H.out.get 1 rfl) HYc.out) rfl ?_)
          | (with_reducible refine at_op (op := ⟨some 130, _, _, _, _, _⟩) ?_; refine wpl_held (op := ⟨some 130, _, _, _, _, _⟩) (.bool true) (held_eql _ _ _ _ rfl (cellsB y) (cellsB y) rfl rfl (true) (HEY.out _) Tryd.eqGuardType24) rfl ?_))
        go_ret
        exact ⟨rfl, H.out.bel⟩
end Go.Proofs.YtoiiiflnnhkjbaaDoor
