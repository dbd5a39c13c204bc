/-
  OnionMAC, walked.
-/
import Derived.Test.YtoiiiflnnhkjbaaDoorOm2
import Derived.Test.YtoiiiflnnhkjbaaDoorOnG
namespace Go.Proofs.YtoiiiflnnhkjbaaDoor
set_option linter.unusedVariables false
set_option linter.unusedSimpArgs false
open Go.RowKit

theorem txt_eqM (l m : List UInt8) : ((⟨l.toArray⟩ : ByteArray).toList == (⟨m.toArray⟩ : ByteArray).toList) = (l == m) := by
  rw [ByteArray.toList_eq, ByteArray.toList_eq]
theorem held_macS {o : Oper} {a : Act} {w : World} (x : Operand) (ho : o.op = .convert 50 9 x) (g : Nat) (hx : a.eval x = .slice (some ⟨g, 18, none⟩) 16 16) (p : Pkt) (s : ByteArray) (hs : s = ⟨p.mac.toArray⟩) {t : TypeId} (hb : Blk w g t (pktC p).toArray) (hm : ((pktC p).drop 18).take 16 = cellsB p.mac) (hl : p.mac.length = 16) :
    (execOp a.eval o).run Tryd.prog w = .ok (.value (.string s)) w := by
  subst hs
  exact held_convR x ho (some ⟨g, 18, none⟩) 16 16 hx p.mac (hb.mid 18 16 p.mac hm hl)

set_option maxHeartbeats 64000000 in
set_option maxRecDepth 100000 in
theorem omac_walk (w : World) (hT : Tb w) (A : Option Addr) (n c : Nat) (hs0 : List HopL) (x key : List UInt8) (a : Int) (b : UInt8) (hR0 : HRow w A n hs0) (hnc : n ≤ c) (hc : c ≤ 9223372036854775807) (hx : x.length = 256) (hk : key.length = 32) (hab : -9223372036854775808 ≤ a ∧ a ≤ 9223372036854775807) :
    Calls Tryd.prog 4 #[.slice A n c, .agg (cellsB x).toArray, .agg (cellsB key).toArray, .int .i64 a, .int .u8 (b.toNat : Int)] w fun e w' => e = .returned (.bool true) ∧ Below w.heap.size w w' := by
  have H := hide (OAt.start hT)
  have HSH := hide shown_o
  obtain ⟨m, HM, hmn, hm5, hme⟩ := nat_min n 5
  have HME := hide hme
  clear hme
  have hcut := cut_hops A n c m (by omega)
  obtain ⟨hs, hhs⟩ : ∃ hs, hs = hs0.take m := ⟨_, rfl⟩
  have hR : HRow w A m hs := by rw [hhs]; exact hR0.take hmn
  have HR := hide hR
  have HLEN := hide hR.len
  have HOK := hide hR.ok
  clear hhs hR0
  have HXc := hide (cl hx)
  have HKc := hide (cl hk)
  have HKl := hide hk
  have HB0 : Hid (∀ W, Tb W → HRow W A m hs → Calls Tryd.prog 9 #[.slice A m c, .int .u16 1, .agg (cellsB x).toArray] W fun e w' => e = .returned (.tuple #[.agg (pktC (buildP hs 1 x)).toArray, .int .i64 (buildE hs)]) ∧ Below W.heap.size W w') := fun W h1 h2 => build_any A m c 1 hs x W h2 (by omega) (by decide) hx h1
  have hpo := buildP_ok hR.ok (box := 1) hx (by decide)
  have hmask := mask16 a
  have HPE := hide (fun (K : List UInt8) (hK : K.length = 32) (p : Pkt) (hp : p.ok) (W : World) (h : Tb W) => peel_any K p hK hp W h)
  have HPOF := hide (fun (p : Pkt) (hp : p.ok) (W : World) (h : Tb W) => rof_any p W h hp)
  have HPMC := hide (fun (K : List UInt8) (hK : K.length = 32) (p : Pkt) (hp : p.ok) (W : World) (h : Tb W) => rmac11_any K p W h (by omega) hp)
  have hslK := slK
  have hslM := slM
  cases hr : rightH hs
  · have HB := HB0
    rw [(built_wrong hr 1 x).1, (built_wrong hr 1 x).2] at HB
    have HLP : Hid ((pktC pkt0).length = 610) := pkt0_c
    have hpp : ∃ P, P = pkt0 := ⟨_, rfl⟩
    obtain ⟨P, hP0⟩ := hpp
    rw [← hP0] at HB HLP
    clear HB0 hr hR hT hx hk hpo hP0
    go_enter Tryd.func4, Tryd.ntmps4
    go_wp2_with (first
      | (with_reducible refine at_op (op := ⟨some 6, _, _, _, _, _⟩) ?_; (refine wpl_boxa (op := ⟨some 6, _, _, _, _, _⟩) rfl _ _ rfl (cellsB x) rfl ?_); intro g6 W6 hB1 hg1 hF1; replace H := hide (H.out.box hg1 hF1 hB1); clear hB1 hg1 hF1)
      | (with_reducible refine at_op (op := ⟨some 7, _, _, _, _, _⟩) ?_; (refine wpl_boxa (op := ⟨some 7, _, _, _, _, _⟩) rfl _ _ rfl (cellsB key) rfl ?_); intro g7 W7 hB1 hg1 hF1; replace H := hide (H.out.box hg1 hF1 hB1); clear hB1 hg1 hF1)
      | (go_at_call 8; with_reducible refine (HSH.out _ H.out.tb).mono ?_; rintro e W8 ⟨rfl, hbc⟩; replace H := hide (H.out.call hbc); clear hbc))
    apply merge1 (R := fun a12 W => OAt w [(g6, 24, cellsB x), (g7, 29, cellsB key), (a12, 39, pktC P)] W)
    · intro hend
      obtain ⟨U1, hU1⟩ : ∃ U1, U1 = W8.drew := ⟨_, rfl⟩
      refine wp_region_held_drew (S := fun W' => Blk W' g6 24 (cellsB x).toArray) (by kernel_rfl) (by rw [← hU1]; replace H := hide (by rw [hU1]; exact H.out.drew : OAt w _ U1); exact H.out.get 0 rfl) ?_
      intro hHeld
      replace H := hide (by rw [hU1]; exact H.out.drew : OAt w _ U1)
      rw [← hU1] at hHeld ⊢
      clear hU1
      refine wpAnyH_take (i := 0) (v := ?v1) rfl (by kernel_rfl) (by kernel_rfl) (by kernel_rfl) (fun _ _ _ h => h) (Or.inl ⟨by rfl, ?hy1⟩) (by assumption) ?rest1
      case hy1 => (intro w hSw; (try go_simp); try with_reducible rfl)
      try simp only [Act.put, List.getElem_toArray, List.getElem_cons_zero, List.getElem_cons_succ, List.setIfInBounds_toArray, List.set_cons_zero, List.set_cons_succ]
      refine wpAnyH_take (i := 1) (v := ?v2) rfl (by kernel_rfl) (by kernel_rfl) (by kernel_rfl) (fun _ _ _ h => h) (Or.inl ⟨by rfl, ?hy2⟩) (by assumption) ?rest2
      case hy2 => (intro w hSw; (try go_simp); try with_reducible rfl)
      try simp only [Act.put, List.getElem_toArray, List.getElem_cons_zero, List.getElem_cons_succ, List.setIfInBounds_toArray, List.set_cons_zero, List.set_cons_succ]
      refine wpAnyH_take (i := 2) (v := ?v3) rfl (by kernel_rfl) (by kernel_rfl) (by kernel_rfl) (fun _ _ _ h => h) (Or.inl ⟨by rfl, ?hy3⟩) (by assumption) ?rest3
      case hy3 => (intro w hSw; (try go_simp); try with_reducible rfl)
      try simp only [Act.put, List.getElem_toArray, List.getElem_cons_zero, List.getElem_cons_succ, List.setIfInBounds_toArray, List.set_cons_zero, List.set_cons_succ]
      refine wpAnyH_take (i := 3) (v := ?v4) rfl (by kernel_rfl) (by kernel_rfl) (by kernel_rfl) (fun _ _ _ h => h) (Or.inl ⟨by rfl, ?hy4⟩) (by assumption) ?rest4
      case hy4 => (intro w hSw; refine held_min (.tmp 23) (.const (.int .i64 5)) 3 3 ?_ (n : Int) 5 (m : Int) ?_ ?_ HM.out <;> rfl)
      try simp only [Act.put, List.getElem_toArray, List.getElem_cons_zero, List.getElem_cons_succ, List.setIfInBounds_toArray, List.set_cons_zero, List.set_cons_succ]
      refine wpAnyH_take (i := 4) (v := ?v5) rfl (by kernel_rfl) (by kernel_rfl) (by kernel_rfl) (fun _ _ _ h => h) (Or.inl ⟨by rfl, ?hy5⟩) (by assumption) ?rest5
      case hy5 => (intro w hSw; (try go_simp); try with_reducible rfl)
      try simp only [Act.put, List.getElem_toArray, List.getElem_cons_zero, List.getElem_cons_succ, List.setIfInBounds_toArray, List.set_cons_zero, List.set_cons_succ]
      refine wpAnyH_take (i := 5) (v := ?v6) rfl (by kernel_rfl) (by kernel_rfl) (by kernel_rfl) (fun _ _ _ h => h) (Or.inl ⟨by rfl, ?hy6⟩) (by assumption) ?rest6
      case hy6 => (intro w hSw; refine held_loadf agg256 (.tmp 6) ?_ g6 ?_ _ (cellsB x) hSw HXc.out <;> rfl)
      try simp only [Act.put, List.getElem_toArray, List.getElem_cons_zero, List.getElem_cons_succ, List.setIfInBounds_toArray, List.set_cons_zero, List.set_cons_succ]
      refine wpAnyH_ready (rs := [6, 10]) (by kernel_rfl) (by simp) ?_
      refine AllReadyH.cons rfl (fun K hK => ?_) ?_
      · go_simp
        refine (HB.out _ H.out.tb (HR.out.below H.out.bel)).mono ?_
        rintro e V1 ⟨rfl, hbc⟩
        replace H := hide (H.out.call hbc)
        clear hbc
        refine hK.out _ _ (H.out.get 0 rfl) (fun hHeld => ?_)
        clear hK K
        refine wpAnyH_take (i := 7) (v := ?v7) rfl (by kernel_rfl) (by kernel_rfl) (by kernel_rfl) (fun _ _ _ h => h) (Or.inl ⟨by rfl, ?hy7⟩) (by assumption) ?rest7
        case hy7 => (intro w hSw; (try go_simp); try with_reducible rfl)
        try simp only [Act.put, List.getElem_toArray, List.getElem_cons_zero, List.getElem_cons_succ, List.setIfInBounds_toArray, List.set_cons_zero, List.set_cons_succ]
        refine wpAnyH_take (i := 8) (v := ?v8) rfl (by kernel_rfl) (by kernel_rfl) (by kernel_rfl) (fun _ _ _ h => h) (Or.inl ⟨by rfl, ?hy8⟩) (by assumption) ?rest8
        case hy8 => (intro w hSw; (try go_simp); try with_reducible rfl)
        try simp only [Act.put, List.getElem_toArray, List.getElem_cons_zero, List.getElem_cons_succ, List.setIfInBounds_toArray, List.set_cons_zero, List.set_cons_succ]
        refine wpAnyH_take (i := 9) (v := ?v9) rfl (by kernel_rfl) (by kernel_rfl) (by kernel_rfl) (fun _ _ _ h => h) (Or.inl ⟨by rfl, ?hy9⟩) (by assumption) ?rest9
        case hy9 => (intro w hSw; (try go_simp); try with_reducible rfl)
        try simp only [Act.put, List.getElem_toArray, List.getElem_cons_zero, List.getElem_cons_succ, List.setIfInBounds_toArray, List.set_cons_zero, List.set_cons_succ]
        refine wpAnyH_ready (rs := [10]) (by kernel_rfl) (by simp) ?_
        refine AllReadyH.cons rfl (fun K hK => ?_) AllReadyH.nil
        refine step_alloca rfl _ rfl _ zeroP ?_
        intro g12 V2 hB8 hs8 hF8
        replace H := hide (H.out.box hs8 hF8 hB8)
        clear hB8 hs8 hF8
        refine hK.out _ _ (H.out.get 0 rfl) (fun hHeld => ?_)
        clear hK K
        refine wpAnyH_ready (rs := [11]) (by kernel_rfl) (by simp) ?_
        refine AllReadyH.cons rfl (fun K hK => ?_) AllReadyH.nil
        refine step_storem aggP rfl (.tmp 12) (.tmp 28) rfl g12 0 (pktC P) _ (pktC P) rfl rfl _ (H.out.get 2 rfl) HLP.out (Nat.le_of_eq (by rw [Nat.zero_add]; exact pkt0_c.symm)) (splice_all _ _ (by rw [HLP.out]; exact pkt0_c)) (pktC_one _) ?_
        intro V3 hB8 hF8
        replace H := hide (H.out.store 2 rfl hF8 hB8)
        clear hB8 hF8
        refine hK.out _ _ (H.out.get 0 rfl) (fun hHeld => ?_)
        clear hK K
        refine wpAnyH_take (i := 12) (v := ?v10) rfl (by kernel_rfl) (by kernel_rfl) (by kernel_rfl) (fun _ _ _ h => h) (Or.inl ⟨by rfl, ?hy10⟩) (by assumption) ?rest10
        case hy10 => (intro w hSw; (try go_simp); try with_reducible rfl)
        try simp only [Act.put, List.getElem_toArray, List.getElem_cons_zero, List.getElem_cons_succ, List.setIfInBounds_toArray, List.set_cons_zero, List.set_cons_succ]
        refine wpAnyH_done (by kernel_rfl) ?_ _
        clear hHeld
        exact hend.out g12 _ (H.out)
      refine AllReadyH.cons rfl (fun K hK => ?_) AllReadyH.nil
      refine step_alloca rfl _ rfl _ zeroP ?_
      intro g12 V4 hB8 hs8 hF8
      replace H := hide (H.out.box hs8 hF8 hB8)
      clear hB8 hs8 hF8
      refine hK.out _ _ (H.out.get 0 rfl) (fun hHeld => ?_)
      clear hK K
      refine wpAnyH_ready (rs := [6]) (by kernel_rfl) (by simp) ?_
      refine AllReadyH.cons rfl (fun K hK => ?_) AllReadyH.nil
      go_simp
      refine (HB.out _ H.out.tb (HR.out.below H.out.bel)).mono ?_
      rintro e V5 ⟨rfl, hbc⟩
      replace H := hide (H.out.call hbc)
      clear hbc
      refine hK.out _ _ (H.out.get 0 rfl) (fun hHeld => ?_)
      clear hK K
      refine wpAnyH_take (i := 7) (v := ?v11) rfl (by kernel_rfl) (by kernel_rfl) (by kernel_rfl) (fun _ _ _ h => h) (Or.inl ⟨by rfl, ?hy11⟩) (by assumption) ?rest11
      case hy11 => (intro w hSw; (try go_simp); try with_reducible rfl)
      try simp only [Act.put, List.getElem_toArray, List.getElem_cons_zero, List.getElem_cons_succ, List.setIfInBounds_toArray, List.set_cons_zero, List.set_cons_succ]
      refine wpAnyH_take (i := 8) (v := ?v12) rfl (by kernel_rfl) (by kernel_rfl) (by kernel_rfl) (fun _ _ _ h => h) (Or.inl ⟨by rfl, ?hy12⟩) (by assumption) ?rest12
      case hy12 => (intro w hSw; (try go_simp); try with_reducible rfl)
      try simp only [Act.put, List.getElem_toArray, List.getElem_cons_zero, List.getElem_cons_succ, List.setIfInBounds_toArray, List.set_cons_zero, List.set_cons_succ]
      refine wpAnyH_take (i := 9) (v := ?v13) rfl (by kernel_rfl) (by kernel_rfl) (by kernel_rfl) (fun _ _ _ h => h) (Or.inl ⟨by rfl, ?hy13⟩) (by assumption) ?rest13
      case hy13 => (intro w hSw; (try go_simp); try with_reducible rfl)
      try simp only [Act.put, List.getElem_toArray, List.getElem_cons_zero, List.getElem_cons_succ, List.setIfInBounds_toArray, List.set_cons_zero, List.set_cons_succ]
      refine wpAnyH_ready (rs := [11]) (by kernel_rfl) (by simp) ?_
      refine AllReadyH.cons rfl (fun K hK => ?_) AllReadyH.nil
      refine step_storem aggP rfl (.tmp 12) (.tmp 28) rfl g12 0 (pktC P) _ (pktC P) rfl rfl _ (H.out.get 2 rfl) HLP.out (Nat.le_of_eq (by rw [Nat.zero_add]; exact pkt0_c.symm)) (splice_all _ _ (by rw [HLP.out]; exact pkt0_c)) (pktC_one _) ?_
      intro V6 hB8 hF8
      replace H := hide (H.out.store 2 rfl hF8 hB8)
      clear hB8 hF8
      refine hK.out _ _ (H.out.get 0 rfl) (fun hHeld => ?_)
      clear hK K
      refine wpAnyH_take (i := 12) (v := ?v14) rfl (by kernel_rfl) (by kernel_rfl) (by kernel_rfl) (fun _ _ _ h => h) (Or.inl ⟨by rfl, ?hy14⟩) (by assumption) ?rest14
      case hy14 => (intro w hSw; (try go_simp); try with_reducible rfl)
      try simp only [Act.put, List.getElem_toArray, List.getElem_cons_zero, List.getElem_cons_succ, List.setIfInBounds_toArray, List.set_cons_zero, List.set_cons_succ]
      refine wpAnyH_done (by kernel_rfl) ?_ _
      clear hHeld
      exact hend.out g12 _ (H.out)
    intro g12 W9 hR2
    replace H := hide hR2
    clear hR2
    go_wp2_with fail
    go_ret
    exact ⟨rfl, H.out.bel⟩
  · have HB := HB0
    rw [(built_right hr 1 x).2] at HB
    obtain ⟨h1m, _, _⟩ := rightH_iff hr
    rw [hR.len] at h1m
    have H1M := hide h1m
    have hz1 : ¬ (n : Int) = 0 := by omega
    have hz2 : decide ((n : Int) = 0) = false := decide_eq_false hz1
    have hz3 : ((n : Int) == 0) = false := beq_eq_false_iff_ne.2 hz1
    generalize buildP hs 1 x = P at *
    have HPO := hide hpo
    have HLP := hide (pktC_length hpo)
    clear HB0 hr hR hT hx hk h1m
    obtain ⟨k, hk0⟩ : ∃ k : Nat, a % 65536 % 608 = (k : Int) := ⟨(a % 65536 % 608).toNat, by omega⟩
    have hk6 : k < 608 := by omega
    have hcase : k < 16 ∨ (∃ j, k = 16 + j ∧ j < 16) ∨ (∃ j, k = 32 + j ∧ j < 320) ∨ (∃ j, k = 352 + j ∧ j < 256) := by
      by_cases h1 : k < 16
      · exact .inl h1
      · by_cases h2 : k < 32
        · exact .inr (.inl ⟨k - 16, by omega, by omega⟩)
        · by_cases h3 : k < 352
          · exact .inr (.inr (.inl ⟨k - 32, by omega, by omega⟩))
          · exact .inr (.inr (.inr ⟨k - 352, by omega, by omega⟩))
    rcases hcase with hj | ⟨j, rfl, hj⟩ | ⟨j, rfl, hj⟩ | ⟨j, rfl, hj⟩
    · have hk : Hid (a % 65536 % 608 = (k : Int)) := by show _ = _; rw [hk0]
      obtain ⟨m0, hm0⟩ : ∃ b : UInt8, b = P.mac.getD k 0 := ⟨_, rfl⟩
      obtain ⟨m1, hm1⟩ : ∃ y : UInt8, y = m0 ^^^ b := ⟨_, rfl⟩
      have hxor : bits .xor .u8 (m0.toNat : Int) (b.toNat : Int) = (m1.toNat : Int) := by rw [hm1]; exact byte_xor m0 b
      obtain ⟨P2, hP2⟩ : ∃ q : Pkt, q = { P with mac := P.mac.set k m1 } := ⟨_, rfl⟩
      have HO2 : Hid (P2.ok) := by
        have hl : (P.mac.set k m1).length = 16 := by rw [List.length_set]; exact HPO.out.mac
        show P2.ok
        rw [hP2]
        exact ⟨HPO.out.who, HPO.out.epoch, HPO.out.nonce, hl, HPO.out.head, HPO.out.body⟩
      have HL2 := hide (pktC_length HO2.out)
      have HG : Hid ((pktC P)[18 + k]? = some (.int .u8 (m0.toNat : Int))) := by show _ = _; rw [hm0]; exact pktC_getM HPO.out k hj
      have HST : Hid ((pktC P).set (18 + k) (.int .u8 (m1.toNat : Int)) = pktC P2) := by show _ = _; rw [hP2]; exact pktC_setM HPO.out k _ hj
      have hl16 : ((k : Int)) < 16 := by omega
      have hd16 : decide (((k : Int)) < 16) = true := decide_eq_true hl16
      have hl32 : ((k : Int)) < 32 := by omega
      have hd32 : decide (((k : Int)) < 32) = true := decide_eq_true hl32
      have hl352 : ((k : Int)) < 352 := by omega
      have hd352 : decide (((k : Int)) < 352) = true := decide_eq_true hl352
      have hji : 0 ≤ (k : Int) ∧ (k : Int) < 16 := by omega
      have hjn : (k : Int) < 16 := hji.2
      have HJ := hide hj
      clear hm0 hm1 hP2 hk0 hk6 hpo hj hab
      go_enter Tryd.func4, Tryd.ntmps4
      go_wp2_with (first
        | (with_reducible refine at_op (op := ⟨some 6, _, _, _, _, _⟩) ?_; (refine wpl_boxa (op := ⟨some 6, _, _, _, _, _⟩) rfl _ _ rfl (cellsB x) rfl ?_); intro g6 W6 hB1 hg1 hF1; replace H := hide (H.out.box hg1 hF1 hB1); clear hB1 hg1 hF1)
        | (with_reducible refine at_op (op := ⟨some 7, _, _, _, _, _⟩) ?_; (refine wpl_boxa (op := ⟨some 7, _, _, _, _, _⟩) rfl _ _ rfl (cellsB key) rfl ?_); intro g7 W7 hB1 hg1 hF1; replace H := hide (H.out.box hg1 hF1 hB1); clear hB1 hg1 hF1)
        | (go_at_call 8; with_reducible refine (HSH.out _ H.out.tb).mono ?_; rintro e W8 ⟨rfl, hbc⟩; replace H := hide (H.out.call hbc); clear hbc))
      apply merge1 (R := fun a12 W => OAt w [(g6, 24, cellsB x), (g7, 29, cellsB key), (a12, 39, pktC P)] W)
      · intro hend
        obtain ⟨U1, hU1⟩ : ∃ U1, U1 = W8.drew := ⟨_, rfl⟩
        refine wp_region_held_drew (S := fun W' => Blk W' g6 24 (cellsB x).toArray) (by kernel_rfl) (by rw [← hU1]; replace H := hide (by rw [hU1]; exact H.out.drew : OAt w _ U1); exact H.out.get 0 rfl) ?_
        intro hHeld
        replace H := hide (by rw [hU1]; exact H.out.drew : OAt w _ U1)
        rw [← hU1] at hHeld ⊢
        clear hU1
        refine wpAnyH_take (i := 0) (v := ?v15) rfl (by kernel_rfl) (by kernel_rfl) (by kernel_rfl) (fun _ _ _ h => h) (Or.inl ⟨by rfl, ?hy15⟩) (by assumption) ?rest15
        case hy15 => (intro w hSw; (try go_simp); try with_reducible rfl)
        try simp only [Act.put, List.getElem_toArray, List.getElem_cons_zero, List.getElem_cons_succ, List.setIfInBounds_toArray, List.set_cons_zero, List.set_cons_succ]
        refine wpAnyH_take (i := 1) (v := ?v16) rfl (by kernel_rfl) (by kernel_rfl) (by kernel_rfl) (fun _ _ _ h => h) (Or.inl ⟨by rfl, ?hy16⟩) (by assumption) ?rest16
        case hy16 => (intro w hSw; (try go_simp); try with_reducible rfl)
        try simp only [Act.put, List.getElem_toArray, List.getElem_cons_zero, List.getElem_cons_succ, List.setIfInBounds_toArray, List.set_cons_zero, List.set_cons_succ]
        refine wpAnyH_take (i := 2) (v := ?v17) rfl (by kernel_rfl) (by kernel_rfl) (by kernel_rfl) (fun _ _ _ h => h) (Or.inl ⟨by rfl, ?hy17⟩) (by assumption) ?rest17
        case hy17 => (intro w hSw; (try go_simp); try with_reducible rfl)
        try simp only [Act.put, List.getElem_toArray, List.getElem_cons_zero, List.getElem_cons_succ, List.setIfInBounds_toArray, List.set_cons_zero, List.set_cons_succ]
        refine wpAnyH_take (i := 3) (v := ?v18) rfl (by kernel_rfl) (by kernel_rfl) (by kernel_rfl) (fun _ _ _ h => h) (Or.inl ⟨by rfl, ?hy18⟩) (by assumption) ?rest18
        case hy18 => (intro w hSw; refine held_min (.tmp 23) (.const (.int .i64 5)) 3 3 ?_ (n : Int) 5 (m : Int) ?_ ?_ HM.out <;> rfl)
        try simp only [Act.put, List.getElem_toArray, List.getElem_cons_zero, List.getElem_cons_succ, List.setIfInBounds_toArray, List.set_cons_zero, List.set_cons_succ]
        refine wpAnyH_take (i := 4) (v := ?v19) rfl (by kernel_rfl) (by kernel_rfl) (by kernel_rfl) (fun _ _ _ h => h) (Or.inl ⟨by rfl, ?hy19⟩) (by assumption) ?rest19
        case hy19 => (intro w hSw; (try go_simp); try with_reducible rfl)
        try simp only [Act.put, List.getElem_toArray, List.getElem_cons_zero, List.getElem_cons_succ, List.setIfInBounds_toArray, List.set_cons_zero, List.set_cons_succ]
        refine wpAnyH_take (i := 5) (v := ?v20) rfl (by kernel_rfl) (by kernel_rfl) (by kernel_rfl) (fun _ _ _ h => h) (Or.inl ⟨by rfl, ?hy20⟩) (by assumption) ?rest20
        case hy20 => (intro w hSw; refine held_loadf agg256 (.tmp 6) ?_ g6 ?_ _ (cellsB x) hSw HXc.out <;> rfl)
        try simp only [Act.put, List.getElem_toArray, List.getElem_cons_zero, List.getElem_cons_succ, List.setIfInBounds_toArray, List.set_cons_zero, List.set_cons_succ]
        refine wpAnyH_ready (rs := [6, 10]) (by kernel_rfl) (by simp) ?_
        refine AllReadyH.cons rfl (fun K hK => ?_) ?_
        · go_simp
          refine (HB.out _ H.out.tb (HR.out.below H.out.bel)).mono ?_
          rintro e V1 ⟨rfl, hbc⟩
          replace H := hide (H.out.call hbc)
          clear hbc
          refine hK.out _ _ (H.out.get 0 rfl) (fun hHeld => ?_)
          clear hK K
          refine wpAnyH_take (i := 7) (v := ?v21) rfl (by kernel_rfl) (by kernel_rfl) (by kernel_rfl) (fun _ _ _ h => h) (Or.inl ⟨by rfl, ?hy21⟩) (by assumption) ?rest21
          case hy21 => (intro w hSw; (try go_simp); try with_reducible rfl)
          try simp only [Act.put, List.getElem_toArray, List.getElem_cons_zero, List.getElem_cons_succ, List.setIfInBounds_toArray, List.set_cons_zero, List.set_cons_succ]
          refine wpAnyH_take (i := 8) (v := ?v22) rfl (by kernel_rfl) (by kernel_rfl) (by kernel_rfl) (fun _ _ _ h => h) (Or.inl ⟨by rfl, ?hy22⟩) (by assumption) ?rest22
          case hy22 => (intro w hSw; (try go_simp); try with_reducible rfl)
          try simp only [Act.put, List.getElem_toArray, List.getElem_cons_zero, List.getElem_cons_succ, List.setIfInBounds_toArray, List.set_cons_zero, List.set_cons_succ]
          refine wpAnyH_take (i := 9) (v := ?v23) rfl (by kernel_rfl) (by kernel_rfl) (by kernel_rfl) (fun _ _ _ h => h) (Or.inl ⟨by rfl, ?hy23⟩) (by assumption) ?rest23
          case hy23 => (intro w hSw; (try go_simp); try with_reducible rfl)
          try simp only [Act.put, List.getElem_toArray, List.getElem_cons_zero, List.getElem_cons_succ, List.setIfInBounds_toArray, List.set_cons_zero, List.set_cons_succ]
          refine wpAnyH_ready (rs := [10]) (by kernel_rfl) (by simp) ?_
          refine AllReadyH.cons rfl (fun K hK => ?_) AllReadyH.nil
          refine step_alloca rfl _ rfl _ zeroP ?_
          intro g12 V2 hB8 hs8 hF8
          replace H := hide (H.out.box hs8 hF8 hB8)
          clear hB8 hs8 hF8
          refine hK.out _ _ (H.out.get 0 rfl) (fun hHeld => ?_)
          clear hK K
          refine wpAnyH_ready (rs := [11]) (by kernel_rfl) (by simp) ?_
          refine AllReadyH.cons rfl (fun K hK => ?_) AllReadyH.nil
          refine step_storem aggP rfl (.tmp 12) (.tmp 28) rfl g12 0 (pktC P) _ (pktC P) rfl rfl _ (H.out.get 2 rfl) HLP.out (Nat.le_of_eq (by rw [Nat.zero_add]; exact pkt0_c.symm)) (splice_all _ _ (by rw [HLP.out]; exact pkt0_c)) (pktC_one _) ?_
          intro V3 hB8 hF8
          replace H := hide (H.out.store 2 rfl hF8 hB8)
          clear hB8 hF8
          refine hK.out _ _ (H.out.get 0 rfl) (fun hHeld => ?_)
          clear hK K
          refine wpAnyH_take (i := 12) (v := ?v24) rfl (by kernel_rfl) (by kernel_rfl) (by kernel_rfl) (fun _ _ _ h => h) (Or.inl ⟨by rfl, ?hy24⟩) (by assumption) ?rest24
          case hy24 => (intro w hSw; (try go_simp); try with_reducible rfl)
          try simp only [Act.put, List.getElem_toArray, List.getElem_cons_zero, List.getElem_cons_succ, List.setIfInBounds_toArray, List.set_cons_zero, List.set_cons_succ]
          refine wpAnyH_done (by kernel_rfl) ?_ _
          clear hHeld
          exact hend.out g12 _ (H.out)
        refine AllReadyH.cons rfl (fun K hK => ?_) AllReadyH.nil
        refine step_alloca rfl _ rfl _ zeroP ?_
        intro g12 V4 hB8 hs8 hF8
        replace H := hide (H.out.box hs8 hF8 hB8)
        clear hB8 hs8 hF8
        refine hK.out _ _ (H.out.get 0 rfl) (fun hHeld => ?_)
        clear hK K
        refine wpAnyH_ready (rs := [6]) (by kernel_rfl) (by simp) ?_
        refine AllReadyH.cons rfl (fun K hK => ?_) AllReadyH.nil
        go_simp
        refine (HB.out _ H.out.tb (HR.out.below H.out.bel)).mono ?_
        rintro e V5 ⟨rfl, hbc⟩
        replace H := hide (H.out.call hbc)
        clear hbc
        refine hK.out _ _ (H.out.get 0 rfl) (fun hHeld => ?_)
        clear hK K
        refine wpAnyH_take (i := 7) (v := ?v25) rfl (by kernel_rfl) (by kernel_rfl) (by kernel_rfl) (fun _ _ _ h => h) (Or.inl ⟨by rfl, ?hy25⟩) (by assumption) ?rest25
        case hy25 => (intro w hSw; (try go_simp); try with_reducible rfl)
        try simp only [Act.put, List.getElem_toArray, List.getElem_cons_zero, List.getElem_cons_succ, List.setIfInBounds_toArray, List.set_cons_zero, List.set_cons_succ]
        refine wpAnyH_take (i := 8) (v := ?v26) rfl (by kernel_rfl) (by kernel_rfl) (by kernel_rfl) (fun _ _ _ h => h) (Or.inl ⟨by rfl, ?hy26⟩) (by assumption) ?rest26
        case hy26 => (intro w hSw; (try go_simp); try with_reducible rfl)
        try simp only [Act.put, List.getElem_toArray, List.getElem_cons_zero, List.getElem_cons_succ, List.setIfInBounds_toArray, List.set_cons_zero, List.set_cons_succ]
        refine wpAnyH_take (i := 9) (v := ?v27) rfl (by kernel_rfl) (by kernel_rfl) (by kernel_rfl) (fun _ _ _ h => h) (Or.inl ⟨by rfl, ?hy27⟩) (by assumption) ?rest27
        case hy27 => (intro w hSw; (try go_simp); try with_reducible rfl)
        try simp only [Act.put, List.getElem_toArray, List.getElem_cons_zero, List.getElem_cons_succ, List.setIfInBounds_toArray, List.set_cons_zero, List.set_cons_succ]
        refine wpAnyH_ready (rs := [11]) (by kernel_rfl) (by simp) ?_
        refine AllReadyH.cons rfl (fun K hK => ?_) AllReadyH.nil
        refine step_storem aggP rfl (.tmp 12) (.tmp 28) rfl g12 0 (pktC P) _ (pktC P) rfl rfl _ (H.out.get 2 rfl) HLP.out (Nat.le_of_eq (by rw [Nat.zero_add]; exact pkt0_c.symm)) (splice_all _ _ (by rw [HLP.out]; exact pkt0_c)) (pktC_one _) ?_
        intro V6 hB8 hF8
        replace H := hide (H.out.store 2 rfl hF8 hB8)
        clear hB8 hF8
        refine hK.out _ _ (H.out.get 0 rfl) (fun hHeld => ?_)
        clear hK K
        refine wpAnyH_take (i := 12) (v := ?v28) rfl (by kernel_rfl) (by kernel_rfl) (by kernel_rfl) (fun _ _ _ h => h) (Or.inl ⟨by rfl, ?hy28⟩) (by assumption) ?rest28
        case hy28 => (intro w hSw; (try go_simp); try with_reducible rfl)
        try simp only [Act.put, List.getElem_toArray, List.getElem_cons_zero, List.getElem_cons_succ, List.setIfInBounds_toArray, List.set_cons_zero, List.set_cons_succ]
        refine wpAnyH_done (by kernel_rfl) ?_ _
        clear hHeld
        exact hend.out g12 _ (H.out)
      intro g12 W9 hR2
      replace H := hide hR2
      clear hR2
      go_wp2_with (first
        | (with_reducible refine at_op (op := ⟨some 56, _, _, _, _, _⟩) ?_; rw [hk.out])
        | (with_reducible refine at_op (op := ⟨some 61, _, _, _, _, _⟩) ?_; refine wpl_held (op := ⟨some 61, _, _, _, _, _⟩) (.int .u8 (m0.toNat : Int)) (held_load1 Tryd.underlying5 rfl one8 _ rfl g12 (18 + k) rfl _ _ (.int .u8 (m0.toNat : Int)) (H.out.get 2 rfl) HG.out) rfl ?_)
        | (with_reducible refine at_op (op := ⟨none, .store _ (.tmp 65) _, _, _, _, _⟩) ?_; (refine wpl_store1 (op := ⟨none, _, _, _, _, _⟩) one8 rfl (.tmp 65) (.tmp 63) rfl g12 (18 + k) (.int .u8 (m1.toNat : Int)) (pktC P) (pktC P2) rfl rfl rfl _ (H.out.get 2 rfl) (by rw [HLP.out]; have := HJ.out; omega) HST.out ?_); intro W10 hB1 hF1; replace H := hide (H.out.store 2 rfl hF1 hB1); clear hB1 hF1))
      have H0 := H
      clear H
      go_loopw [14] (fun i wr => ∃ r : Nat, r ≤ 2 ∧ i = .int .i64 r ∧ OAt w [(g6, 24, cellsB x), (g7, 29, cellsB key), (g12, 39, pktC P2)] wr) (fun i _ => 2 - (intOf i).toNat)
      case atStart => exact ⟨0, by omega, rfl, H0.out⟩
      case round =>
        clear H0
        obtain ⟨r, hr2, rfl, hat⟩ := hrel
        have H := hide hat
        clear hat
        have hrc : r = 0 ∨ r = 1 ∨ r = 2 := by omega
        rcases hrc with hr0 | hr0 | hr0
        · have hq1 : (r : Int) < 2 := by omega
          have hq2 : decide ((r : Int) < 2) = true := decide_eq_true hq1
          have hq3 : ¬ (r : Int) = 1 := by omega
          have hq4 : decide ((r : Int) = 1) = false := decide_eq_false hq3
          have hq5 : ((r : Int) == 1) = false := beq_eq_false_iff_ne.2 hq3
          have HR0 := hide hr0
          clear hr0
          by_cases heq : macO key P2 = P2.mac
          · have HP1 := hide (HPE.out key HKl.out P2 HO2.out)
            have hiff := peelE_four key P2
            have HS1 := hide (slotC_length (peelS key P2) (peelS_ok key HO2.out).nonce (peelS_ok key HO2.out).mac)
            have HQ1 := hide (pktC_length (peelP_ok key HO2.out))
            have HOF := hide (HPOF.out P2 HO2.out)
            have HMC := hide (HPMC.out key HKl.out P2 HO2.out)
            have HCK : Hid (((cellsB key).drop 0).take 32 = cellsB key) := by show _ = _; rw [List.drop_zero, List.take_of_length_le (by rw [HKc.out]; exact Nat.le_refl _)]
            have HCM := hide (pktC_mac HO2.out)
            have HML := hide HO2.out.mac
            generalize peelE key P2 = E at *
            generalize peelS key P2 = S0 at *
            generalize peelP key P2 = Q0 at *
            obtain ⟨sx, hsx⟩ : ∃ s : ByteArray, s = ⟨(macO key P2).toArray⟩ := ⟨_, rfl⟩
            obtain ⟨sy, hsy⟩ : ∃ s : ByteArray, s = ⟨P2.mac.toArray⟩ := ⟨_, rfl⟩
            have HSY := hide hsy
            rw [← hsx] at HMC
            have hE : ¬ E = 4 := by rw [hiff]; exact fun h => h heq
            have hE2 : (E == 4) = false := beq_eq_false_iff_ne.2 hE
            have hE3 : decide (E = 4) = false := decide_eq_false hE
            have hxy : sx = sy := by rw [hsx, hsy, heq]
            subst hxy
            clear hsx hsy hiff heq
            go_wp2_with (first
              | (with_reducible refine at_op (op := ⟨some 98, _, _, _, _, _⟩) ?_; refine wpl_held (op := ⟨some 98, _, _, _, _, _⟩) (.agg (cellsB key).toArray) (held_loadf aggK _ rfl g7 rfl _ (cellsB key) (H.out.get 1 rfl) HKc.out) rfl ?_)
              | (with_reducible refine at_op (op := ⟨some 15, _, _, _, _, _⟩) ?_; (with_reducible refine wpl_alloca (op := ⟨some 15, _, _, _, _, _⟩) rfl _ rfl _ zeroK ?_); intro g15 V15 hB1 hg1 hF1; go_simp; (with_reducible refine wpl_storea aggK rfl (.tmp 15) (.tmp 98) rfl g15 (cellsB key) rfl rfl _ _ hB1 HKc.out zl_K (cellsB_one _) ?_); intro V1 hB2 hF2; replace H := hide (H.out.var hg1 hF1 hF2 hB2); clear hB1 hg1 hF1 hB2 hF2)
              | (with_reducible refine at_op (op := ⟨some 106, _, _, _, _, _⟩) ?_; refine wpl_held (op := ⟨some 106, _, _, _, _, _⟩) (.agg (cellsB key).toArray) (held_loadf aggK _ rfl g15 rfl _ (cellsB key) (H.out.get 3 rfl) HKc.out) rfl ?_)
              | (with_reducible refine at_op (op := ⟨some 107, _, _, _, _, _⟩) ?_; refine wpl_held (op := ⟨some 107, _, _, _, _, _⟩) (.agg (pktC P2).toArray) (held_loadf aggP _ rfl g12 rfl _ (pktC P2) (H.out.get 2 rfl) HL2.out) rfl ?_)
              | (go_at_call 10; with_reducible refine (HP1.out _ H.out.tb).mono ?_; rintro e V3 ⟨rfl, hbc⟩; replace H := hide (H.out.call hbc); clear hbc)
              | (with_reducible refine at_op (op := ⟨some 16, _, _, _, _, _⟩) ?_; (with_reducible refine wpl_alloca (op := ⟨some 16, _, _, _, _, _⟩) rfl _ rfl _ zeroS ?_); intro g16 V4 hB1 hg1 hF1; replace H := hide (H.out.box hg1 hF1 hB1); clear hB1 hg1 hF1)
              | (with_reducible refine at_op (op := ⟨some 17, _, _, _, _, _⟩) ?_; (with_reducible refine wpl_alloca (op := ⟨some 17, _, _, _, _, _⟩) rfl _ rfl _ zeroP ?_); intro g17 V5 hB1 hg1 hF1; replace H := hide (H.out.box hg1 hF1 hB1); clear hB1 hg1 hF1)
              | (with_reducible refine at_op (op := ⟨none, .store _ (.tmp 16) (.tmp 109), _, _, _, _⟩) ?_; (with_reducible refine wpl_storea aggS rfl (.tmp 16) (.tmp 109) rfl g16 (slotC S0) rfl rfl _ _ (H.out.get 4 rfl) HS1.out (slot0_len) (slotC_one _) ?_); intro V6 hB1 hF1; replace H := hide (H.out.store 4 rfl hF1 hB1); clear hB1 hF1)
              | (with_reducible refine at_op (op := ⟨none, .store _ (.tmp 17) (.tmp 110), _, _, _, _⟩) ?_; (with_reducible refine wpl_storea aggP rfl (.tmp 17) (.tmp 110) rfl g17 (pktC Q0) rfl rfl _ _ (H.out.get 5 rfl) HQ1.out (pkt0_len) (pktC_one _) ?_); intro V7 hB1 hF1; replace H := hide (H.out.store 5 rfl hF1 hB1); clear hB1 hF1))
            obtain ⟨N, hN⟩ : ∃ N, N = V7.heap.size := ⟨_, rfl⟩
            have hq : Below N V7 V7 := hN ▸ Below.refl _ _
            have HA := hide (fun W' (h : Below N V7 W') => H.out.call (hN ▸ h))
            have HC := hide (fun W' (h : Below N V7 W') W'' (k : Below W'.heap.size W' W'') => h.trans (k.mono (by rw [hN]; exact h.size)))
            have hqo : ∀ W', Below N V7 W' → Calls Tryd.prog 12 #[.agg (pktC P2).toArray] W' (fun e w'' => e = .returned (.agg (rpktC P2).toArray) ∧ Below N V7 w'') := fun W' h => (HOF.out W' (HA.out W' h).tb).mono (fun e w'' ⟨he, hb⟩ => ⟨he, HC.out W' h w'' hb⟩)
            have hqm : ∀ W', Below N V7 W' → Calls Tryd.prog 11 #[.string ⟨(key).toArray⟩, .agg (rpktC P2).toArray] W' (fun e w'' => e = .returned (.string sx) ∧ Below N V7 w'') := fun W' h => (HMC.out W' (HA.out W' h).tb).mono (fun e w'' ⟨he, hb⟩ => ⟨he, HC.out W' h w'' hb⟩)
            clear hN
            refine wp_region_class (fun W' => Below N V7 W') (by kernel_rfl) (by kernel_rfl) (below_drewN hq 1) ?_
            with_reducible refine wpQuiet_step ?_
            intro K hK
            go_simp
            first | (refine hK _ ?_; clear hK K) | (refine ⟨_, fun w' hw' => rfl, hK _ ?_⟩; clear hK K)
            with_reducible refine wpQuiet_step ?_
            intro K hK
            go_simp
            first | (refine hK _ ?_; clear hK K) | (refine ⟨_, fun w' hw' => rfl, hK _ ?_⟩; clear hK K)
            with_reducible refine wpQuiet_step ?_
            intro K hK
            go_simp
            first | (refine hK _ ?_; clear hK K) | (refine ⟨_, fun w' hw' => rfl, hK _ ?_⟩; clear hK K)
            with_reducible refine wpQuiet_step ?_
            intro K hK
            refine quiet_val (.string ⟨(key).toArray⟩) (fun w' hw' => held_convR _ rfl (some ⟨g15, 0, none⟩) 32 32 rfl (key) (((HA.out w' hw').get 3 rfl).mid 0 32 (key) HCK.out HKl.out)) ?_ rfl
            go_simp
            refine hK _ ?_
            clear hK K
            with_reducible refine wpQuiet_step ?_
            intro K hK
            refine quiet_val (.agg (pktC P2).toArray) (fun w' hw' => held_loadf aggP _ rfl g12 rfl _ (pktC P2) ((HA.out w' hw').get 2 rfl) HL2.out) ?_ rfl
            go_simp
            refine hK _ ?_
            clear hK K
            with_reducible refine wpQuiet_step ?_
            intro K hK
            go_simp
            refine ⟨_, hqo, hK _ ?_⟩
            clear hK K
            with_reducible refine wpQuiet_step ?_
            intro K hK
            go_simp
            refine ⟨_, hqm, hK _ ?_⟩
            clear hK K
            with_reducible refine wpQuiet_step ?_
            intro K hK
            go_simp
            first | (refine hK _ ?_; clear hK K) | (refine ⟨_, fun w' hw' => rfl, hK _ ?_⟩; clear hK K)
            with_reducible refine wpQuiet_step ?_
            intro K hK
            go_simp
            first | (refine hK _ ?_; clear hK K) | (refine ⟨_, fun w' hw' => rfl, hK _ ?_⟩; clear hK K)
            with_reducible refine wpQuiet_step ?_
            intro K hK
            refine quiet_val (.string sx) (fun w' hw' => held_macS _ rfl g12 rfl P2 sx HSY.out ((HA.out w' hw').get 2 rfl) HCM.out HML.out) ?_ rfl
            go_simp
            refine hK _ ?_
            clear hK K
            with_reducible refine wpQuiet_step ?_
            intro K hK
            go_simp
            first | (refine hK _ ?_; clear hK K) | (refine ⟨_, fun w' hw' => rfl, hK _ ?_⟩; clear hK K)
            with_reducible refine wpQuiet_step ?_
            intro K hK
            go_simp
            first | (refine hK _ ?_; clear hK K) | (refine ⟨_, fun w' hw' => rfl, hK _ ?_⟩; clear hK K)
            refine wpQuiet_nil ?_
            clear hq
            intro wq hwq
            replace H := hide (HA.out wq hwq)
            clear HA HC hwq
            go_wp2_with fail
            replace H := hide (H.out.pre 3)
            go_roundw
            case rel => exact ⟨r + 1, by omega, by go_num, H.out⟩
            case measure => simp [intOf]; omega
          · have HP1 := hide (HPE.out key HKl.out P2 HO2.out)
            have hiff := peelE_four key P2
            have HS1 := hide (slotC_length (peelS key P2) (peelS_ok key HO2.out).nonce (peelS_ok key HO2.out).mac)
            have HQ1 := hide (pktC_length (peelP_ok key HO2.out))
            have HOF := hide (HPOF.out P2 HO2.out)
            have HMC := hide (HPMC.out key HKl.out P2 HO2.out)
            have HCK : Hid (((cellsB key).drop 0).take 32 = cellsB key) := by show _ = _; rw [List.drop_zero, List.take_of_length_le (by rw [HKc.out]; exact Nat.le_refl _)]
            have HCM := hide (pktC_mac HO2.out)
            have HML := hide HO2.out.mac
            generalize peelE key P2 = E at *
            generalize peelS key P2 = S0 at *
            generalize peelP key P2 = Q0 at *
            obtain ⟨sx, hsx⟩ : ∃ s : ByteArray, s = ⟨(macO key P2).toArray⟩ := ⟨_, rfl⟩
            obtain ⟨sy, hsy⟩ : ∃ s : ByteArray, s = ⟨P2.mac.toArray⟩ := ⟨_, rfl⟩
            have HSY := hide hsy
            rw [← hsx] at HMC
            have hE : E = 4 := hiff.2 heq
            have hxy : ¬ sx = sy := fun h => heq (by
              have h2 : (⟨(macO key P2).toArray⟩ : ByteArray) = ⟨P2.mac.toArray⟩ := by rw [← hsx, ← hsy, h]
              have h3 := congrArg (fun s : ByteArray => s.data.toList) h2
              simpa using h3)
            have hxy2 : (sx.toList == sy.toList) = false := by rw [hsx, hsy, txt_eqM]; exact beq_eq_false_iff_ne.2 heq
            have hxy3 : decide (sx = sy) = false := decide_eq_false hxy
            subst hE
            clear hsx hsy hiff heq
            go_wp2_with (first
              | (with_reducible refine at_op (op := ⟨some 98, _, _, _, _, _⟩) ?_; refine wpl_held (op := ⟨some 98, _, _, _, _, _⟩) (.agg (cellsB key).toArray) (held_loadf aggK _ rfl g7 rfl _ (cellsB key) (H.out.get 1 rfl) HKc.out) rfl ?_)
              | (with_reducible refine at_op (op := ⟨some 15, _, _, _, _, _⟩) ?_; (with_reducible refine wpl_alloca (op := ⟨some 15, _, _, _, _, _⟩) rfl _ rfl _ zeroK ?_); intro g15 V15 hB1 hg1 hF1; go_simp; (with_reducible refine wpl_storea aggK rfl (.tmp 15) (.tmp 98) rfl g15 (cellsB key) rfl rfl _ _ hB1 HKc.out zl_K (cellsB_one _) ?_); intro V1 hB2 hF2; replace H := hide (H.out.var hg1 hF1 hF2 hB2); clear hB1 hg1 hF1 hB2 hF2)
              | (with_reducible refine at_op (op := ⟨some 106, _, _, _, _, _⟩) ?_; refine wpl_held (op := ⟨some 106, _, _, _, _, _⟩) (.agg (cellsB key).toArray) (held_loadf aggK _ rfl g15 rfl _ (cellsB key) (H.out.get 3 rfl) HKc.out) rfl ?_)
              | (with_reducible refine at_op (op := ⟨some 107, _, _, _, _, _⟩) ?_; refine wpl_held (op := ⟨some 107, _, _, _, _, _⟩) (.agg (pktC P2).toArray) (held_loadf aggP _ rfl g12 rfl _ (pktC P2) (H.out.get 2 rfl) HL2.out) rfl ?_)
              | (go_at_call 10; with_reducible refine (HP1.out _ H.out.tb).mono ?_; rintro e V3 ⟨rfl, hbc⟩; replace H := hide (H.out.call hbc); clear hbc)
              | (with_reducible refine at_op (op := ⟨some 16, _, _, _, _, _⟩) ?_; (with_reducible refine wpl_alloca (op := ⟨some 16, _, _, _, _, _⟩) rfl _ rfl _ zeroS ?_); intro g16 V4 hB1 hg1 hF1; replace H := hide (H.out.box hg1 hF1 hB1); clear hB1 hg1 hF1)
              | (with_reducible refine at_op (op := ⟨some 17, _, _, _, _, _⟩) ?_; (with_reducible refine wpl_alloca (op := ⟨some 17, _, _, _, _, _⟩) rfl _ rfl _ zeroP ?_); intro g17 V5 hB1 hg1 hF1; replace H := hide (H.out.box hg1 hF1 hB1); clear hB1 hg1 hF1)
              | (with_reducible refine at_op (op := ⟨none, .store _ (.tmp 16) (.tmp 109), _, _, _, _⟩) ?_; (with_reducible refine wpl_storea aggS rfl (.tmp 16) (.tmp 109) rfl g16 (slotC S0) rfl rfl _ _ (H.out.get 4 rfl) HS1.out (slot0_len) (slotC_one _) ?_); intro V6 hB1 hF1; replace H := hide (H.out.store 4 rfl hF1 hB1); clear hB1 hF1)
              | (with_reducible refine at_op (op := ⟨none, .store _ (.tmp 17) (.tmp 110), _, _, _, _⟩) ?_; (with_reducible refine wpl_storea aggP rfl (.tmp 17) (.tmp 110) rfl g17 (pktC Q0) rfl rfl _ _ (H.out.get 5 rfl) HQ1.out (pkt0_len) (pktC_one _) ?_); intro V7 hB1 hF1; replace H := hide (H.out.store 5 rfl hF1 hB1); clear hB1 hF1))
            obtain ⟨N, hN⟩ : ∃ N, N = V7.heap.size := ⟨_, rfl⟩
            have hq : Below N V7 V7 := hN ▸ Below.refl _ _
            have HA := hide (fun W' (h : Below N V7 W') => H.out.call (hN ▸ h))
            have HC := hide (fun W' (h : Below N V7 W') W'' (k : Below W'.heap.size W' W'') => h.trans (k.mono (by rw [hN]; exact h.size)))
            have hqo : ∀ W', Below N V7 W' → Calls Tryd.prog 12 #[.agg (pktC P2).toArray] W' (fun e w'' => e = .returned (.agg (rpktC P2).toArray) ∧ Below N V7 w'') := fun W' h => (HOF.out W' (HA.out W' h).tb).mono (fun e w'' ⟨he, hb⟩ => ⟨he, HC.out W' h w'' hb⟩)
            have hqm : ∀ W', Below N V7 W' → Calls Tryd.prog 11 #[.string ⟨(key).toArray⟩, .agg (rpktC P2).toArray] W' (fun e w'' => e = .returned (.string sx) ∧ Below N V7 w'') := fun W' h => (HMC.out W' (HA.out W' h).tb).mono (fun e w'' ⟨he, hb⟩ => ⟨he, HC.out W' h w'' hb⟩)
            clear hN
            refine wp_region_class (fun W' => Below N V7 W') (by kernel_rfl) (by kernel_rfl) (below_drewN hq 1) ?_
            with_reducible refine wpQuiet_step ?_
            intro K hK
            go_simp
            first | (refine hK _ ?_; clear hK K) | (refine ⟨_, fun w' hw' => rfl, hK _ ?_⟩; clear hK K)
            with_reducible refine wpQuiet_step ?_
            intro K hK
            go_simp
            first | (refine hK _ ?_; clear hK K) | (refine ⟨_, fun w' hw' => rfl, hK _ ?_⟩; clear hK K)
            with_reducible refine wpQuiet_step ?_
            intro K hK
            go_simp
            first | (refine hK _ ?_; clear hK K) | (refine ⟨_, fun w' hw' => rfl, hK _ ?_⟩; clear hK K)
            with_reducible refine wpQuiet_step ?_
            intro K hK
            refine quiet_val (.string ⟨(key).toArray⟩) (fun w' hw' => held_convR _ rfl (some ⟨g15, 0, none⟩) 32 32 rfl (key) (((HA.out w' hw').get 3 rfl).mid 0 32 (key) HCK.out HKl.out)) ?_ rfl
            go_simp
            refine hK _ ?_
            clear hK K
            with_reducible refine wpQuiet_step ?_
            intro K hK
            refine quiet_val (.agg (pktC P2).toArray) (fun w' hw' => held_loadf aggP _ rfl g12 rfl _ (pktC P2) ((HA.out w' hw').get 2 rfl) HL2.out) ?_ rfl
            go_simp
            refine hK _ ?_
            clear hK K
            with_reducible refine wpQuiet_step ?_
            intro K hK
            go_simp
            refine ⟨_, hqo, hK _ ?_⟩
            clear hK K
            with_reducible refine wpQuiet_step ?_
            intro K hK
            go_simp
            refine ⟨_, hqm, hK _ ?_⟩
            clear hK K
            with_reducible refine wpQuiet_step ?_
            intro K hK
            go_simp
            first | (refine hK _ ?_; clear hK K) | (refine ⟨_, fun w' hw' => rfl, hK _ ?_⟩; clear hK K)
            with_reducible refine wpQuiet_step ?_
            intro K hK
            go_simp
            first | (refine hK _ ?_; clear hK K) | (refine ⟨_, fun w' hw' => rfl, hK _ ?_⟩; clear hK K)
            with_reducible refine wpQuiet_step ?_
            intro K hK
            refine quiet_val (.string sy) (fun w' hw' => held_macS _ rfl g12 rfl P2 sy HSY.out ((HA.out w' hw').get 2 rfl) HCM.out HML.out) ?_ rfl
            go_simp
            refine hK _ ?_
            clear hK K
            with_reducible refine wpQuiet_step ?_
            intro K hK
            go_simp
            first | (refine hK _ ?_; clear hK K) | (refine ⟨_, fun w' hw' => rfl, hK _ ?_⟩; clear hK K)
            with_reducible refine wpQuiet_step ?_
            intro K hK
            go_simp
            first | (refine hK _ ?_; clear hK K) | (refine ⟨_, fun w' hw' => rfl, hK _ ?_⟩; clear hK K)
            refine wpQuiet_nil ?_
            clear hq
            intro wq hwq
            replace H := hide (HA.out wq hwq)
            clear HA HC hwq
            go_wp2_with fail
            replace H := hide (H.out.pre 3)
            go_roundw
            case rel => exact ⟨r + 1, by omega, by go_num, H.out⟩
            case measure => simp [intOf]; omega
        · have hq1 : (r : Int) < 2 := by omega
          have hq2 : decide ((r : Int) < 2) = true := decide_eq_true hq1
          have hq3 : (r : Int) = 1 := by omega
          have hq4 : decide ((r : Int) = 1) = true := decide_eq_true hq3
          have hq5 : ((r : Int) == 1) = true := beq_iff_eq.2 hq3
          clear hq3
          have HR0 := hide hr0
          clear hr0
          obtain ⟨p0, rfl, _⟩ := HR.out.at' H1M.out
          have HKK := hide ((HR.out.below H.out.bel).key H1M.out)
          obtain ⟨K0, hK0⟩ : ∃ K0, K0 = (hs.getD 0 hop0).key := ⟨_, rfl⟩
          have HK0l : Hid (K0.length = 32) := by show _ = _; rw [hK0]; exact (HOK.out _ (hop_mem (by rw [HLEN.out]; exact H1M.out))).key
          have HK0c := hide (cl HK0l.out)
          have HKK : Hid (∀ W, Below w.heap.size w W → ∀ q u, (cellsB K0)[q]? = some u → W.cell? (((p0.add (0 * 54)).add 2).add q) = some u) := fun W hb => by rw [hK0]; exact (HR.out.below hb).key H1M.out
          clear hK0
          by_cases heq : macO K0 P2 = P2.mac
          · have HP1 := hide (HPE.out K0 HK0l.out P2 HO2.out)
            have hiff := peelE_four K0 P2
            have HS1 := hide (slotC_length (peelS K0 P2) (peelS_ok K0 HO2.out).nonce (peelS_ok K0 HO2.out).mac)
            have HQ1 := hide (pktC_length (peelP_ok K0 HO2.out))
            have HOF := hide (HPOF.out P2 HO2.out)
            have HMC := hide (HPMC.out K0 HK0l.out P2 HO2.out)
            have HCK : Hid (((cellsB K0).drop 0).take 32 = cellsB K0) := by show _ = _; rw [List.drop_zero, List.take_of_length_le (by rw [HK0c.out]; exact Nat.le_refl _)]
            have HCM := hide (pktC_mac HO2.out)
            have HML := hide HO2.out.mac
            generalize peelE K0 P2 = E at *
            generalize peelS K0 P2 = S0 at *
            generalize peelP K0 P2 = Q0 at *
            obtain ⟨sx, hsx⟩ : ∃ s : ByteArray, s = ⟨(macO K0 P2).toArray⟩ := ⟨_, rfl⟩
            obtain ⟨sy, hsy⟩ : ∃ s : ByteArray, s = ⟨P2.mac.toArray⟩ := ⟨_, rfl⟩
            have HSY := hide hsy
            rw [← hsx] at HMC
            have hE : ¬ E = 4 := by rw [hiff]; exact fun h => h heq
            have hE2 : (E == 4) = false := beq_eq_false_iff_ne.2 hE
            have hE3 : decide (E = 4) = false := decide_eq_false hE
            have hxy : sx = sy := by rw [hsx, hsy, heq]
            subst hxy
            clear hsx hsy hiff heq
            go_wp2_with (first
              | (with_reducible refine at_op (op := ⟨some 98, _, _, _, _, _⟩) ?_; refine wpl_held (op := ⟨some 98, _, _, _, _, _⟩) (.agg (cellsB key).toArray) (held_loadf aggK _ rfl g7 rfl _ (cellsB key) (H.out.get 1 rfl) HKc.out) rfl ?_)
              | (with_reducible refine at_op (op := ⟨some 15, _, _, _, _, _⟩) ?_; (with_reducible refine wpl_alloca (op := ⟨some 15, _, _, _, _, _⟩) rfl _ rfl _ zeroK ?_); intro g15 V15 hB1 hg1 hF1; go_simp; (with_reducible refine wpl_storea aggK rfl (.tmp 15) (.tmp 98) rfl g15 (cellsB key) rfl rfl _ _ hB1 HKc.out zl_K (cellsB_one _) ?_); intro V1 hB2 hF2; replace H := hide (H.out.var hg1 hF1 hF2 hB2); clear hB1 hg1 hF1 hB2 hF2)
              | (with_reducible refine at_op (op := ⟨some 104, _, _, _, _, _⟩) ?_; refine wpl_held (op := ⟨some 104, _, _, _, _, _⟩) (.agg (cellsB K0).toArray) (held_loadC aggK _ rfl ((p0.add (0 * 54)).add 2) rfl (cellsB K0) HK0c.out (HKK.out _ H.out.bel)) rfl ?_)
              | (with_reducible refine at_op (op := ⟨none, .store _ (.tmp 15) (.tmp 104), _, _, _, _⟩) ?_; (with_reducible refine wpl_storea aggK rfl (.tmp 15) (.tmp 104) rfl g15 (cellsB K0) rfl rfl _ _ (H.out.get 3 rfl) HK0c.out (cls HKl.out) (cellsB_one _) ?_); intro V2 hB1 hF1; replace H := hide (H.out.store 3 rfl hF1 hB1); clear hB1 hF1)
              | (with_reducible refine at_op (op := ⟨some 106, _, _, _, _, _⟩) ?_; refine wpl_held (op := ⟨some 106, _, _, _, _, _⟩) (.agg (cellsB K0).toArray) (held_loadf aggK _ rfl g15 rfl _ (cellsB K0) (H.out.get 3 rfl) HK0c.out) rfl ?_)
              | (with_reducible refine at_op (op := ⟨some 107, _, _, _, _, _⟩) ?_; refine wpl_held (op := ⟨some 107, _, _, _, _, _⟩) (.agg (pktC P2).toArray) (held_loadf aggP _ rfl g12 rfl _ (pktC P2) (H.out.get 2 rfl) HL2.out) rfl ?_)
              | (go_at_call 10; with_reducible refine (HP1.out _ H.out.tb).mono ?_; rintro e V3 ⟨rfl, hbc⟩; replace H := hide (H.out.call hbc); clear hbc)
              | (with_reducible refine at_op (op := ⟨some 16, _, _, _, _, _⟩) ?_; (with_reducible refine wpl_alloca (op := ⟨some 16, _, _, _, _, _⟩) rfl _ rfl _ zeroS ?_); intro g16 V4 hB1 hg1 hF1; replace H := hide (H.out.box hg1 hF1 hB1); clear hB1 hg1 hF1)
              | (with_reducible refine at_op (op := ⟨some 17, _, _, _, _, _⟩) ?_; (with_reducible refine wpl_alloca (op := ⟨some 17, _, _, _, _, _⟩) rfl _ rfl _ zeroP ?_); intro g17 V5 hB1 hg1 hF1; replace H := hide (H.out.box hg1 hF1 hB1); clear hB1 hg1 hF1)
              | (with_reducible refine at_op (op := ⟨none, .store _ (.tmp 16) (.tmp 109), _, _, _, _⟩) ?_; (with_reducible refine wpl_storea aggS rfl (.tmp 16) (.tmp 109) rfl g16 (slotC S0) rfl rfl _ _ (H.out.get 4 rfl) HS1.out (slot0_len) (slotC_one _) ?_); intro V6 hB1 hF1; replace H := hide (H.out.store 4 rfl hF1 hB1); clear hB1 hF1)
              | (with_reducible refine at_op (op := ⟨none, .store _ (.tmp 17) (.tmp 110), _, _, _, _⟩) ?_; (with_reducible refine wpl_storea aggP rfl (.tmp 17) (.tmp 110) rfl g17 (pktC Q0) rfl rfl _ _ (H.out.get 5 rfl) HQ1.out (pkt0_len) (pktC_one _) ?_); intro V7 hB1 hF1; replace H := hide (H.out.store 5 rfl hF1 hB1); clear hB1 hF1))
            obtain ⟨N, hN⟩ : ∃ N, N = V7.heap.size := ⟨_, rfl⟩
            have hq : Below N V7 V7 := hN ▸ Below.refl _ _
            have HA := hide (fun W' (h : Below N V7 W') => H.out.call (hN ▸ h))
            have HC := hide (fun W' (h : Below N V7 W') W'' (k : Below W'.heap.size W' W'') => h.trans (k.mono (by rw [hN]; exact h.size)))
            have hqo : ∀ W', Below N V7 W' → Calls Tryd.prog 12 #[.agg (pktC P2).toArray] W' (fun e w'' => e = .returned (.agg (rpktC P2).toArray) ∧ Below N V7 w'') := fun W' h => (HOF.out W' (HA.out W' h).tb).mono (fun e w'' ⟨he, hb⟩ => ⟨he, HC.out W' h w'' hb⟩)
            have hqm : ∀ W', Below N V7 W' → Calls Tryd.prog 11 #[.string ⟨(K0).toArray⟩, .agg (rpktC P2).toArray] W' (fun e w'' => e = .returned (.string sx) ∧ Below N V7 w'') := fun W' h => (HMC.out W' (HA.out W' h).tb).mono (fun e w'' ⟨he, hb⟩ => ⟨he, HC.out W' h w'' hb⟩)
            clear hN
            refine wp_region_class (fun W' => Below N V7 W') (by kernel_rfl) (by kernel_rfl) (below_drewN hq 1) ?_
            with_reducible refine wpQuiet_step ?_
            intro K hK
            go_simp
            first | (refine hK _ ?_; clear hK K) | (refine ⟨_, fun w' hw' => rfl, hK _ ?_⟩; clear hK K)
            with_reducible refine wpQuiet_step ?_
            intro K hK
            go_simp
            first | (refine hK _ ?_; clear hK K) | (refine ⟨_, fun w' hw' => rfl, hK _ ?_⟩; clear hK K)
            with_reducible refine wpQuiet_step ?_
            intro K hK
            go_simp
            first | (refine hK _ ?_; clear hK K) | (refine ⟨_, fun w' hw' => rfl, hK _ ?_⟩; clear hK K)
            with_reducible refine wpQuiet_step ?_
            intro K hK
            refine quiet_val (.string ⟨(K0).toArray⟩) (fun w' hw' => held_convR _ rfl (some ⟨g15, 0, none⟩) 32 32 rfl (K0) (((HA.out w' hw').get 3 rfl).mid 0 32 (K0) HCK.out HK0l.out)) ?_ rfl
            go_simp
            refine hK _ ?_
            clear hK K
            with_reducible refine wpQuiet_step ?_
            intro K hK
            refine quiet_val (.agg (pktC P2).toArray) (fun w' hw' => held_loadf aggP _ rfl g12 rfl _ (pktC P2) ((HA.out w' hw').get 2 rfl) HL2.out) ?_ rfl
            go_simp
            refine hK _ ?_
            clear hK K
            with_reducible refine wpQuiet_step ?_
            intro K hK
            go_simp
            refine ⟨_, hqo, hK _ ?_⟩
            clear hK K
            with_reducible refine wpQuiet_step ?_
            intro K hK
            go_simp
            refine ⟨_, hqm, hK _ ?_⟩
            clear hK K
            with_reducible refine wpQuiet_step ?_
            intro K hK
            go_simp
            first | (refine hK _ ?_; clear hK K) | (refine ⟨_, fun w' hw' => rfl, hK _ ?_⟩; clear hK K)
            with_reducible refine wpQuiet_step ?_
            intro K hK
            go_simp
            first | (refine hK _ ?_; clear hK K) | (refine ⟨_, fun w' hw' => rfl, hK _ ?_⟩; clear hK K)
            with_reducible refine wpQuiet_step ?_
            intro K hK
            refine quiet_val (.string sx) (fun w' hw' => held_macS _ rfl g12 rfl P2 sx HSY.out ((HA.out w' hw').get 2 rfl) HCM.out HML.out) ?_ rfl
            go_simp
            refine hK _ ?_
            clear hK K
            with_reducible refine wpQuiet_step ?_
            intro K hK
            go_simp
            first | (refine hK _ ?_; clear hK K) | (refine ⟨_, fun w' hw' => rfl, hK _ ?_⟩; clear hK K)
            with_reducible refine wpQuiet_step ?_
            intro K hK
            go_simp
            first | (refine hK _ ?_; clear hK K) | (refine ⟨_, fun w' hw' => rfl, hK _ ?_⟩; clear hK K)
            refine wpQuiet_nil ?_
            clear hq
            intro wq hwq
            replace H := hide (HA.out wq hwq)
            clear HA HC hwq
            go_wp2_with fail
            replace H := hide (H.out.pre 3)
            go_roundw
            case rel => exact ⟨r + 1, by omega, by go_num, H.out⟩
            case measure => simp [intOf]; omega
          · have HP1 := hide (HPE.out K0 HK0l.out P2 HO2.out)
            have hiff := peelE_four K0 P2
            have HS1 := hide (slotC_length (peelS K0 P2) (peelS_ok K0 HO2.out).nonce (peelS_ok K0 HO2.out).mac)
            have HQ1 := hide (pktC_length (peelP_ok K0 HO2.out))
            have HOF := hide (HPOF.out P2 HO2.out)
            have HMC := hide (HPMC.out K0 HK0l.out P2 HO2.out)
            have HCK : Hid (((cellsB K0).drop 0).take 32 = cellsB K0) := by show _ = _; rw [List.drop_zero, List.take_of_length_le (by rw [HK0c.out]; exact Nat.le_refl _)]
            have HCM := hide (pktC_mac HO2.out)
            have HML := hide HO2.out.mac
            generalize peelE K0 P2 = E at *
            generalize peelS K0 P2 = S0 at *
            generalize peelP K0 P2 = Q0 at *
            obtain ⟨sx, hsx⟩ : ∃ s : ByteArray, s = ⟨(macO K0 P2).toArray⟩ := ⟨_, rfl⟩
            obtain ⟨sy, hsy⟩ : ∃ s : ByteArray, s = ⟨P2.mac.toArray⟩ := ⟨_, rfl⟩
            have HSY := hide hsy
            rw [← hsx] at HMC
            have hE : E = 4 := hiff.2 heq
            have hxy : ¬ sx = sy := fun h => heq (by
              have h2 : (⟨(macO K0 P2).toArray⟩ : ByteArray) = ⟨P2.mac.toArray⟩ := by rw [← hsx, ← hsy, h]
              have h3 := congrArg (fun s : ByteArray => s.data.toList) h2
              simpa using h3)
            have hxy2 : (sx.toList == sy.toList) = false := by rw [hsx, hsy, txt_eqM]; exact beq_eq_false_iff_ne.2 heq
            have hxy3 : decide (sx = sy) = false := decide_eq_false hxy
            subst hE
            clear hsx hsy hiff heq
            go_wp2_with (first
              | (with_reducible refine at_op (op := ⟨some 98, _, _, _, _, _⟩) ?_; refine wpl_held (op := ⟨some 98, _, _, _, _, _⟩) (.agg (cellsB key).toArray) (held_loadf aggK _ rfl g7 rfl _ (cellsB key) (H.out.get 1 rfl) HKc.out) rfl ?_)
              | (with_reducible refine at_op (op := ⟨some 15, _, _, _, _, _⟩) ?_; (with_reducible refine wpl_alloca (op := ⟨some 15, _, _, _, _, _⟩) rfl _ rfl _ zeroK ?_); intro g15 V15 hB1 hg1 hF1; go_simp; (with_reducible refine wpl_storea aggK rfl (.tmp 15) (.tmp 98) rfl g15 (cellsB key) rfl rfl _ _ hB1 HKc.out zl_K (cellsB_one _) ?_); intro V1 hB2 hF2; replace H := hide (H.out.var hg1 hF1 hF2 hB2); clear hB1 hg1 hF1 hB2 hF2)
              | (with_reducible refine at_op (op := ⟨some 104, _, _, _, _, _⟩) ?_; refine wpl_held (op := ⟨some 104, _, _, _, _, _⟩) (.agg (cellsB K0).toArray) (held_loadC aggK _ rfl ((p0.add (0 * 54)).add 2) rfl (cellsB K0) HK0c.out (HKK.out _ H.out.bel)) rfl ?_)
              | (with_reducible refine at_op (op := ⟨none, .store _ (.tmp 15) (.tmp 104), _, _, _, _⟩) ?_; (with_reducible refine wpl_storea aggK rfl (.tmp 15) (.tmp 104) rfl g15 (cellsB K0) rfl rfl _ _ (H.out.get 3 rfl) HK0c.out (cls HKl.out) (cellsB_one _) ?_); intro V2 hB1 hF1; replace H := hide (H.out.store 3 rfl hF1 hB1); clear hB1 hF1)
              | (with_reducible refine at_op (op := ⟨some 106, _, _, _, _, _⟩) ?_; refine wpl_held (op := ⟨some 106, _, _, _, _, _⟩) (.agg (cellsB K0).toArray) (held_loadf aggK _ rfl g15 rfl _ (cellsB K0) (H.out.get 3 rfl) HK0c.out) rfl ?_)
              | (with_reducible refine at_op (op := ⟨some 107, _, _, _, _, _⟩) ?_; refine wpl_held (op := ⟨some 107, _, _, _, _, _⟩) (.agg (pktC P2).toArray) (held_loadf aggP _ rfl g12 rfl _ (pktC P2) (H.out.get 2 rfl) HL2.out) rfl ?_)
              | (go_at_call 10; with_reducible refine (HP1.out _ H.out.tb).mono ?_; rintro e V3 ⟨rfl, hbc⟩; replace H := hide (H.out.call hbc); clear hbc)
              | (with_reducible refine at_op (op := ⟨some 16, _, _, _, _, _⟩) ?_; (with_reducible refine wpl_alloca (op := ⟨some 16, _, _, _, _, _⟩) rfl _ rfl _ zeroS ?_); intro g16 V4 hB1 hg1 hF1; replace H := hide (H.out.box hg1 hF1 hB1); clear hB1 hg1 hF1)
              | (with_reducible refine at_op (op := ⟨some 17, _, _, _, _, _⟩) ?_; (with_reducible refine wpl_alloca (op := ⟨some 17, _, _, _, _, _⟩) rfl _ rfl _ zeroP ?_); intro g17 V5 hB1 hg1 hF1; replace H := hide (H.out.box hg1 hF1 hB1); clear hB1 hg1 hF1)
              | (with_reducible refine at_op (op := ⟨none, .store _ (.tmp 16) (.tmp 109), _, _, _, _⟩) ?_; (with_reducible refine wpl_storea aggS rfl (.tmp 16) (.tmp 109) rfl g16 (slotC S0) rfl rfl _ _ (H.out.get 4 rfl) HS1.out (slot0_len) (slotC_one _) ?_); intro V6 hB1 hF1; replace H := hide (H.out.store 4 rfl hF1 hB1); clear hB1 hF1)
              | (with_reducible refine at_op (op := ⟨none, .store _ (.tmp 17) (.tmp 110), _, _, _, _⟩) ?_; (with_reducible refine wpl_storea aggP rfl (.tmp 17) (.tmp 110) rfl g17 (pktC Q0) rfl rfl _ _ (H.out.get 5 rfl) HQ1.out (pkt0_len) (pktC_one _) ?_); intro V7 hB1 hF1; replace H := hide (H.out.store 5 rfl hF1 hB1); clear hB1 hF1))
            obtain ⟨N, hN⟩ : ∃ N, N = V7.heap.size := ⟨_, rfl⟩
            have hq : Below N V7 V7 := hN ▸ Below.refl _ _
            have HA := hide (fun W' (h : Below N V7 W') => H.out.call (hN ▸ h))
            have HC := hide (fun W' (h : Below N V7 W') W'' (k : Below W'.heap.size W' W'') => h.trans (k.mono (by rw [hN]; exact h.size)))
            have hqo : ∀ W', Below N V7 W' → Calls Tryd.prog 12 #[.agg (pktC P2).toArray] W' (fun e w'' => e = .returned (.agg (rpktC P2).toArray) ∧ Below N V7 w'') := fun W' h => (HOF.out W' (HA.out W' h).tb).mono (fun e w'' ⟨he, hb⟩ => ⟨he, HC.out W' h w'' hb⟩)
            have hqm : ∀ W', Below N V7 W' → Calls Tryd.prog 11 #[.string ⟨(K0).toArray⟩, .agg (rpktC P2).toArray] W' (fun e w'' => e = .returned (.string sx) ∧ Below N V7 w'') := fun W' h => (HMC.out W' (HA.out W' h).tb).mono (fun e w'' ⟨he, hb⟩ => ⟨he, HC.out W' h w'' hb⟩)
            clear hN
            refine wp_region_class (fun W' => Below N V7 W') (by kernel_rfl) (by kernel_rfl) (below_drewN hq 1) ?_
            with_reducible refine wpQuiet_step ?_
            intro K hK
            go_simp
            first | (refine hK _ ?_; clear hK K) | (refine ⟨_, fun w' hw' => rfl, hK _ ?_⟩; clear hK K)
            with_reducible refine wpQuiet_step ?_
            intro K hK
            go_simp
            first | (refine hK _ ?_; clear hK K) | (refine ⟨_, fun w' hw' => rfl, hK _ ?_⟩; clear hK K)
            with_reducible refine wpQuiet_step ?_
            intro K hK
            go_simp
            first | (refine hK _ ?_; clear hK K) | (refine ⟨_, fun w' hw' => rfl, hK _ ?_⟩; clear hK K)
            with_reducible refine wpQuiet_step ?_
            intro K hK
            refine quiet_val (.string ⟨(K0).toArray⟩) (fun w' hw' => held_convR _ rfl (some ⟨g15, 0, none⟩) 32 32 rfl (K0) (((HA.out w' hw').get 3 rfl).mid 0 32 (K0) HCK.out HK0l.out)) ?_ rfl
            go_simp
            refine hK _ ?_
            clear hK K
            with_reducible refine wpQuiet_step ?_
            intro K hK
            refine quiet_val (.agg (pktC P2).toArray) (fun w' hw' => held_loadf aggP _ rfl g12 rfl _ (pktC P2) ((HA.out w' hw').get 2 rfl) HL2.out) ?_ rfl
            go_simp
            refine hK _ ?_
            clear hK K
            with_reducible refine wpQuiet_step ?_
            intro K hK
            go_simp
            refine ⟨_, hqo, hK _ ?_⟩
            clear hK K
            with_reducible refine wpQuiet_step ?_
            intro K hK
            go_simp
            refine ⟨_, hqm, hK _ ?_⟩
            clear hK K
            with_reducible refine wpQuiet_step ?_
            intro K hK
            go_simp
            first | (refine hK _ ?_; clear hK K) | (refine ⟨_, fun w' hw' => rfl, hK _ ?_⟩; clear hK K)
            with_reducible refine wpQuiet_step ?_
            intro K hK
            go_simp
            first | (refine hK _ ?_; clear hK K) | (refine ⟨_, fun w' hw' => rfl, hK _ ?_⟩; clear hK K)
            with_reducible refine wpQuiet_step ?_
            intro K hK
            refine quiet_val (.string sy) (fun w' hw' => held_macS _ rfl g12 rfl P2 sy HSY.out ((HA.out w' hw').get 2 rfl) HCM.out HML.out) ?_ rfl
            go_simp
            refine hK _ ?_
            clear hK K
            with_reducible refine wpQuiet_step ?_
            intro K hK
            go_simp
            first | (refine hK _ ?_; clear hK K) | (refine ⟨_, fun w' hw' => rfl, hK _ ?_⟩; clear hK K)
            with_reducible refine wpQuiet_step ?_
            intro K hK
            go_simp
            first | (refine hK _ ?_; clear hK K) | (refine ⟨_, fun w' hw' => rfl, hK _ ?_⟩; clear hK K)
            refine wpQuiet_nil ?_
            clear hq
            intro wq hwq
            replace H := hide (HA.out wq hwq)
            clear HA HC hwq
            go_wp2_with fail
            replace H := hide (H.out.pre 3)
            go_roundw
            case rel => exact ⟨r + 1, by omega, by go_num, H.out⟩
            case measure => simp [intOf]; omega
        · have hq1 : ¬ (r : Int) < 2 := by omega
          have hq2 : decide ((r : Int) < 2) = false := decide_eq_false hq1
          have HR0 := hide hr0
          clear hr0
          go_wp2_with fail
          go_ret
          exact ⟨rfl, H.out.bel⟩
    · have hk : Hid (a % 65536 % 608 = 16 + (j : Int)) := by show _ = _; rw [hk0]; push_cast; rfl
      obtain ⟨m0, hm0⟩ : ∃ b : UInt8, b = P.nonce.getD j 0 := ⟨_, rfl⟩
      obtain ⟨m1, hm1⟩ : ∃ y : UInt8, y = m0 ^^^ b := ⟨_, rfl⟩
      have hxor : bits .xor .u8 (m0.toNat : Int) (b.toNat : Int) = (m1.toNat : Int) := by rw [hm1]; exact byte_xor m0 b
      obtain ⟨P2, hP2⟩ : ∃ q : Pkt, q = { P with nonce := P.nonce.set j m1 } := ⟨_, rfl⟩
      have HO2 : Hid (P2.ok) := by
        have hl : (P.nonce.set j m1).length = 16 := by rw [List.length_set]; exact HPO.out.nonce
        show P2.ok
        rw [hP2]
        exact ⟨HPO.out.who, HPO.out.epoch, hl, HPO.out.mac, HPO.out.head, HPO.out.body⟩
      have HL2 := hide (pktC_length HO2.out)
      have HG : Hid ((pktC P)[2 + j]? = some (.int .u8 (m0.toNat : Int))) := by show _ = _; rw [hm0]; exact pktC_getN HPO.out j hj
      have HST : Hid ((pktC P).set (2 + j) (.int .u8 (m1.toNat : Int)) = pktC P2) := by show _ = _; rw [hP2]; exact pktC_setN HPO.out j _ hj
      have hl16 : ¬ (16 + (j : Int)) < 16 := by omega
      have hd16 : decide ((16 + (j : Int)) < 16) = false := decide_eq_false hl16
      have hl32 : (16 + (j : Int)) < 32 := by omega
      have hd32 : decide ((16 + (j : Int)) < 32) = true := decide_eq_true hl32
      have hl352 : (16 + (j : Int)) < 352 := by omega
      have hd352 : decide ((16 + (j : Int)) < 352) = true := decide_eq_true hl352
      have hji : 0 ≤ (j : Int) ∧ (j : Int) < 16 := by omega
      have hjn : (j : Int) < 16 := hji.2
      have hs1 : 16 + (j : Int) - 16 = (j : Int) := by omega
      have hw1 : IntKind.i64.wrap (16 + (j : Int) - 16) = (j : Int) := by rw [IntKind.wrap_i64] <;> omega
      have HJ := hide hj
      clear hm0 hm1 hP2 hk0 hk6 hpo hj hab
      go_enter Tryd.func4, Tryd.ntmps4
      go_wp2_with (first
        | (with_reducible refine at_op (op := ⟨some 6, _, _, _, _, _⟩) ?_; (refine wpl_boxa (op := ⟨some 6, _, _, _, _, _⟩) rfl _ _ rfl (cellsB x) rfl ?_); intro g6 W6 hB1 hg1 hF1; replace H := hide (H.out.box hg1 hF1 hB1); clear hB1 hg1 hF1)
        | (with_reducible refine at_op (op := ⟨some 7, _, _, _, _, _⟩) ?_; (refine wpl_boxa (op := ⟨some 7, _, _, _, _, _⟩) rfl _ _ rfl (cellsB key) rfl ?_); intro g7 W7 hB1 hg1 hF1; replace H := hide (H.out.box hg1 hF1 hB1); clear hB1 hg1 hF1)
        | (go_at_call 8; with_reducible refine (HSH.out _ H.out.tb).mono ?_; rintro e W8 ⟨rfl, hbc⟩; replace H := hide (H.out.call hbc); clear hbc))
      apply merge1 (R := fun a12 W => OAt w [(g6, 24, cellsB x), (g7, 29, cellsB key), (a12, 39, pktC P)] W)
      · intro hend
        obtain ⟨U1, hU1⟩ : ∃ U1, U1 = W8.drew := ⟨_, rfl⟩
        refine wp_region_held_drew (S := fun W' => Blk W' g6 24 (cellsB x).toArray) (by kernel_rfl) (by rw [← hU1]; replace H := hide (by rw [hU1]; exact H.out.drew : OAt w _ U1); exact H.out.get 0 rfl) ?_
        intro hHeld
        replace H := hide (by rw [hU1]; exact H.out.drew : OAt w _ U1)
        rw [← hU1] at hHeld ⊢
        clear hU1
        refine wpAnyH_take (i := 0) (v := ?v29) rfl (by kernel_rfl) (by kernel_rfl) (by kernel_rfl) (fun _ _ _ h => h) (Or.inl ⟨by rfl, ?hy29⟩) (by assumption) ?rest29
        case hy29 => (intro w hSw; (try go_simp); try with_reducible rfl)
        try simp only [Act.put, List.getElem_toArray, List.getElem_cons_zero, List.getElem_cons_succ, List.setIfInBounds_toArray, List.set_cons_zero, List.set_cons_succ]
        refine wpAnyH_take (i := 1) (v := ?v30) rfl (by kernel_rfl) (by kernel_rfl) (by kernel_rfl) (fun _ _ _ h => h) (Or.inl ⟨by rfl, ?hy30⟩) (by assumption) ?rest30
        case hy30 => (intro w hSw; (try go_simp); try with_reducible rfl)
        try simp only [Act.put, List.getElem_toArray, List.getElem_cons_zero, List.getElem_cons_succ, List.setIfInBounds_toArray, List.set_cons_zero, List.set_cons_succ]
        refine wpAnyH_take (i := 2) (v := ?v31) rfl (by kernel_rfl) (by kernel_rfl) (by kernel_rfl) (fun _ _ _ h => h) (Or.inl ⟨by rfl, ?hy31⟩) (by assumption) ?rest31
        case hy31 => (intro w hSw; (try go_simp); try with_reducible rfl)
        try simp only [Act.put, List.getElem_toArray, List.getElem_cons_zero, List.getElem_cons_succ, List.setIfInBounds_toArray, List.set_cons_zero, List.set_cons_succ]
        refine wpAnyH_take (i := 3) (v := ?v32) rfl (by kernel_rfl) (by kernel_rfl) (by kernel_rfl) (fun _ _ _ h => h) (Or.inl ⟨by rfl, ?hy32⟩) (by assumption) ?rest32
        case hy32 => (intro w hSw; refine held_min (.tmp 23) (.const (.int .i64 5)) 3 3 ?_ (n : Int) 5 (m : Int) ?_ ?_ HM.out <;> rfl)
        try simp only [Act.put, List.getElem_toArray, List.getElem_cons_zero, List.getElem_cons_succ, List.setIfInBounds_toArray, List.set_cons_zero, List.set_cons_succ]
        refine wpAnyH_take (i := 4) (v := ?v33) rfl (by kernel_rfl) (by kernel_rfl) (by kernel_rfl) (fun _ _ _ h => h) (Or.inl ⟨by rfl, ?hy33⟩) (by assumption) ?rest33
        case hy33 => (intro w hSw; (try go_simp); try with_reducible rfl)
        try simp only [Act.put, List.getElem_toArray, List.getElem_cons_zero, List.getElem_cons_succ, List.setIfInBounds_toArray, List.set_cons_zero, List.set_cons_succ]
        refine wpAnyH_take (i := 5) (v := ?v34) rfl (by kernel_rfl) (by kernel_rfl) (by kernel_rfl) (fun _ _ _ h => h) (Or.inl ⟨by rfl, ?hy34⟩) (by assumption) ?rest34
        case hy34 => (intro w hSw; refine held_loadf agg256 (.tmp 6) ?_ g6 ?_ _ (cellsB x) hSw HXc.out <;> rfl)
        try simp only [Act.put, List.getElem_toArray, List.getElem_cons_zero, List.getElem_cons_succ, List.setIfInBounds_toArray, List.set_cons_zero, List.set_cons_succ]
        refine wpAnyH_ready (rs := [6, 10]) (by kernel_rfl) (by simp) ?_
        refine AllReadyH.cons rfl (fun K hK => ?_) ?_
        · go_simp
          refine (HB.out _ H.out.tb (HR.out.below H.out.bel)).mono ?_
          rintro e V1 ⟨rfl, hbc⟩
          replace H := hide (H.out.call hbc)
          clear hbc
          refine hK.out _ _ (H.out.get 0 rfl) (fun hHeld => ?_)
          clear hK K
          refine wpAnyH_take (i := 7) (v := ?v35) rfl (by kernel_rfl) (by kernel_rfl) (by kernel_rfl) (fun _ _ _ h => h) (Or.inl ⟨by rfl, ?hy35⟩) (by assumption) ?rest35
          case hy35 => (intro w hSw; (try go_simp); try with_reducible rfl)
          try simp only [Act.put, List.getElem_toArray, List.getElem_cons_zero, List.getElem_cons_succ, List.setIfInBounds_toArray, List.set_cons_zero, List.set_cons_succ]
          refine wpAnyH_take (i := 8) (v := ?v36) rfl (by kernel_rfl) (by kernel_rfl) (by kernel_rfl) (fun _ _ _ h => h) (Or.inl ⟨by rfl, ?hy36⟩) (by assumption) ?rest36
          case hy36 => (intro w hSw; (try go_simp); try with_reducible rfl)
          try simp only [Act.put, List.getElem_toArray, List.getElem_cons_zero, List.getElem_cons_succ, List.setIfInBounds_toArray, List.set_cons_zero, List.set_cons_succ]
          refine wpAnyH_take (i := 9) (v := ?v37) rfl (by kernel_rfl) (by kernel_rfl) (by kernel_rfl) (fun _ _ _ h => h) (Or.inl ⟨by rfl, ?hy37⟩) (by assumption) ?rest37
          case hy37 => (intro w hSw; (try go_simp); try with_reducible rfl)
          try simp only [Act.put, List.getElem_toArray, List.getElem_cons_zero, List.getElem_cons_succ, List.setIfInBounds_toArray, List.set_cons_zero, List.set_cons_succ]
          refine wpAnyH_ready (rs := [10]) (by kernel_rfl) (by simp) ?_
          refine AllReadyH.cons rfl (fun K hK => ?_) AllReadyH.nil
          refine step_alloca rfl _ rfl _ zeroP ?_
          intro g12 V2 hB8 hs8 hF8
          replace H := hide (H.out.box hs8 hF8 hB8)
          clear hB8 hs8 hF8
          refine hK.out _ _ (H.out.get 0 rfl) (fun hHeld => ?_)
          clear hK K
          refine wpAnyH_ready (rs := [11]) (by kernel_rfl) (by simp) ?_
          refine AllReadyH.cons rfl (fun K hK => ?_) AllReadyH.nil
          refine step_storem aggP rfl (.tmp 12) (.tmp 28) rfl g12 0 (pktC P) _ (pktC P) rfl rfl _ (H.out.get 2 rfl) HLP.out (Nat.le_of_eq (by rw [Nat.zero_add]; exact pkt0_c.symm)) (splice_all _ _ (by rw [HLP.out]; exact pkt0_c)) (pktC_one _) ?_
          intro V3 hB8 hF8
          replace H := hide (H.out.store 2 rfl hF8 hB8)
          clear hB8 hF8
          refine hK.out _ _ (H.out.get 0 rfl) (fun hHeld => ?_)
          clear hK K
          refine wpAnyH_take (i := 12) (v := ?v38) rfl (by kernel_rfl) (by kernel_rfl) (by kernel_rfl) (fun _ _ _ h => h) (Or.inl ⟨by rfl, ?hy38⟩) (by assumption) ?rest38
          case hy38 => (intro w hSw; (try go_simp); try with_reducible rfl)
          try simp only [Act.put, List.getElem_toArray, List.getElem_cons_zero, List.getElem_cons_succ, List.setIfInBounds_toArray, List.set_cons_zero, List.set_cons_succ]
          refine wpAnyH_done (by kernel_rfl) ?_ _
          clear hHeld
          exact hend.out g12 _ (H.out)
        refine AllReadyH.cons rfl (fun K hK => ?_) AllReadyH.nil
        refine step_alloca rfl _ rfl _ zeroP ?_
        intro g12 V4 hB8 hs8 hF8
        replace H := hide (H.out.box hs8 hF8 hB8)
        clear hB8 hs8 hF8
        refine hK.out _ _ (H.out.get 0 rfl) (fun hHeld => ?_)
        clear hK K
        refine wpAnyH_ready (rs := [6]) (by kernel_rfl) (by simp) ?_
        refine AllReadyH.cons rfl (fun K hK => ?_) AllReadyH.nil
        go_simp
        refine (HB.out _ H.out.tb (HR.out.below H.out.bel)).mono ?_
        rintro e V5 ⟨rfl, hbc⟩
        replace H := hide (H.out.call hbc)
        clear hbc
        refine hK.out _ _ (H.out.get 0 rfl) (fun hHeld => ?_)
        clear hK K
        refine wpAnyH_take (i := 7) (v := ?v39) rfl (by kernel_rfl) (by kernel_rfl) (by kernel_rfl) (fun _ _ _ h => h) (Or.inl ⟨by rfl, ?hy39⟩) (by assumption) ?rest39
        case hy39 => (intro w hSw; (try go_simp); try with_reducible rfl)
        try simp only [Act.put, List.getElem_toArray, List.getElem_cons_zero, List.getElem_cons_succ, List.setIfInBounds_toArray, List.set_cons_zero, List.set_cons_succ]
        refine wpAnyH_take (i := 8) (v := ?v40) rfl (by kernel_rfl) (by kernel_rfl) (by kernel_rfl) (fun _ _ _ h => h) (Or.inl ⟨by rfl, ?hy40⟩) (by assumption) ?rest40
        case hy40 => (intro w hSw; (try go_simp); try with_reducible rfl)
        try simp only [Act.put, List.getElem_toArray, List.getElem_cons_zero, List.getElem_cons_succ, List.setIfInBounds_toArray, List.set_cons_zero, List.set_cons_succ]
        refine wpAnyH_take (i := 9) (v := ?v41) rfl (by kernel_rfl) (by kernel_rfl) (by kernel_rfl) (fun _ _ _ h => h) (Or.inl ⟨by rfl, ?hy41⟩) (by assumption) ?rest41
        case hy41 => (intro w hSw; (try go_simp); try with_reducible rfl)
        try simp only [Act.put, List.getElem_toArray, List.getElem_cons_zero, List.getElem_cons_succ, List.setIfInBounds_toArray, List.set_cons_zero, List.set_cons_succ]
        refine wpAnyH_ready (rs := [11]) (by kernel_rfl) (by simp) ?_
        refine AllReadyH.cons rfl (fun K hK => ?_) AllReadyH.nil
        refine step_storem aggP rfl (.tmp 12) (.tmp 28) rfl g12 0 (pktC P) _ (pktC P) rfl rfl _ (H.out.get 2 rfl) HLP.out (Nat.le_of_eq (by rw [Nat.zero_add]; exact pkt0_c.symm)) (splice_all _ _ (by rw [HLP.out]; exact pkt0_c)) (pktC_one _) ?_
        intro V6 hB8 hF8
        replace H := hide (H.out.store 2 rfl hF8 hB8)
        clear hB8 hF8
        refine hK.out _ _ (H.out.get 0 rfl) (fun hHeld => ?_)
        clear hK K
        refine wpAnyH_take (i := 12) (v := ?v42) rfl (by kernel_rfl) (by kernel_rfl) (by kernel_rfl) (fun _ _ _ h => h) (Or.inl ⟨by rfl, ?hy42⟩) (by assumption) ?rest42
        case hy42 => (intro w hSw; (try go_simp); try with_reducible rfl)
        try simp only [Act.put, List.getElem_toArray, List.getElem_cons_zero, List.getElem_cons_succ, List.setIfInBounds_toArray, List.set_cons_zero, List.set_cons_succ]
        refine wpAnyH_done (by kernel_rfl) ?_ _
        clear hHeld
        exact hend.out g12 _ (H.out)
      intro g12 W9 hR2
      replace H := hide hR2
      clear hR2
      go_wp2_with (first
        | (with_reducible refine at_op (op := ⟨some 56, _, _, _, _, _⟩) ?_; rw [hk.out])
        | (with_reducible refine at_op (op := ⟨some 75, _, _, _, _, _⟩) ?_; refine wpl_held (op := ⟨some 75, _, _, _, _, _⟩) (.int .u8 (m0.toNat : Int)) (held_load1 Tryd.underlying5 rfl one8 _ rfl g12 (2 + j) rfl _ _ (.int .u8 (m0.toNat : Int)) (H.out.get 2 rfl) HG.out) rfl ?_)
        | (with_reducible refine at_op (op := ⟨none, .store _ (.tmp 79) _, _, _, _, _⟩) ?_; (refine wpl_store1 (op := ⟨none, _, _, _, _, _⟩) one8 rfl (.tmp 79) (.tmp 77) rfl g12 (2 + j) (.int .u8 (m1.toNat : Int)) (pktC P) (pktC P2) rfl rfl rfl _ (H.out.get 2 rfl) (by rw [HLP.out]; have := HJ.out; omega) HST.out ?_); intro W10 hB1 hF1; replace H := hide (H.out.store 2 rfl hF1 hB1); clear hB1 hF1))
      have H0 := H
      clear H
      go_loopw [14] (fun i wr => ∃ r : Nat, r ≤ 2 ∧ i = .int .i64 r ∧ OAt w [(g6, 24, cellsB x), (g7, 29, cellsB key), (g12, 39, pktC P2)] wr) (fun i _ => 2 - (intOf i).toNat)
      case atStart => exact ⟨0, by omega, rfl, H0.out⟩
      case round =>
        clear H0
        obtain ⟨r, hr2, rfl, hat⟩ := hrel
        have H := hide hat
        clear hat
        have hrc : r = 0 ∨ r = 1 ∨ r = 2 := by omega
        rcases hrc with hr0 | hr0 | hr0
        · have hq1 : (r : Int) < 2 := by omega
          have hq2 : decide ((r : Int) < 2) = true := decide_eq_true hq1
          have hq3 : ¬ (r : Int) = 1 := by omega
          have hq4 : decide ((r : Int) = 1) = false := decide_eq_false hq3
          have hq5 : ((r : Int) == 1) = false := beq_eq_false_iff_ne.2 hq3
          have HR0 := hide hr0
          clear hr0
          by_cases heq : macO key P2 = P2.mac
          · have HP1 := hide (HPE.out key HKl.out P2 HO2.out)
            have hiff := peelE_four key P2
            have HS1 := hide (slotC_length (peelS key P2) (peelS_ok key HO2.out).nonce (peelS_ok key HO2.out).mac)
            have HQ1 := hide (pktC_length (peelP_ok key HO2.out))
            have HOF := hide (HPOF.out P2 HO2.out)
            have HMC := hide (HPMC.out key HKl.out P2 HO2.out)
            have HCK : Hid (((cellsB key).drop 0).take 32 = cellsB key) := by show _ = _; rw [List.drop_zero, List.take_of_length_le (by rw [HKc.out]; exact Nat.le_refl _)]
            have HCM := hide (pktC_mac HO2.out)
            have HML := hide HO2.out.mac
            generalize peelE key P2 = E at *
            generalize peelS key P2 = S0 at *
            generalize peelP key P2 = Q0 at *
            obtain ⟨sx, hsx⟩ : ∃ s : ByteArray, s = ⟨(macO key P2).toArray⟩ := ⟨_, rfl⟩
            obtain ⟨sy, hsy⟩ : ∃ s : ByteArray, s = ⟨P2.mac.toArray⟩ := ⟨_, rfl⟩
            have HSY := hide hsy
            rw [← hsx] at HMC
            have hE : ¬ E = 4 := by rw [hiff]; exact fun h => h heq
            have hE2 : (E == 4) = false := beq_eq_false_iff_ne.2 hE
            have hE3 : decide (E = 4) = false := decide_eq_false hE
            have hxy : sx = sy := by rw [hsx, hsy, heq]
            subst hxy
            clear hsx hsy hiff heq
            go_wp2_with (first
              | (with_reducible refine at_op (op := ⟨some 98, _, _, _, _, _⟩) ?_; refine wpl_held (op := ⟨some 98, _, _, _, _, _⟩) (.agg (cellsB key).toArray) (held_loadf aggK _ rfl g7 rfl _ (cellsB key) (H.out.get 1 rfl) HKc.out) rfl ?_)
              | (with_reducible refine at_op (op := ⟨some 15, _, _, _, _, _⟩) ?_; (with_reducible refine wpl_alloca (op := ⟨some 15, _, _, _, _, _⟩) rfl _ rfl _ zeroK ?_); intro g15 V15 hB1 hg1 hF1; go_simp; (with_reducible refine wpl_storea aggK rfl (.tmp 15) (.tmp 98) rfl g15 (cellsB key) rfl rfl _ _ hB1 HKc.out zl_K (cellsB_one _) ?_); intro V1 hB2 hF2; replace H := hide (H.out.var hg1 hF1 hF2 hB2); clear hB1 hg1 hF1 hB2 hF2)
              | (with_reducible refine at_op (op := ⟨some 106, _, _, _, _, _⟩) ?_; refine wpl_held (op := ⟨some 106, _, _, _, _, _⟩) (.agg (cellsB key).toArray) (held_loadf aggK _ rfl g15 rfl _ (cellsB key) (H.out.get 3 rfl) HKc.out) rfl ?_)
              | (with_reducible refine at_op (op := ⟨some 107, _, _, _, _, _⟩) ?_; refine wpl_held (op := ⟨some 107, _, _, _, _, _⟩) (.agg (pktC P2).toArray) (held_loadf aggP _ rfl g12 rfl _ (pktC P2) (H.out.get 2 rfl) HL2.out) rfl ?_)
              | (go_at_call 10; with_reducible refine (HP1.out _ H.out.tb).mono ?_; rintro e V3 ⟨rfl, hbc⟩; replace H := hide (H.out.call hbc); clear hbc)
              | (with_reducible refine at_op (op := ⟨some 16, _, _, _, _, _⟩) ?_; (with_reducible refine wpl_alloca (op := ⟨some 16, _, _, _, _, _⟩) rfl _ rfl _ zeroS ?_); intro g16 V4 hB1 hg1 hF1; replace H := hide (H.out.box hg1 hF1 hB1); clear hB1 hg1 hF1)
              | (with_reducible refine at_op (op := ⟨some 17, _, _, _, _, _⟩) ?_; (with_reducible refine wpl_alloca (op := ⟨some 17, _, _, _, _, _⟩) rfl _ rfl _ zeroP ?_); intro g17 V5 hB1 hg1 hF1; replace H := hide (H.out.box hg1 hF1 hB1); clear hB1 hg1 hF1)
              | (with_reducible refine at_op (op := ⟨none, .store _ (.tmp 16) (.tmp 109), _, _, _, _⟩) ?_; (with_reducible refine wpl_storea aggS rfl (.tmp 16) (.tmp 109) rfl g16 (slotC S0) rfl rfl _ _ (H.out.get 4 rfl) HS1.out (slot0_len) (slotC_one _) ?_); intro V6 hB1 hF1; replace H := hide (H.out.store 4 rfl hF1 hB1); clear hB1 hF1)
              | (with_reducible refine at_op (op := ⟨none, .store _ (.tmp 17) (.tmp 110), _, _, _, _⟩) ?_; (with_reducible refine wpl_storea aggP rfl (.tmp 17) (.tmp 110) rfl g17 (pktC Q0) rfl rfl _ _ (H.out.get 5 rfl) HQ1.out (pkt0_len) (pktC_one _) ?_); intro V7 hB1 hF1; replace H := hide (H.out.store 5 rfl hF1 hB1); clear hB1 hF1))
            obtain ⟨N, hN⟩ : ∃ N, N = V7.heap.size := ⟨_, rfl⟩
            have hq : Below N V7 V7 := hN ▸ Below.refl _ _
            have HA := hide (fun W' (h : Below N V7 W') => H.out.call (hN ▸ h))
            have HC := hide (fun W' (h : Below N V7 W') W'' (k : Below W'.heap.size W' W'') => h.trans (k.mono (by rw [hN]; exact h.size)))
            have hqo : ∀ W', Below N V7 W' → Calls Tryd.prog 12 #[.agg (pktC P2).toArray] W' (fun e w'' => e = .returned (.agg (rpktC P2).toArray) ∧ Below N V7 w'') := fun W' h => (HOF.out W' (HA.out W' h).tb).mono (fun e w'' ⟨he, hb⟩ => ⟨he, HC.out W' h w'' hb⟩)
            have hqm : ∀ W', Below N V7 W' → Calls Tryd.prog 11 #[.string ⟨(key).toArray⟩, .agg (rpktC P2).toArray] W' (fun e w'' => e = .returned (.string sx) ∧ Below N V7 w'') := fun W' h => (HMC.out W' (HA.out W' h).tb).mono (fun e w'' ⟨he, hb⟩ => ⟨he, HC.out W' h w'' hb⟩)
            clear hN
            refine wp_region_class (fun W' => Below N V7 W') (by kernel_rfl) (by kernel_rfl) (below_drewN hq 1) ?_
            with_reducible refine wpQuiet_step ?_
            intro K hK
            go_simp
            first | (refine hK _ ?_; clear hK K) | (refine ⟨_, fun w' hw' => rfl, hK _ ?_⟩; clear hK K)
            with_reducible refine wpQuiet_step ?_
            intro K hK
            go_simp
            first | (refine hK _ ?_; clear hK K) | (refine ⟨_, fun w' hw' => rfl, hK _ ?_⟩; clear hK K)
            with_reducible refine wpQuiet_step ?_
            intro K hK
            go_simp
            first | (refine hK _ ?_; clear hK K) | (refine ⟨_, fun w' hw' => rfl, hK _ ?_⟩; clear hK K)
            with_reducible refine wpQuiet_step ?_
            intro K hK
            refine quiet_val (.string ⟨(key).toArray⟩) (fun w' hw' => held_convR _ rfl (some ⟨g15, 0, none⟩) 32 32 rfl (key) (((HA.out w' hw').get 3 rfl).mid 0 32 (key) HCK.out HKl.out)) ?_ rfl
            go_simp
            refine hK _ ?_
            clear hK K
            with_reducible refine wpQuiet_step ?_
            intro K hK
            refine quiet_val (.agg (pktC P2).toArray) (fun w' hw' => held_loadf aggP _ rfl g12 rfl _ (pktC P2) ((HA.out w' hw').get 2 rfl) HL2.out) ?_ rfl
            go_simp
            refine hK _ ?_
            clear hK K
            with_reducible refine wpQuiet_step ?_
            intro K hK
            go_simp
            refine ⟨_, hqo, hK _ ?_⟩
            clear hK K
            with_reducible refine wpQuiet_step ?_
            intro K hK
            go_simp
            refine ⟨_, hqm, hK _ ?_⟩
            clear hK K
            with_reducible refine wpQuiet_step ?_
            intro K hK
            go_simp
            first | (refine hK _ ?_; clear hK K) | (refine ⟨_, fun w' hw' => rfl, hK _ ?_⟩; clear hK K)
            with_reducible refine wpQuiet_step ?_
            intro K hK
            go_simp
            first | (refine hK _ ?_; clear hK K) | (refine ⟨_, fun w' hw' => rfl, hK _ ?_⟩; clear hK K)
            with_reducible refine wpQuiet_step ?_
            intro K hK
            refine quiet_val (.string sx) (fun w' hw' => held_macS _ rfl g12 rfl P2 sx HSY.out ((HA.out w' hw').get 2 rfl) HCM.out HML.out) ?_ rfl
            go_simp
            refine hK _ ?_
            clear hK K
            with_reducible refine wpQuiet_step ?_
            intro K hK
            go_simp
            first | (refine hK _ ?_; clear hK K) | (refine ⟨_, fun w' hw' => rfl, hK _ ?_⟩; clear hK K)
            with_reducible refine wpQuiet_step ?_
            intro K hK
            go_simp
            first | (refine hK _ ?_; clear hK K) | (refine ⟨_, fun w' hw' => rfl, hK _ ?_⟩; clear hK K)
            refine wpQuiet_nil ?_
            clear hq
            intro wq hwq
            replace H := hide (HA.out wq hwq)
            clear HA HC hwq
            go_wp2_with fail
            replace H := hide (H.out.pre 3)
            go_roundw
            case rel => exact ⟨r + 1, by omega, by go_num, H.out⟩
            case measure => simp [intOf]; omega
          · have HP1 := hide (HPE.out key HKl.out P2 HO2.out)
            have hiff := peelE_four key P2
            have HS1 := hide (slotC_length (peelS key P2) (peelS_ok key HO2.out).nonce (peelS_ok key HO2.out).mac)
            have HQ1 := hide (pktC_length (peelP_ok key HO2.out))
            have HOF := hide (HPOF.out P2 HO2.out)
            have HMC := hide (HPMC.out key HKl.out P2 HO2.out)
            have HCK : Hid (((cellsB key).drop 0).take 32 = cellsB key) := by show _ = _; rw [List.drop_zero, List.take_of_length_le (by rw [HKc.out]; exact Nat.le_refl _)]
            have HCM := hide (pktC_mac HO2.out)
            have HML := hide HO2.out.mac
            generalize peelE key P2 = E at *
            generalize peelS key P2 = S0 at *
            generalize peelP key P2 = Q0 at *
            obtain ⟨sx, hsx⟩ : ∃ s : ByteArray, s = ⟨(macO key P2).toArray⟩ := ⟨_, rfl⟩
            obtain ⟨sy, hsy⟩ : ∃ s : ByteArray, s = ⟨P2.mac.toArray⟩ := ⟨_, rfl⟩
            have HSY := hide hsy
            rw [← hsx] at HMC
            have hE : E = 4 := hiff.2 heq
            have hxy : ¬ sx = sy := fun h => heq (by
              have h2 : (⟨(macO key P2).toArray⟩ : ByteArray) = ⟨P2.mac.toArray⟩ := by rw [← hsx, ← hsy, h]
              have h3 := congrArg (fun s : ByteArray => s.data.toList) h2
              simpa using h3)
            have hxy2 : (sx.toList == sy.toList) = false := by rw [hsx, hsy, txt_eqM]; exact beq_eq_false_iff_ne.2 heq
            have hxy3 : decide (sx = sy) = false := decide_eq_false hxy
            subst hE
            clear hsx hsy hiff heq
            go_wp2_with (first
              | (with_reducible refine at_op (op := ⟨some 98, _, _, _, _, _⟩) ?_; refine wpl_held (op := ⟨some 98, _, _, _, _, _⟩) (.agg (cellsB key).toArray) (held_loadf aggK _ rfl g7 rfl _ (cellsB key) (H.out.get 1 rfl) HKc.out) rfl ?_)
              | (with_reducible refine at_op (op := ⟨some 15, _, _, _, _, _⟩) ?_; (with_reducible refine wpl_alloca (op := ⟨some 15, _, _, _, _, _⟩) rfl _ rfl _ zeroK ?_); intro g15 V15 hB1 hg1 hF1; go_simp; (with_reducible refine wpl_storea aggK rfl (.tmp 15) (.tmp 98) rfl g15 (cellsB key) rfl rfl _ _ hB1 HKc.out zl_K (cellsB_one _) ?_); intro V1 hB2 hF2; replace H := hide (H.out.var hg1 hF1 hF2 hB2); clear hB1 hg1 hF1 hB2 hF2)
              | (with_reducible refine at_op (op := ⟨some 106, _, _, _, _, _⟩) ?_; refine wpl_held (op := ⟨some 106, _, _, _, _, _⟩) (.agg (cellsB key).toArray) (held_loadf aggK _ rfl g15 rfl _ (cellsB key) (H.out.get 3 rfl) HKc.out) rfl ?_)
              | (with_reducible refine at_op (op := ⟨some 107, _, _, _, _, _⟩) ?_; refine wpl_held (op := ⟨some 107, _, _, _, _, _⟩) (.agg (pktC P2).toArray) (held_loadf aggP _ rfl g12 rfl _ (pktC P2) (H.out.get 2 rfl) HL2.out) rfl ?_)
              | (go_at_call 10; with_reducible refine (HP1.out _ H.out.tb).mono ?_; rintro e V3 ⟨rfl, hbc⟩; replace H := hide (H.out.call hbc); clear hbc)
              | (with_reducible refine at_op (op := ⟨some 16, _, _, _, _, _⟩) ?_; (with_reducible refine wpl_alloca (op := ⟨some 16, _, _, _, _, _⟩) rfl _ rfl _ zeroS ?_); intro g16 V4 hB1 hg1 hF1; replace H := hide (H.out.box hg1 hF1 hB1); clear hB1 hg1 hF1)
              | (with_reducible refine at_op (op := ⟨some 17, _, _, _, _, _⟩) ?_; (with_reducible refine wpl_alloca (op := ⟨some 17, _, _, _, _, _⟩) rfl _ rfl _ zeroP ?_); intro g17 V5 hB1 hg1 hF1; replace H := hide (H.out.box hg1 hF1 hB1); clear hB1 hg1 hF1)
              | (with_reducible refine at_op (op := ⟨none, .store _ (.tmp 16) (.tmp 109), _, _, _, _⟩) ?_; (with_reducible refine wpl_storea aggS rfl (.tmp 16) (.tmp 109) rfl g16 (slotC S0) rfl rfl _ _ (H.out.get 4 rfl) HS1.out (slot0_len) (slotC_one _) ?_); intro V6 hB1 hF1; replace H := hide (H.out.store 4 rfl hF1 hB1); clear hB1 hF1)
              | (with_reducible refine at_op (op := ⟨none, .store _ (.tmp 17) (.tmp 110), _, _, _, _⟩) ?_; (with_reducible refine wpl_storea aggP rfl (.tmp 17) (.tmp 110) rfl g17 (pktC Q0) rfl rfl _ _ (H.out.get 5 rfl) HQ1.out (pkt0_len) (pktC_one _) ?_); intro V7 hB1 hF1; replace H := hide (H.out.store 5 rfl hF1 hB1); clear hB1 hF1))
            obtain ⟨N, hN⟩ : ∃ N, N = V7.heap.size := ⟨_, rfl⟩
            have hq : Below N V7 V7 := hN ▸ Below.refl _ _
            have HA := hide (fun W' (h : Below N V7 W') => H.out.call (hN ▸ h))
            have HC := hide (fun W' (h : Below N V7 W') W'' (k : Below W'.heap.size W' W'') => h.trans (k.mono (by rw [hN]; exact h.size)))
            have hqo : ∀ W', Below N V7 W' → Calls Tryd.prog 12 #[.agg (pktC P2).toArray] W' (fun e w'' => e = .returned (.agg (rpktC P2).toArray) ∧ Below N V7 w'') := fun W' h => (HOF.out W' (HA.out W' h).tb).mono (fun e w'' ⟨he, hb⟩ => ⟨he, HC.out W' h w'' hb⟩)
            have hqm : ∀ W', Below N V7 W' → Calls Tryd.prog 11 #[.string ⟨(key).toArray⟩, .agg (rpktC P2).toArray] W' (fun e w'' => e = .returned (.string sx) ∧ Below N V7 w'') := fun W' h => (HMC.out W' (HA.out W' h).tb).mono (fun e w'' ⟨he, hb⟩ => ⟨he, HC.out W' h w'' hb⟩)
            clear hN
            refine wp_region_class (fun W' => Below N V7 W') (by kernel_rfl) (by kernel_rfl) (below_drewN hq 1) ?_
            with_reducible refine wpQuiet_step ?_
            intro K hK
            go_simp
            first | (refine hK _ ?_; clear hK K) | (refine ⟨_, fun w' hw' => rfl, hK _ ?_⟩; clear hK K)
            with_reducible refine wpQuiet_step ?_
            intro K hK
            go_simp
            first | (refine hK _ ?_; clear hK K) | (refine ⟨_, fun w' hw' => rfl, hK _ ?_⟩; clear hK K)
            with_reducible refine wpQuiet_step ?_
            intro K hK
            go_simp
            first | (refine hK _ ?_; clear hK K) | (refine ⟨_, fun w' hw' => rfl, hK _ ?_⟩; clear hK K)
            with_reducible refine wpQuiet_step ?_
            intro K hK
            refine quiet_val (.string ⟨(key).toArray⟩) (fun w' hw' => held_convR _ rfl (some ⟨g15, 0, none⟩) 32 32 rfl (key) (((HA.out w' hw').get 3 rfl).mid 0 32 (key) HCK.out HKl.out)) ?_ rfl
            go_simp
            refine hK _ ?_
            clear hK K
            with_reducible refine wpQuiet_step ?_
            intro K hK
            refine quiet_val (.agg (pktC P2).toArray) (fun w' hw' => held_loadf aggP _ rfl g12 rfl _ (pktC P2) ((HA.out w' hw').get 2 rfl) HL2.out) ?_ rfl
            go_simp
            refine hK _ ?_
            clear hK K
            with_reducible refine wpQuiet_step ?_
            intro K hK
            go_simp
            refine ⟨_, hqo, hK _ ?_⟩
            clear hK K
            with_reducible refine wpQuiet_step ?_
            intro K hK
            go_simp
            refine ⟨_, hqm, hK _ ?_⟩
            clear hK K
            with_reducible refine wpQuiet_step ?_
            intro K hK
            go_simp
            first | (refine hK _ ?_; clear hK K) | (refine ⟨_, fun w' hw' => rfl, hK _ ?_⟩; clear hK K)
            with_reducible refine wpQuiet_step ?_
            intro K hK
            go_simp
            first | (refine hK _ ?_; clear hK K) | (refine ⟨_, fun w' hw' => rfl, hK _ ?_⟩; clear hK K)
            with_reducible refine wpQuiet_step ?_
            intro K hK
            refine quiet_val (.string sy) (fun w' hw' => held_macS _ rfl g12 rfl P2 sy HSY.out ((HA.out w' hw').get 2 rfl) HCM.out HML.out) ?_ rfl
            go_simp
            refine hK _ ?_
            clear hK K
            with_reducible refine wpQuiet_step ?_
            intro K hK
            go_simp
            first | (refine hK _ ?_; clear hK K) | (refine ⟨_, fun w' hw' => rfl, hK _ ?_⟩; clear hK K)
            with_reducible refine wpQuiet_step ?_
            intro K hK
            go_simp
            first | (refine hK _ ?_; clear hK K) | (refine ⟨_, fun w' hw' => rfl, hK _ ?_⟩; clear hK K)
            refine wpQuiet_nil ?_
            clear hq
            intro wq hwq
            replace H := hide (HA.out wq hwq)
            clear HA HC hwq
            go_wp2_with fail
            replace H := hide (H.out.pre 3)
            go_roundw
            case rel => exact ⟨r + 1, by omega, by go_num, H.out⟩
            case measure => simp [intOf]; omega
        · have hq1 : (r : Int) < 2 := by omega
          have hq2 : decide ((r : Int) < 2) = true := decide_eq_true hq1
          have hq3 : (r : Int) = 1 := by omega
          have hq4 : decide ((r : Int) = 1) = true := decide_eq_true hq3
          have hq5 : ((r : Int) == 1) = true := beq_iff_eq.2 hq3
          clear hq3
          have HR0 := hide hr0
          clear hr0
          obtain ⟨p0, rfl, _⟩ := HR.out.at' H1M.out
          have HKK := hide ((HR.out.below H.out.bel).key H1M.out)
          obtain ⟨K0, hK0⟩ : ∃ K0, K0 = (hs.getD 0 hop0).key := ⟨_, rfl⟩
          have HK0l : Hid (K0.length = 32) := by show _ = _; rw [hK0]; exact (HOK.out _ (hop_mem (by rw [HLEN.out]; exact H1M.out))).key
          have HK0c := hide (cl HK0l.out)
          have HKK : Hid (∀ W, Below w.heap.size w W → ∀ q u, (cellsB K0)[q]? = some u → W.cell? (((p0.add (0 * 54)).add 2).add q) = some u) := fun W hb => by rw [hK0]; exact (HR.out.below hb).key H1M.out
          clear hK0
          by_cases heq : macO K0 P2 = P2.mac
          · have HP1 := hide (HPE.out K0 HK0l.out P2 HO2.out)
            have hiff := peelE_four K0 P2
            have HS1 := hide (slotC_length (peelS K0 P2) (peelS_ok K0 HO2.out).nonce (peelS_ok K0 HO2.out).mac)
            have HQ1 := hide (pktC_length (peelP_ok K0 HO2.out))
            have HOF := hide (HPOF.out P2 HO2.out)
            have HMC := hide (HPMC.out K0 HK0l.out P2 HO2.out)
            have HCK : Hid (((cellsB K0).drop 0).take 32 = cellsB K0) := by show _ = _; rw [List.drop_zero, List.take_of_length_le (by rw [HK0c.out]; exact Nat.le_refl _)]
            have HCM := hide (pktC_mac HO2.out)
            have HML := hide HO2.out.mac
            generalize peelE K0 P2 = E at *
            generalize peelS K0 P2 = S0 at *
            generalize peelP K0 P2 = Q0 at *
            obtain ⟨sx, hsx⟩ : ∃ s : ByteArray, s = ⟨(macO K0 P2).toArray⟩ := ⟨_, rfl⟩
            obtain ⟨sy, hsy⟩ : ∃ s : ByteArray, s = ⟨P2.mac.toArray⟩ := ⟨_, rfl⟩
            have HSY := hide hsy
            rw [← hsx] at HMC
            have hE : ¬ E = 4 := by rw [hiff]; exact fun h => h heq
            have hE2 : (E == 4) = false := beq_eq_false_iff_ne.2 hE
            have hE3 : decide (E = 4) = false := decide_eq_false hE
            have hxy : sx = sy := by rw [hsx, hsy, heq]
            subst hxy
            clear hsx hsy hiff heq
            go_wp2_with (first
              | (with_reducible refine at_op (op := ⟨some 98, _, _, _, _, _⟩) ?_; refine wpl_held (op := ⟨some 98, _, _, _, _, _⟩) (.agg (cellsB key).toArray) (held_loadf aggK _ rfl g7 rfl _ (cellsB key) (H.out.get 1 rfl) HKc.out) rfl ?_)
              | (with_reducible refine at_op (op := ⟨some 15, _, _, _, _, _⟩) ?_; (with_reducible refine wpl_alloca (op := ⟨some 15, _, _, _, _, _⟩) rfl _ rfl _ zeroK ?_); intro g15 V15 hB1 hg1 hF1; go_simp; (with_reducible refine wpl_storea aggK rfl (.tmp 15) (.tmp 98) rfl g15 (cellsB key) rfl rfl _ _ hB1 HKc.out zl_K (cellsB_one _) ?_); intro V1 hB2 hF2; replace H := hide (H.out.var hg1 hF1 hF2 hB2); clear hB1 hg1 hF1 hB2 hF2)
              | (with_reducible refine at_op (op := ⟨some 104, _, _, _, _, _⟩) ?_; refine wpl_held (op := ⟨some 104, _, _, _, _, _⟩) (.agg (cellsB K0).toArray) (held_loadC aggK _ rfl ((p0.add (0 * 54)).add 2) rfl (cellsB K0) HK0c.out (HKK.out _ H.out.bel)) rfl ?_)
              | (with_reducible refine at_op (op := ⟨none, .store _ (.tmp 15) (.tmp 104), _, _, _, _⟩) ?_; (with_reducible refine wpl_storea aggK rfl (.tmp 15) (.tmp 104) rfl g15 (cellsB K0) rfl rfl _ _ (H.out.get 3 rfl) HK0c.out (cls HKl.out) (cellsB_one _) ?_); intro V2 hB1 hF1; replace H := hide (H.out.store 3 rfl hF1 hB1); clear hB1 hF1)
              | (with_reducible refine at_op (op := ⟨some 106, _, _, _, _, _⟩) ?_; refine wpl_held (op := ⟨some 106, _, _, _, _, _⟩) (.agg (cellsB K0).toArray) (held_loadf aggK _ rfl g15 rfl _ (cellsB K0) (H.out.get 3 rfl) HK0c.out) rfl ?_)
              | (with_reducible refine at_op (op := ⟨some 107, _, _, _, _, _⟩) ?_; refine wpl_held (op := ⟨some 107, _, _, _, _, _⟩) (.agg (pktC P2).toArray) (held_loadf aggP _ rfl g12 rfl _ (pktC P2) (H.out.get 2 rfl) HL2.out) rfl ?_)
              | (go_at_call 10; with_reducible refine (HP1.out _ H.out.tb).mono ?_; rintro e V3 ⟨rfl, hbc⟩; replace H := hide (H.out.call hbc); clear hbc)
              | (with_reducible refine at_op (op := ⟨some 16, _, _, _, _, _⟩) ?_; (with_reducible refine wpl_alloca (op := ⟨some 16, _, _, _, _, _⟩) rfl _ rfl _ zeroS ?_); intro g16 V4 hB1 hg1 hF1; replace H := hide (H.out.box hg1 hF1 hB1); clear hB1 hg1 hF1)
              | (with_reducible refine at_op (op := ⟨some 17, _, _, _, _, _⟩) ?_; (with_reducible refine wpl_alloca (op := ⟨some 17, _, _, _, _, _⟩) rfl _ rfl _ zeroP ?_); intro g17 V5 hB1 hg1 hF1; replace H := hide (H.out.box hg1 hF1 hB1); clear hB1 hg1 hF1)
              | (with_reducible refine at_op (op := ⟨none, .store _ (.tmp 16) (.tmp 109), _, _, _, _⟩) ?_; (with_reducible refine wpl_storea aggS rfl (.tmp 16) (.tmp 109) rfl g16 (slotC S0) rfl rfl _ _ (H.out.get 4 rfl) HS1.out (slot0_len) (slotC_one _) ?_); intro V6 hB1 hF1; replace H := hide (H.out.store 4 rfl hF1 hB1); clear hB1 hF1)
              | (with_reducible refine at_op (op := ⟨none, .store _ (.tmp 17) (.tmp 110), _, _, _, _⟩) ?_; (with_reducible refine wpl_storea aggP rfl (.tmp 17) (.tmp 110) rfl g17 (pktC Q0) rfl rfl _ _ (H.out.get 5 rfl) HQ1.out (pkt0_len) (pktC_one _) ?_); intro V7 hB1 hF1; replace H := hide (H.out.store 5 rfl hF1 hB1); clear hB1 hF1))
            obtain ⟨N, hN⟩ : ∃ N, N = V7.heap.size := ⟨_, rfl⟩
            have hq : Below N V7 V7 := hN ▸ Below.refl _ _
            have HA := hide (fun W' (h : Below N V7 W') => H.out.call (hN ▸ h))
            have HC := hide (fun W' (h : Below N V7 W') W'' (k : Below W'.heap.size W' W'') => h.trans (k.mono (by rw [hN]; exact h.size)))
            have hqo : ∀ W', Below N V7 W' → Calls Tryd.prog 12 #[.agg (pktC P2).toArray] W' (fun e w'' => e = .returned (.agg (rpktC P2).toArray) ∧ Below N V7 w'') := fun W' h => (HOF.out W' (HA.out W' h).tb).mono (fun e w'' ⟨he, hb⟩ => ⟨he, HC.out W' h w'' hb⟩)
            have hqm : ∀ W', Below N V7 W' → Calls Tryd.prog 11 #[.string ⟨(K0).toArray⟩, .agg (rpktC P2).toArray] W' (fun e w'' => e = .returned (.string sx) ∧ Below N V7 w'') := fun W' h => (HMC.out W' (HA.out W' h).tb).mono (fun e w'' ⟨he, hb⟩ => ⟨he, HC.out W' h w'' hb⟩)
            clear hN
            refine wp_region_class (fun W' => Below N V7 W') (by kernel_rfl) (by kernel_rfl) (below_drewN hq 1) ?_
            with_reducible refine wpQuiet_step ?_
            intro K hK
            go_simp
            first | (refine hK _ ?_; clear hK K) | (refine ⟨_, fun w' hw' => rfl, hK _ ?_⟩; clear hK K)
            with_reducible refine wpQuiet_step ?_
            intro K hK
            go_simp
            first | (refine hK _ ?_; clear hK K) | (refine ⟨_, fun w' hw' => rfl, hK _ ?_⟩; clear hK K)
            with_reducible refine wpQuiet_step ?_
            intro K hK
            go_simp
            first | (refine hK _ ?_; clear hK K) | (refine ⟨_, fun w' hw' => rfl, hK _ ?_⟩; clear hK K)
            with_reducible refine wpQuiet_step ?_
            intro K hK
            refine quiet_val (.string ⟨(K0).toArray⟩) (fun w' hw' => held_convR _ rfl (some ⟨g15, 0, none⟩) 32 32 rfl (K0) (((HA.out w' hw').get 3 rfl).mid 0 32 (K0) HCK.out HK0l.out)) ?_ rfl
            go_simp
            refine hK _ ?_
            clear hK K
            with_reducible refine wpQuiet_step ?_
            intro K hK
            refine quiet_val (.agg (pktC P2).toArray) (fun w' hw' => held_loadf aggP _ rfl g12 rfl _ (pktC P2) ((HA.out w' hw').get 2 rfl) HL2.out) ?_ rfl
            go_simp
            refine hK _ ?_
            clear hK K
            with_reducible refine wpQuiet_step ?_
            intro K hK
            go_simp
            refine ⟨_, hqo, hK _ ?_⟩
            clear hK K
            with_reducible refine wpQuiet_step ?_
            intro K hK
            go_simp
            refine ⟨_, hqm, hK _ ?_⟩
            clear hK K
            with_reducible refine wpQuiet_step ?_
            intro K hK
            go_simp
            first | (refine hK _ ?_; clear hK K) | (refine ⟨_, fun w' hw' => rfl, hK _ ?_⟩; clear hK K)
            with_reducible refine wpQuiet_step ?_
            intro K hK
            go_simp
            first | (refine hK _ ?_; clear hK K) | (refine ⟨_, fun w' hw' => rfl, hK _ ?_⟩; clear hK K)
            with_reducible refine wpQuiet_step ?_
            intro K hK
            refine quiet_val (.string sx) (fun w' hw' => held_macS _ rfl g12 rfl P2 sx HSY.out ((HA.out w' hw').get 2 rfl) HCM.out HML.out) ?_ rfl
            go_simp
            refine hK _ ?_
            clear hK K
            with_reducible refine wpQuiet_step ?_
            intro K hK
            go_simp
            first | (refine hK _ ?_; clear hK K) | (refine ⟨_, fun w' hw' => rfl, hK _ ?_⟩; clear hK K)
            with_reducible refine wpQuiet_step ?_
            intro K hK
            go_simp
            first | (refine hK _ ?_; clear hK K) | (refine ⟨_, fun w' hw' => rfl, hK _ ?_⟩; clear hK K)
            refine wpQuiet_nil ?_
            clear hq
            intro wq hwq
            replace H := hide (HA.out wq hwq)
            clear HA HC hwq
            go_wp2_with fail
            replace H := hide (H.out.pre 3)
            go_roundw
            case rel => exact ⟨r + 1, by omega, by go_num, H.out⟩
            case measure => simp [intOf]; omega
          · have HP1 := hide (HPE.out K0 HK0l.out P2 HO2.out)
            have hiff := peelE_four K0 P2
            have HS1 := hide (slotC_length (peelS K0 P2) (peelS_ok K0 HO2.out).nonce (peelS_ok K0 HO2.out).mac)
            have HQ1 := hide (pktC_length (peelP_ok K0 HO2.out))
            have HOF := hide (HPOF.out P2 HO2.out)
            have HMC := hide (HPMC.out K0 HK0l.out P2 HO2.out)
            have HCK : Hid (((cellsB K0).drop 0).take 32 = cellsB K0) := by show _ = _; rw [List.drop_zero, List.take_of_length_le (by rw [HK0c.out]; exact Nat.le_refl _)]
            have HCM := hide (pktC_mac HO2.out)
            have HML := hide HO2.out.mac
            generalize peelE K0 P2 = E at *
            generalize peelS K0 P2 = S0 at *
            generalize peelP K0 P2 = Q0 at *
            obtain ⟨sx, hsx⟩ : ∃ s : ByteArray, s = ⟨(macO K0 P2).toArray⟩ := ⟨_, rfl⟩
            obtain ⟨sy, hsy⟩ : ∃ s : ByteArray, s = ⟨P2.mac.toArray⟩ := ⟨_, rfl⟩
            have HSY := hide hsy
            rw [← hsx] at HMC
            have hE : E = 4 := hiff.2 heq
            have hxy : ¬ sx = sy := fun h => heq (by
              have h2 : (⟨(macO K0 P2).toArray⟩ : ByteArray) = ⟨P2.mac.toArray⟩ := by rw [← hsx, ← hsy, h]
              have h3 := congrArg (fun s : ByteArray => s.data.toList) h2
              simpa using h3)
            have hxy2 : (sx.toList == sy.toList) = false := by rw [hsx, hsy, txt_eqM]; exact beq_eq_false_iff_ne.2 heq
            have hxy3 : decide (sx = sy) = false := decide_eq_false hxy
            subst hE
            clear hsx hsy hiff heq
            go_wp2_with (first
              | (with_reducible refine at_op (op := ⟨some 98, _, _, _, _, _⟩) ?_; refine wpl_held (op := ⟨some 98, _, _, _, _, _⟩) (.agg (cellsB key).toArray) (held_loadf aggK _ rfl g7 rfl _ (cellsB key) (H.out.get 1 rfl) HKc.out) rfl ?_)
              | (with_reducible refine at_op (op := ⟨some 15, _, _, _, _, _⟩) ?_; (with_reducible refine wpl_alloca (op := ⟨some 15, _, _, _, _, _⟩) rfl _ rfl _ zeroK ?_); intro g15 V15 hB1 hg1 hF1; go_simp; (with_reducible refine wpl_storea aggK rfl (.tmp 15) (.tmp 98) rfl g15 (cellsB key) rfl rfl _ _ hB1 HKc.out zl_K (cellsB_one _) ?_); intro V1 hB2 hF2; replace H := hide (H.out.var hg1 hF1 hF2 hB2); clear hB1 hg1 hF1 hB2 hF2)
              | (with_reducible refine at_op (op := ⟨some 104, _, _, _, _, _⟩) ?_; refine wpl_held (op := ⟨some 104, _, _, _, _, _⟩) (.agg (cellsB K0).toArray) (held_loadC aggK _ rfl ((p0.add (0 * 54)).add 2) rfl (cellsB K0) HK0c.out (HKK.out _ H.out.bel)) rfl ?_)
              | (with_reducible refine at_op (op := ⟨none, .store _ (.tmp 15) (.tmp 104), _, _, _, _⟩) ?_; (with_reducible refine wpl_storea aggK rfl (.tmp 15) (.tmp 104) rfl g15 (cellsB K0) rfl rfl _ _ (H.out.get 3 rfl) HK0c.out (cls HKl.out) (cellsB_one _) ?_); intro V2 hB1 hF1; replace H := hide (H.out.store 3 rfl hF1 hB1); clear hB1 hF1)
              | (with_reducible refine at_op (op := ⟨some 106, _, _, _, _, _⟩) ?_; refine wpl_held (op := ⟨some 106, _, _, _, _, _⟩) (.agg (cellsB K0).toArray) (held_loadf aggK _ rfl g15 rfl _ (cellsB K0) (H.out.get 3 rfl) HK0c.out) rfl ?_)
              | (with_reducible refine at_op (op := ⟨some 107, _, _, _, _, _⟩) ?_; refine wpl_held (op := ⟨some 107, _, _, _, _, _⟩) (.agg (pktC P2).toArray) (held_loadf aggP _ rfl g12 rfl _ (pktC P2) (H.out.get 2 rfl) HL2.out) rfl ?_)
              | (go_at_call 10; with_reducible refine (HP1.out _ H.out.tb).mono ?_; rintro e V3 ⟨rfl, hbc⟩; replace H := hide (H.out.call hbc); clear hbc)
              | (with_reducible refine at_op (op := ⟨some 16, _, _, _, _, _⟩) ?_; (with_reducible refine wpl_alloca (op := ⟨some 16, _, _, _, _, _⟩) rfl _ rfl _ zeroS ?_); intro g16 V4 hB1 hg1 hF1; replace H := hide (H.out.box hg1 hF1 hB1); clear hB1 hg1 hF1)
              | (with_reducible refine at_op (op := ⟨some 17, _, _, _, _, _⟩) ?_; (with_reducible refine wpl_alloca (op := ⟨some 17, _, _, _, _, _⟩) rfl _ rfl _ zeroP ?_); intro g17 V5 hB1 hg1 hF1; replace H := hide (H.out.box hg1 hF1 hB1); clear hB1 hg1 hF1)
              | (with_reducible refine at_op (op := ⟨none, .store _ (.tmp 16) (.tmp 109), _, _, _, _⟩) ?_; (with_reducible refine wpl_storea aggS rfl (.tmp 16) (.tmp 109) rfl g16 (slotC S0) rfl rfl _ _ (H.out.get 4 rfl) HS1.out (slot0_len) (slotC_one _) ?_); intro V6 hB1 hF1; replace H := hide (H.out.store 4 rfl hF1 hB1); clear hB1 hF1)
              | (with_reducible refine at_op (op := ⟨none, .store _ (.tmp 17) (.tmp 110), _, _, _, _⟩) ?_; (with_reducible refine wpl_storea aggP rfl (.tmp 17) (.tmp 110) rfl g17 (pktC Q0) rfl rfl _ _ (H.out.get 5 rfl) HQ1.out (pkt0_len) (pktC_one _) ?_); intro V7 hB1 hF1; replace H := hide (H.out.store 5 rfl hF1 hB1); clear hB1 hF1))
            obtain ⟨N, hN⟩ : ∃ N, N = V7.heap.size := ⟨_, rfl⟩
            have hq : Below N V7 V7 := hN ▸ Below.refl _ _
            have HA := hide (fun W' (h : Below N V7 W') => H.out.call (hN ▸ h))
            have HC := hide (fun W' (h : Below N V7 W') W'' (k : Below W'.heap.size W' W'') => h.trans (k.mono (by rw [hN]; exact h.size)))
            have hqo : ∀ W', Below N V7 W' → Calls Tryd.prog 12 #[.agg (pktC P2).toArray] W' (fun e w'' => e = .returned (.agg (rpktC P2).toArray) ∧ Below N V7 w'') := fun W' h => (HOF.out W' (HA.out W' h).tb).mono (fun e w'' ⟨he, hb⟩ => ⟨he, HC.out W' h w'' hb⟩)
            have hqm : ∀ W', Below N V7 W' → Calls Tryd.prog 11 #[.string ⟨(K0).toArray⟩, .agg (rpktC P2).toArray] W' (fun e w'' => e = .returned (.string sx) ∧ Below N V7 w'') := fun W' h => (HMC.out W' (HA.out W' h).tb).mono (fun e w'' ⟨he, hb⟩ => ⟨he, HC.out W' h w'' hb⟩)
            clear hN
            refine wp_region_class (fun W' => Below N V7 W') (by kernel_rfl) (by kernel_rfl) (below_drewN hq 1) ?_
            with_reducible refine wpQuiet_step ?_
            intro K hK
            go_simp
            first | (refine hK _ ?_; clear hK K) | (refine ⟨_, fun w' hw' => rfl, hK _ ?_⟩; clear hK K)
            with_reducible refine wpQuiet_step ?_
            intro K hK
            go_simp
            first | (refine hK _ ?_; clear hK K) | (refine ⟨_, fun w' hw' => rfl, hK _ ?_⟩; clear hK K)
            with_reducible refine wpQuiet_step ?_
            intro K hK
            go_simp
            first | (refine hK _ ?_; clear hK K) | (refine ⟨_, fun w' hw' => rfl, hK _ ?_⟩; clear hK K)
            with_reducible refine wpQuiet_step ?_
            intro K hK
            refine quiet_val (.string ⟨(K0).toArray⟩) (fun w' hw' => held_convR _ rfl (some ⟨g15, 0, none⟩) 32 32 rfl (K0) (((HA.out w' hw').get 3 rfl).mid 0 32 (K0) HCK.out HK0l.out)) ?_ rfl
            go_simp
            refine hK _ ?_
            clear hK K
            with_reducible refine wpQuiet_step ?_
            intro K hK
            refine quiet_val (.agg (pktC P2).toArray) (fun w' hw' => held_loadf aggP _ rfl g12 rfl _ (pktC P2) ((HA.out w' hw').get 2 rfl) HL2.out) ?_ rfl
            go_simp
            refine hK _ ?_
            clear hK K
            with_reducible refine wpQuiet_step ?_
            intro K hK
            go_simp
            refine ⟨_, hqo, hK _ ?_⟩
            clear hK K
            with_reducible refine wpQuiet_step ?_
            intro K hK
            go_simp
            refine ⟨_, hqm, hK _ ?_⟩
            clear hK K
            with_reducible refine wpQuiet_step ?_
            intro K hK
            go_simp
            first | (refine hK _ ?_; clear hK K) | (refine ⟨_, fun w' hw' => rfl, hK _ ?_⟩; clear hK K)
            with_reducible refine wpQuiet_step ?_
            intro K hK
            go_simp
            first | (refine hK _ ?_; clear hK K) | (refine ⟨_, fun w' hw' => rfl, hK _ ?_⟩; clear hK K)
            with_reducible refine wpQuiet_step ?_
            intro K hK
            refine quiet_val (.string sy) (fun w' hw' => held_macS _ rfl g12 rfl P2 sy HSY.out ((HA.out w' hw').get 2 rfl) HCM.out HML.out) ?_ rfl
            go_simp
            refine hK _ ?_
            clear hK K
            with_reducible refine wpQuiet_step ?_
            intro K hK
            go_simp
            first | (refine hK _ ?_; clear hK K) | (refine ⟨_, fun w' hw' => rfl, hK _ ?_⟩; clear hK K)
            with_reducible refine wpQuiet_step ?_
            intro K hK
            go_simp
            first | (refine hK _ ?_; clear hK K) | (refine ⟨_, fun w' hw' => rfl, hK _ ?_⟩; clear hK K)
            refine wpQuiet_nil ?_
            clear hq
            intro wq hwq
            replace H := hide (HA.out wq hwq)
            clear HA HC hwq
            go_wp2_with fail
            replace H := hide (H.out.pre 3)
            go_roundw
            case rel => exact ⟨r + 1, by omega, by go_num, H.out⟩
            case measure => simp [intOf]; omega
        · have hq1 : ¬ (r : Int) < 2 := by omega
          have hq2 : decide ((r : Int) < 2) = false := decide_eq_false hq1
          have HR0 := hide hr0
          clear hr0
          go_wp2_with fail
          go_ret
          exact ⟨rfl, H.out.bel⟩
    · have hk : Hid (a % 65536 % 608 = 32 + (j : Int)) := by show _ = _; rw [hk0]; push_cast; rfl
      obtain ⟨m0, hm0⟩ : ∃ b : UInt8, b = P.head.getD j 0 := ⟨_, rfl⟩
      obtain ⟨m1, hm1⟩ : ∃ y : UInt8, y = m0 ^^^ b := ⟨_, rfl⟩
      have hxor : bits .xor .u8 (m0.toNat : Int) (b.toNat : Int) = (m1.toNat : Int) := by rw [hm1]; exact byte_xor m0 b
      obtain ⟨P2, hP2⟩ : ∃ q : Pkt, q = { P with head := P.head.set j m1 } := ⟨_, rfl⟩
      have HO2 : Hid (P2.ok) := by
        have hl : (P.head.set j m1).length = 320 := by rw [List.length_set]; exact HPO.out.head
        show P2.ok
        rw [hP2]
        exact ⟨HPO.out.who, HPO.out.epoch, HPO.out.nonce, HPO.out.mac, hl, HPO.out.body⟩
      have HL2 := hide (pktC_length HO2.out)
      have HG : Hid ((pktC P)[34 + j]? = some (.int .u8 (m0.toNat : Int))) := by show _ = _; rw [hm0]; exact pktC_getH HPO.out j hj
      have HST : Hid ((pktC P).set (34 + j) (.int .u8 (m1.toNat : Int)) = pktC P2) := by show _ = _; rw [hP2]; exact pktC_setH HPO.out j _ hj
      have hl16 : ¬ (32 + (j : Int)) < 16 := by omega
      have hd16 : decide ((32 + (j : Int)) < 16) = false := decide_eq_false hl16
      have hl32 : ¬ (32 + (j : Int)) < 32 := by omega
      have hd32 : decide ((32 + (j : Int)) < 32) = false := decide_eq_false hl32
      have hl352 : (32 + (j : Int)) < 352 := by omega
      have hd352 : decide ((32 + (j : Int)) < 352) = true := decide_eq_true hl352
      have hji : 0 ≤ (j : Int) ∧ (j : Int) < 320 := by omega
      have hjn : (j : Int) < 320 := hji.2
      have hs1 : 32 + (j : Int) - 32 = (j : Int) := by omega
      have hw1 : IntKind.i64.wrap (32 + (j : Int) - 32) = (j : Int) := by rw [IntKind.wrap_i64] <;> omega
      have HJ := hide hj
      clear hm0 hm1 hP2 hk0 hk6 hpo hj hab
      go_enter Tryd.func4, Tryd.ntmps4
      go_wp2_with (first
        | (with_reducible refine at_op (op := ⟨some 6, _, _, _, _, _⟩) ?_; (refine wpl_boxa (op := ⟨some 6, _, _, _, _, _⟩) rfl _ _ rfl (cellsB x) rfl ?_); intro g6 W6 hB1 hg1 hF1; replace H := hide (H.out.box hg1 hF1 hB1); clear hB1 hg1 hF1)
        | (with_reducible refine at_op (op := ⟨some 7, _, _, _, _, _⟩) ?_; (refine wpl_boxa (op := ⟨some 7, _, _, _, _, _⟩) rfl _ _ rfl (cellsB key) rfl ?_); intro g7 W7 hB1 hg1 hF1; replace H := hide (H.out.box hg1 hF1 hB1); clear hB1 hg1 hF1)
        | (go_at_call 8; with_reducible refine (HSH.out _ H.out.tb).mono ?_; rintro e W8 ⟨rfl, hbc⟩; replace H := hide (H.out.call hbc); clear hbc))
      apply merge1 (R := fun a12 W => OAt w [(g6, 24, cellsB x), (g7, 29, cellsB key), (a12, 39, pktC P)] W)
      · intro hend
        obtain ⟨U1, hU1⟩ : ∃ U1, U1 = W8.drew := ⟨_, rfl⟩
        refine wp_region_held_drew (S := fun W' => Blk W' g6 24 (cellsB x).toArray) (by kernel_rfl) (by rw [← hU1]; replace H := hide (by rw [hU1]; exact H.out.drew : OAt w _ U1); exact H.out.get 0 rfl) ?_
        intro hHeld
        replace H := hide (by rw [hU1]; exact H.out.drew : OAt w _ U1)
        rw [← hU1] at hHeld ⊢
        clear hU1
        refine wpAnyH_take (i := 0) (v := ?v43) rfl (by kernel_rfl) (by kernel_rfl) (by kernel_rfl) (fun _ _ _ h => h) (Or.inl ⟨by rfl, ?hy43⟩) (by assumption) ?rest43
        case hy43 => (intro w hSw; (try go_simp); try with_reducible rfl)
        try simp only [Act.put, List.getElem_toArray, List.getElem_cons_zero, List.getElem_cons_succ, List.setIfInBounds_toArray, List.set_cons_zero, List.set_cons_succ]
        refine wpAnyH_take (i := 1) (v := ?v44) rfl (by kernel_rfl) (by kernel_rfl) (by kernel_rfl) (fun _ _ _ h => h) (Or.inl ⟨by rfl, ?hy44⟩) (by assumption) ?rest44
        case hy44 => (intro w hSw; (try go_simp); try with_reducible rfl)
        try simp only [Act.put, List.getElem_toArray, List.getElem_cons_zero, List.getElem_cons_succ, List.setIfInBounds_toArray, List.set_cons_zero, List.set_cons_succ]
        refine wpAnyH_take (i := 2) (v := ?v45) rfl (by kernel_rfl) (by kernel_rfl) (by kernel_rfl) (fun _ _ _ h => h) (Or.inl ⟨by rfl, ?hy45⟩) (by assumption) ?rest45
        case hy45 => (intro w hSw; (try go_simp); try with_reducible rfl)
        try simp only [Act.put, List.getElem_toArray, List.getElem_cons_zero, List.getElem_cons_succ, List.setIfInBounds_toArray, List.set_cons_zero, List.set_cons_succ]
        refine wpAnyH_take (i := 3) (v := ?v46) rfl (by kernel_rfl) (by kernel_rfl) (by kernel_rfl) (fun _ _ _ h => h) (Or.inl ⟨by rfl, ?hy46⟩) (by assumption) ?rest46
        case hy46 => (intro w hSw; refine held_min (.tmp 23) (.const (.int .i64 5)) 3 3 ?_ (n : Int) 5 (m : Int) ?_ ?_ HM.out <;> rfl)
        try simp only [Act.put, List.getElem_toArray, List.getElem_cons_zero, List.getElem_cons_succ, List.setIfInBounds_toArray, List.set_cons_zero, List.set_cons_succ]
        refine wpAnyH_take (i := 4) (v := ?v47) rfl (by kernel_rfl) (by kernel_rfl) (by kernel_rfl) (fun _ _ _ h => h) (Or.inl ⟨by rfl, ?hy47⟩) (by assumption) ?rest47
        case hy47 => (intro w hSw; (try go_simp); try with_reducible rfl)
        try simp only [Act.put, List.getElem_toArray, List.getElem_cons_zero, List.getElem_cons_succ, List.setIfInBounds_toArray, List.set_cons_zero, List.set_cons_succ]
        refine wpAnyH_take (i := 5) (v := ?v48) rfl (by kernel_rfl) (by kernel_rfl) (by kernel_rfl) (fun _ _ _ h => h) (Or.inl ⟨by rfl, ?hy48⟩) (by assumption) ?rest48
        case hy48 => (intro w hSw; refine held_loadf agg256 (.tmp 6) ?_ g6 ?_ _ (cellsB x) hSw HXc.out <;> rfl)
        try simp only [Act.put, List.getElem_toArray, List.getElem_cons_zero, List.getElem_cons_succ, List.setIfInBounds_toArray, List.set_cons_zero, List.set_cons_succ]
        refine wpAnyH_ready (rs := [6, 10]) (by kernel_rfl) (by simp) ?_
        refine AllReadyH.cons rfl (fun K hK => ?_) ?_
        · go_simp
          refine (HB.out _ H.out.tb (HR.out.below H.out.bel)).mono ?_
          rintro e V1 ⟨rfl, hbc⟩
          replace H := hide (H.out.call hbc)
          clear hbc
          refine hK.out _ _ (H.out.get 0 rfl) (fun hHeld => ?_)
          clear hK K
          refine wpAnyH_take (i := 7) (v := ?v49) rfl (by kernel_rfl) (by kernel_rfl) (by kernel_rfl) (fun _ _ _ h => h) (Or.inl ⟨by rfl, ?hy49⟩) (by assumption) ?rest49
          case hy49 => (intro w hSw; (try go_simp); try with_reducible rfl)
          try simp only [Act.put, List.getElem_toArray, List.getElem_cons_zero, List.getElem_cons_succ, List.setIfInBounds_toArray, List.set_cons_zero, List.set_cons_succ]
          refine wpAnyH_take (i := 8) (v := ?v50) rfl (by kernel_rfl) (by kernel_rfl) (by kernel_rfl) (fun _ _ _ h => h) (Or.inl ⟨by rfl, ?hy50⟩) (by assumption) ?rest50
          case hy50 => (intro w hSw; (try go_simp); try with_reducible rfl)
          try simp only [Act.put, List.getElem_toArray, List.getElem_cons_zero, List.getElem_cons_succ, List.setIfInBounds_toArray, List.set_cons_zero, List.set_cons_succ]
          refine wpAnyH_take (i := 9) (v := ?v51) rfl (by kernel_rfl) (by kernel_rfl) (by kernel_rfl) (fun _ _ _ h => h) (Or.inl ⟨by rfl, ?hy51⟩) (by assumption) ?rest51
          case hy51 => (intro w hSw; (try go_simp); try with_reducible rfl)
          try simp only [Act.put, List.getElem_toArray, List.getElem_cons_zero, List.getElem_cons_succ, List.setIfInBounds_toArray, List.set_cons_zero, List.set_cons_succ]
          refine wpAnyH_ready (rs := [10]) (by kernel_rfl) (by simp) ?_
          refine AllReadyH.cons rfl (fun K hK => ?_) AllReadyH.nil
          refine step_alloca rfl _ rfl _ zeroP ?_
          intro g12 V2 hB8 hs8 hF8
          replace H := hide (H.out.box hs8 hF8 hB8)
          clear hB8 hs8 hF8
          refine hK.out _ _ (H.out.get 0 rfl) (fun hHeld => ?_)
          clear hK K
          refine wpAnyH_ready (rs := [11]) (by kernel_rfl) (by simp) ?_
          refine AllReadyH.cons rfl (fun K hK => ?_) AllReadyH.nil
          refine step_storem aggP rfl (.tmp 12) (.tmp 28) rfl g12 0 (pktC P) _ (pktC P) rfl rfl _ (H.out.get 2 rfl) HLP.out (Nat.le_of_eq (by rw [Nat.zero_add]; exact pkt0_c.symm)) (splice_all _ _ (by rw [HLP.out]; exact pkt0_c)) (pktC_one _) ?_
          intro V3 hB8 hF8
          replace H := hide (H.out.store 2 rfl hF8 hB8)
          clear hB8 hF8
          refine hK.out _ _ (H.out.get 0 rfl) (fun hHeld => ?_)
          clear hK K
          refine wpAnyH_take (i := 12) (v := ?v52) rfl (by kernel_rfl) (by kernel_rfl) (by kernel_rfl) (fun _ _ _ h => h) (Or.inl ⟨by rfl, ?hy52⟩) (by assumption) ?rest52
          case hy52 => (intro w hSw; (try go_simp); try with_reducible rfl)
          try simp only [Act.put, List.getElem_toArray, List.getElem_cons_zero, List.getElem_cons_succ, List.setIfInBounds_toArray, List.set_cons_zero, List.set_cons_succ]
          refine wpAnyH_done (by kernel_rfl) ?_ _
          clear hHeld
          exact hend.out g12 _ (H.out)
        refine AllReadyH.cons rfl (fun K hK => ?_) AllReadyH.nil
        refine step_alloca rfl _ rfl _ zeroP ?_
        intro g12 V4 hB8 hs8 hF8
        replace H := hide (H.out.box hs8 hF8 hB8)
        clear hB8 hs8 hF8
        refine hK.out _ _ (H.out.get 0 rfl) (fun hHeld => ?_)
        clear hK K
        refine wpAnyH_ready (rs := [6]) (by kernel_rfl) (by simp) ?_
        refine AllReadyH.cons rfl (fun K hK => ?_) AllReadyH.nil
        go_simp
        refine (HB.out _ H.out.tb (HR.out.below H.out.bel)).mono ?_
        rintro e V5 ⟨rfl, hbc⟩
        replace H := hide (H.out.call hbc)
        clear hbc
        refine hK.out _ _ (H.out.get 0 rfl) (fun hHeld => ?_)
        clear hK K
        refine wpAnyH_take (i := 7) (v := ?v53) rfl (by kernel_rfl) (by kernel_rfl) (by kernel_rfl) (fun _ _ _ h => h) (Or.inl ⟨by rfl, ?hy53⟩) (by assumption) ?rest53
        case hy53 => (intro w hSw; (try go_simp); try with_reducible rfl)
        try simp only [Act.put, List.getElem_toArray, List.getElem_cons_zero, List.getElem_cons_succ, List.setIfInBounds_toArray, List.set_cons_zero, List.set_cons_succ]
        refine wpAnyH_take (i := 8) (v := ?v54) rfl (by kernel_rfl) (by kernel_rfl) (by kernel_rfl) (fun _ _ _ h => h) (Or.inl ⟨by rfl, ?hy54⟩) (by assumption) ?rest54
        case hy54 => (intro w hSw; (try go_simp); try with_reducible rfl)
        try simp only [Act.put, List.getElem_toArray, List.getElem_cons_zero, List.getElem_cons_succ, List.setIfInBounds_toArray, List.set_cons_zero, List.set_cons_succ]
        refine wpAnyH_take (i := 9) (v := ?v55) rfl (by kernel_rfl) (by kernel_rfl) (by kernel_rfl) (fun _ _ _ h => h) (Or.inl ⟨by rfl, ?hy55⟩) (by assumption) ?rest55
        case hy55 => (intro w hSw; (try go_simp); try with_reducible rfl)
        try simp only [Act.put, List.getElem_toArray, List.getElem_cons_zero, List.getElem_cons_succ, List.setIfInBounds_toArray, List.set_cons_zero, List.set_cons_succ]
        refine wpAnyH_ready (rs := [11]) (by kernel_rfl) (by simp) ?_
        refine AllReadyH.cons rfl (fun K hK => ?_) AllReadyH.nil
        refine step_storem aggP rfl (.tmp 12) (.tmp 28) rfl g12 0 (pktC P) _ (pktC P) rfl rfl _ (H.out.get 2 rfl) HLP.out (Nat.le_of_eq (by rw [Nat.zero_add]; exact pkt0_c.symm)) (splice_all _ _ (by rw [HLP.out]; exact pkt0_c)) (pktC_one _) ?_
        intro V6 hB8 hF8
        replace H := hide (H.out.store 2 rfl hF8 hB8)
        clear hB8 hF8
        refine hK.out _ _ (H.out.get 0 rfl) (fun hHeld => ?_)
        clear hK K
        refine wpAnyH_take (i := 12) (v := ?v56) rfl (by kernel_rfl) (by kernel_rfl) (by kernel_rfl) (fun _ _ _ h => h) (Or.inl ⟨by rfl, ?hy56⟩) (by assumption) ?rest56
        case hy56 => (intro w hSw; (try go_simp); try with_reducible rfl)
        try simp only [Act.put, List.getElem_toArray, List.getElem_cons_zero, List.getElem_cons_succ, List.setIfInBounds_toArray, List.set_cons_zero, List.set_cons_succ]
        refine wpAnyH_done (by kernel_rfl) ?_ _
        clear hHeld
        exact hend.out g12 _ (H.out)
      intro g12 W9 hR2
      replace H := hide hR2
      clear hR2
      go_wp2_with (first
        | (with_reducible refine at_op (op := ⟨some 56, _, _, _, _, _⟩) ?_; rw [hk.out])
        | (with_reducible refine at_op (op := ⟨some 89, _, _, _, _, _⟩) ?_; refine wpl_held (op := ⟨some 89, _, _, _, _, _⟩) (.int .u8 (m0.toNat : Int)) (held_load1 Tryd.underlying5 rfl one8 _ rfl g12 (34 + j) rfl _ _ (.int .u8 (m0.toNat : Int)) (H.out.get 2 rfl) HG.out) rfl ?_)
        | (with_reducible refine at_op (op := ⟨none, .store _ (.tmp 93) _, _, _, _, _⟩) ?_; (refine wpl_store1 (op := ⟨none, _, _, _, _, _⟩) one8 rfl (.tmp 93) (.tmp 91) rfl g12 (34 + j) (.int .u8 (m1.toNat : Int)) (pktC P) (pktC P2) rfl rfl rfl _ (H.out.get 2 rfl) (by rw [HLP.out]; have := HJ.out; omega) HST.out ?_); intro W10 hB1 hF1; replace H := hide (H.out.store 2 rfl hF1 hB1); clear hB1 hF1))
      have H0 := H
      clear H
      go_loopw [14] (fun i wr => ∃ r : Nat, r ≤ 2 ∧ i = .int .i64 r ∧ OAt w [(g6, 24, cellsB x), (g7, 29, cellsB key), (g12, 39, pktC P2)] wr) (fun i _ => 2 - (intOf i).toNat)
      case atStart => exact ⟨0, by omega, rfl, H0.out⟩
      case round =>
        clear H0
        obtain ⟨r, hr2, rfl, hat⟩ := hrel
        have H := hide hat
        clear hat
        have hrc : r = 0 ∨ r = 1 ∨ r = 2 := by omega
        rcases hrc with hr0 | hr0 | hr0
        · have hq1 : (r : Int) < 2 := by omega
          have hq2 : decide ((r : Int) < 2) = true := decide_eq_true hq1
          have hq3 : ¬ (r : Int) = 1 := by omega
          have hq4 : decide ((r : Int) = 1) = false := decide_eq_false hq3
          have hq5 : ((r : Int) == 1) = false := beq_eq_false_iff_ne.2 hq3
          have HR0 := hide hr0
          clear hr0
          by_cases heq : macO key P2 = P2.mac
          · have HP1 := hide (HPE.out key HKl.out P2 HO2.out)
            have hiff := peelE_four key P2
            have HS1 := hide (slotC_length (peelS key P2) (peelS_ok key HO2.out).nonce (peelS_ok key HO2.out).mac)
            have HQ1 := hide (pktC_length (peelP_ok key HO2.out))
            have HOF := hide (HPOF.out P2 HO2.out)
            have HMC := hide (HPMC.out key HKl.out P2 HO2.out)
            have HCK : Hid (((cellsB key).drop 0).take 32 = cellsB key) := by show _ = _; rw [List.drop_zero, List.take_of_length_le (by rw [HKc.out]; exact Nat.le_refl _)]
            have HCM := hide (pktC_mac HO2.out)
            have HML := hide HO2.out.mac
            generalize peelE key P2 = E at *
            generalize peelS key P2 = S0 at *
            generalize peelP key P2 = Q0 at *
            obtain ⟨sx, hsx⟩ : ∃ s : ByteArray, s = ⟨(macO key P2).toArray⟩ := ⟨_, rfl⟩
            obtain ⟨sy, hsy⟩ : ∃ s : ByteArray, s = ⟨P2.mac.toArray⟩ := ⟨_, rfl⟩
            have HSY := hide hsy
            rw [← hsx] at HMC
            have hE : ¬ E = 4 := by rw [hiff]; exact fun h => h heq
            have hE2 : (E == 4) = false := beq_eq_false_iff_ne.2 hE
            have hE3 : decide (E = 4) = false := decide_eq_false hE
            have hxy : sx = sy := by rw [hsx, hsy, heq]
            subst hxy
            clear hsx hsy hiff heq
            go_wp2_with (first
              | (with_reducible refine at_op (op := ⟨some 98, _, _, _, _, _⟩) ?_; refine wpl_held (op := ⟨some 98, _, _, _, _, _⟩) (.agg (cellsB key).toArray) (held_loadf aggK _ rfl g7 rfl _ (cellsB key) (H.out.get 1 rfl) HKc.out) rfl ?_)
              | (with_reducible refine at_op (op := ⟨some 15, _, _, _, _, _⟩) ?_; (with_reducible refine wpl_alloca (op := ⟨some 15, _, _, _, _, _⟩) rfl _ rfl _ zeroK ?_); intro g15 V15 hB1 hg1 hF1; go_simp; (with_reducible refine wpl_storea aggK rfl (.tmp 15) (.tmp 98) rfl g15 (cellsB key) rfl rfl _ _ hB1 HKc.out zl_K (cellsB_one _) ?_); intro V1 hB2 hF2; replace H := hide (H.out.var hg1 hF1 hF2 hB2); clear hB1 hg1 hF1 hB2 hF2)
              | (with_reducible refine at_op (op := ⟨some 106, _, _, _, _, _⟩) ?_; refine wpl_held (op := ⟨some 106, _, _, _, _, _⟩) (.agg (cellsB key).toArray) (held_loadf aggK _ rfl g15 rfl _ (cellsB key) (H.out.get 3 rfl) HKc.out) rfl ?_)
              | (with_reducible refine at_op (op := ⟨some 107, _, _, _, _, _⟩) ?_; refine wpl_held (op := ⟨some 107, _, _, _, _, _⟩) (.agg (pktC P2).toArray) (held_loadf aggP _ rfl g12 rfl _ (pktC P2) (H.out.get 2 rfl) HL2.out) rfl ?_)
              | (go_at_call 10; with_reducible refine (HP1.out _ H.out.tb).mono ?_; rintro e V3 ⟨rfl, hbc⟩; replace H := hide (H.out.call hbc); clear hbc)
              | (with_reducible refine at_op (op := ⟨some 16, _, _, _, _, _⟩) ?_; (with_reducible refine wpl_alloca (op := ⟨some 16, _, _, _, _, _⟩) rfl _ rfl _ zeroS ?_); intro g16 V4 hB1 hg1 hF1; replace H := hide (H.out.box hg1 hF1 hB1); clear hB1 hg1 hF1)
              | (with_reducible refine at_op (op := ⟨some 17, _, _, _, _, _⟩) ?_; (with_reducible refine wpl_alloca (op := ⟨some 17, _, _, _, _, _⟩) rfl _ rfl _ zeroP ?_); intro g17 V5 hB1 hg1 hF1; replace H := hide (H.out.box hg1 hF1 hB1); clear hB1 hg1 hF1)
              | (with_reducible refine at_op (op := ⟨none, .store _ (.tmp 16) (.tmp 109), _, _, _, _⟩) ?_; (with_reducible refine wpl_storea aggS rfl (.tmp 16) (.tmp 109) rfl g16 (slotC S0) rfl rfl _ _ (H.out.get 4 rfl) HS1.out (slot0_len) (slotC_one _) ?_); intro V6 hB1 hF1; replace H := hide (H.out.store 4 rfl hF1 hB1); clear hB1 hF1)
              | (with_reducible refine at_op (op := ⟨none, .store _ (.tmp 17) (.tmp 110), _, _, _, _⟩) ?_; (with_reducible refine wpl_storea aggP rfl (.tmp 17) (.tmp 110) rfl g17 (pktC Q0) rfl rfl _ _ (H.out.get 5 rfl) HQ1.out (pkt0_len) (pktC_one _) ?_); intro V7 hB1 hF1; replace H := hide (H.out.store 5 rfl hF1 hB1); clear hB1 hF1))
            obtain ⟨N, hN⟩ : ∃ N, N = V7.heap.size := ⟨_, rfl⟩
            have hq : Below N V7 V7 := hN ▸ Below.refl _ _
            have HA := hide (fun W' (h : Below N V7 W') => H.out.call (hN ▸ h))
            have HC := hide (fun W' (h : Below N V7 W') W'' (k : Below W'.heap.size W' W'') => h.trans (k.mono (by rw [hN]; exact h.size)))
            have hqo : ∀ W', Below N V7 W' → Calls Tryd.prog 12 #[.agg (pktC P2).toArray] W' (fun e w'' => e = .returned (.agg (rpktC P2).toArray) ∧ Below N V7 w'') := fun W' h => (HOF.out W' (HA.out W' h).tb).mono (fun e w'' ⟨he, hb⟩ => ⟨he, HC.out W' h w'' hb⟩)
            have hqm : ∀ W', Below N V7 W' → Calls Tryd.prog 11 #[.string ⟨(key).toArray⟩, .agg (rpktC P2).toArray] W' (fun e w'' => e = .returned (.string sx) ∧ Below N V7 w'') := fun W' h => (HMC.out W' (HA.out W' h).tb).mono (fun e w'' ⟨he, hb⟩ => ⟨he, HC.out W' h w'' hb⟩)
            clear hN
            refine wp_region_class (fun W' => Below N V7 W') (by kernel_rfl) (by kernel_rfl) (below_drewN hq 1) ?_
            with_reducible refine wpQuiet_step ?_
            intro K hK
            go_simp
            first | (refine hK _ ?_; clear hK K) | (refine ⟨_, fun w' hw' => rfl, hK _ ?_⟩; clear hK K)
            with_reducible refine wpQuiet_step ?_
            intro K hK
            go_simp
            first | (refine hK _ ?_; clear hK K) | (refine ⟨_, fun w' hw' => rfl, hK _ ?_⟩; clear hK K)
            with_reducible refine wpQuiet_step ?_
            intro K hK
            go_simp
            first | (refine hK _ ?_; clear hK K) | (refine ⟨_, fun w' hw' => rfl, hK _ ?_⟩; clear hK K)
            with_reducible refine wpQuiet_step ?_
            intro K hK
            refine quiet_val (.string ⟨(key).toArray⟩) (fun w' hw' => held_convR _ rfl (some ⟨g15, 0, none⟩) 32 32 rfl (key) (((HA.out w' hw').get 3 rfl).mid 0 32 (key) HCK.out HKl.out)) ?_ rfl
            go_simp
            refine hK _ ?_
            clear hK K
            with_reducible refine wpQuiet_step ?_
            intro K hK
            refine quiet_val (.agg (pktC P2).toArray) (fun w' hw' => held_loadf aggP _ rfl g12 rfl _ (pktC P2) ((HA.out w' hw').get 2 rfl) HL2.out) ?_ rfl
            go_simp
            refine hK _ ?_
            clear hK K
            with_reducible refine wpQuiet_step ?_
            intro K hK
            go_simp
            refine ⟨_, hqo, hK _ ?_⟩
            clear hK K
            with_reducible refine wpQuiet_step ?_
            intro K hK
            go_simp
            refine ⟨_, hqm, hK _ ?_⟩
            clear hK K
            with_reducible refine wpQuiet_step ?_
            intro K hK
            go_simp
            first | (refine hK _ ?_; clear hK K) | (refine ⟨_, fun w' hw' => rfl, hK _ ?_⟩; clear hK K)
            with_reducible refine wpQuiet_step ?_
            intro K hK
            go_simp
            first | (refine hK _ ?_; clear hK K) | (refine ⟨_, fun w' hw' => rfl, hK _ ?_⟩; clear hK K)
            with_reducible refine wpQuiet_step ?_
            intro K hK
            refine quiet_val (.string sx) (fun w' hw' => held_macS _ rfl g12 rfl P2 sx HSY.out ((HA.out w' hw').get 2 rfl) HCM.out HML.out) ?_ rfl
            go_simp
            refine hK _ ?_
            clear hK K
            with_reducible refine wpQuiet_step ?_
            intro K hK
            go_simp
            first | (refine hK _ ?_; clear hK K) | (refine ⟨_, fun w' hw' => rfl, hK _ ?_⟩; clear hK K)
            with_reducible refine wpQuiet_step ?_
            intro K hK
            go_simp
            first | (refine hK _ ?_; clear hK K) | (refine ⟨_, fun w' hw' => rfl, hK _ ?_⟩; clear hK K)
            refine wpQuiet_nil ?_
            clear hq
            intro wq hwq
            replace H := hide (HA.out wq hwq)
            clear HA HC hwq
            go_wp2_with fail
            replace H := hide (H.out.pre 3)
            go_roundw
            case rel => exact ⟨r + 1, by omega, by go_num, H.out⟩
            case measure => simp [intOf]; omega
          · have HP1 := hide (HPE.out key HKl.out P2 HO2.out)
            have hiff := peelE_four key P2
            have HS1 := hide (slotC_length (peelS key P2) (peelS_ok key HO2.out).nonce (peelS_ok key HO2.out).mac)
            have HQ1 := hide (pktC_length (peelP_ok key HO2.out))
            have HOF := hide (HPOF.out P2 HO2.out)
            have HMC := hide (HPMC.out key HKl.out P2 HO2.out)
            have HCK : Hid (((cellsB key).drop 0).take 32 = cellsB key) := by show _ = _; rw [List.drop_zero, List.take_of_length_le (by rw [HKc.out]; exact Nat.le_refl _)]
            have HCM := hide (pktC_mac HO2.out)
            have HML := hide HO2.out.mac
            generalize peelE key P2 = E at *
            generalize peelS key P2 = S0 at *
            generalize peelP key P2 = Q0 at *
            obtain ⟨sx, hsx⟩ : ∃ s : ByteArray, s = ⟨(macO key P2).toArray⟩ := ⟨_, rfl⟩
            obtain ⟨sy, hsy⟩ : ∃ s : ByteArray, s = ⟨P2.mac.toArray⟩ := ⟨_, rfl⟩
            have HSY := hide hsy
            rw [← hsx] at HMC
            have hE : E = 4 := hiff.2 heq
            have hxy : ¬ sx = sy := fun h => heq (by
              have h2 : (⟨(macO key P2).toArray⟩ : ByteArray) = ⟨P2.mac.toArray⟩ := by rw [← hsx, ← hsy, h]
              have h3 := congrArg (fun s : ByteArray => s.data.toList) h2
              simpa using h3)
            have hxy2 : (sx.toList == sy.toList) = false := by rw [hsx, hsy, txt_eqM]; exact beq_eq_false_iff_ne.2 heq
            have hxy3 : decide (sx = sy) = false := decide_eq_false hxy
            subst hE
            clear hsx hsy hiff heq
            go_wp2_with (first
              | (with_reducible refine at_op (op := ⟨some 98, _, _, _, _, _⟩) ?_; refine wpl_held (op := ⟨some 98, _, _, _, _, _⟩) (.agg (cellsB key).toArray) (held_loadf aggK _ rfl g7 rfl _ (cellsB key) (H.out.get 1 rfl) HKc.out) rfl ?_)
              | (with_reducible refine at_op (op := ⟨some 15, _, _, _, _, _⟩) ?_; (with_reducible refine wpl_alloca (op := ⟨some 15, _, _, _, _, _⟩) rfl _ rfl _ zeroK ?_); intro g15 V15 hB1 hg1 hF1; go_simp; (with_reducible refine wpl_storea aggK rfl (.tmp 15) (.tmp 98) rfl g15 (cellsB key) rfl rfl _ _ hB1 HKc.out zl_K (cellsB_one _) ?_); intro V1 hB2 hF2; replace H := hide (H.out.var hg1 hF1 hF2 hB2); clear hB1 hg1 hF1 hB2 hF2)
              | (with_reducible refine at_op (op := ⟨some 106, _, _, _, _, _⟩) ?_; refine wpl_held (op := ⟨some 106, _, _, _, _, _⟩) (.agg (cellsB key).toArray) (held_loadf aggK _ rfl g15 rfl _ (cellsB key) (H.out.get 3 rfl) HKc.out) rfl ?_)
              | (with_reducible refine at_op (op := ⟨some 107, _, _, _, _, _⟩) ?_; refine wpl_held (op := ⟨some 107, _, _, _, _, _⟩) (.agg (pktC P2).toArray) (held_loadf aggP _ rfl g12 rfl _ (pktC P2) (H.out.get 2 rfl) HL2.out) rfl ?_)
              | (go_at_call 10; with_reducible refine (HP1.out _ H.out.tb).mono ?_; rintro e V3 ⟨rfl, hbc⟩; replace H := hide (H.out.call hbc); clear hbc)
              | (with_reducible refine at_op (op := ⟨some 16, _, _, _, _, _⟩) ?_; (with_reducible refine wpl_alloca (op := ⟨some 16, _, _, _, _, _⟩) rfl _ rfl _ zeroS ?_); intro g16 V4 hB1 hg1 hF1; replace H := hide (H.out.box hg1 hF1 hB1); clear hB1 hg1 hF1)
              | (with_reducible refine at_op (op := ⟨some 17, _, _, _, _, _⟩) ?_; (with_reducible refine wpl_alloca (op := ⟨some 17, _, _, _, _, _⟩) rfl _ rfl _ zeroP ?_); intro g17 V5 hB1 hg1 hF1; replace H := hide (H.out.box hg1 hF1 hB1); clear hB1 hg1 hF1)
              | (with_reducible refine at_op (op := ⟨none, .store _ (.tmp 16) (.tmp 109), _, _, _, _⟩) ?_; (with_reducible refine wpl_storea aggS rfl (.tmp 16) (.tmp 109) rfl g16 (slotC S0) rfl rfl _ _ (H.out.get 4 rfl) HS1.out (slot0_len) (slotC_one _) ?_); intro V6 hB1 hF1; replace H := hide (H.out.store 4 rfl hF1 hB1); clear hB1 hF1)
              | (with_reducible refine at_op (op := ⟨none, .store _ (.tmp 17) (.tmp 110), _, _, _, _⟩) ?_; (with_reducible refine wpl_storea aggP rfl (.tmp 17) (.tmp 110) rfl g17 (pktC Q0) rfl rfl _ _ (H.out.get 5 rfl) HQ1.out (pkt0_len) (pktC_one _) ?_); intro V7 hB1 hF1; replace H := hide (H.out.store 5 rfl hF1 hB1); clear hB1 hF1))
            obtain ⟨N, hN⟩ : ∃ N, N = V7.heap.size := ⟨_, rfl⟩
            have hq : Below N V7 V7 := hN ▸ Below.refl _ _
            have HA := hide (fun W' (h : Below N V7 W') => H.out.call (hN ▸ h))
            have HC := hide (fun W' (h : Below N V7 W') W'' (k : Below W'.heap.size W' W'') => h.trans (k.mono (by rw [hN]; exact h.size)))
            have hqo : ∀ W', Below N V7 W' → Calls Tryd.prog 12 #[.agg (pktC P2).toArray] W' (fun e w'' => e = .returned (.agg (rpktC P2).toArray) ∧ Below N V7 w'') := fun W' h => (HOF.out W' (HA.out W' h).tb).mono (fun e w'' ⟨he, hb⟩ => ⟨he, HC.out W' h w'' hb⟩)
            have hqm : ∀ W', Below N V7 W' → Calls Tryd.prog 11 #[.string ⟨(key).toArray⟩, .agg (rpktC P2).toArray] W' (fun e w'' => e = .returned (.string sx) ∧ Below N V7 w'') := fun W' h => (HMC.out W' (HA.out W' h).tb).mono (fun e w'' ⟨he, hb⟩ => ⟨he, HC.out W' h w'' hb⟩)
            clear hN
            refine wp_region_class (fun W' => Below N V7 W') (by kernel_rfl) (by kernel_rfl) (below_drewN hq 1) ?_
            with_reducible refine wpQuiet_step ?_
            intro K hK
            go_simp
            first | (refine hK _ ?_; clear hK K) | (refine ⟨_, fun w' hw' => rfl, hK _ ?_⟩; clear hK K)
            with_reducible refine wpQuiet_step ?_
            intro K hK
            go_simp
            first | (refine hK _ ?_; clear hK K) | (refine ⟨_, fun w' hw' => rfl, hK _ ?_⟩; clear hK K)
            with_reducible refine wpQuiet_step ?_
            intro K hK
            go_simp
            first | (refine hK _ ?_; clear hK K) | (refine ⟨_, fun w' hw' => rfl, hK _ ?_⟩; clear hK K)
            with_reducible refine wpQuiet_step ?_
            intro K hK
            refine quiet_val (.string ⟨(key).toArray⟩) (fun w' hw' => held_convR _ rfl (some ⟨g15, 0, none⟩) 32 32 rfl (key) (((HA.out w' hw').get 3 rfl).mid 0 32 (key) HCK.out HKl.out)) ?_ rfl
            go_simp
            refine hK _ ?_
            clear hK K
            with_reducible refine wpQuiet_step ?_
            intro K hK
            refine quiet_val (.agg (pktC P2).toArray) (fun w' hw' => held_loadf aggP _ rfl g12 rfl _ (pktC P2) ((HA.out w' hw').get 2 rfl) HL2.out) ?_ rfl
            go_simp
            refine hK _ ?_
            clear hK K
            with_reducible refine wpQuiet_step ?_
            intro K hK
            go_simp
            refine ⟨_, hqo, hK _ ?_⟩
            clear hK K
            with_reducible refine wpQuiet_step ?_
            intro K hK
            go_simp
            refine ⟨_, hqm, hK _ ?_⟩
            clear hK K
            with_reducible refine wpQuiet_step ?_
            intro K hK
            go_simp
            first | (refine hK _ ?_; clear hK K) | (refine ⟨_, fun w' hw' => rfl, hK _ ?_⟩; clear hK K)
            with_reducible refine wpQuiet_step ?_
            intro K hK
            go_simp
            first | (refine hK _ ?_; clear hK K) | (refine ⟨_, fun w' hw' => rfl, hK _ ?_⟩; clear hK K)
            with_reducible refine wpQuiet_step ?_
            intro K hK
            refine quiet_val (.string sy) (fun w' hw' => held_macS _ rfl g12 rfl P2 sy HSY.out ((HA.out w' hw').get 2 rfl) HCM.out HML.out) ?_ rfl
            go_simp
            refine hK _ ?_
            clear hK K
            with_reducible refine wpQuiet_step ?_
            intro K hK
            go_simp
            first | (refine hK _ ?_; clear hK K) | (refine ⟨_, fun w' hw' => rfl, hK _ ?_⟩; clear hK K)
            with_reducible refine wpQuiet_step ?_
            intro K hK
            go_simp
            first | (refine hK _ ?_; clear hK K) | (refine ⟨_, fun w' hw' => rfl, hK _ ?_⟩; clear hK K)
            refine wpQuiet_nil ?_
            clear hq
            intro wq hwq
            replace H := hide (HA.out wq hwq)
            clear HA HC hwq
            go_wp2_with fail
            replace H := hide (H.out.pre 3)
            go_roundw
            case rel => exact ⟨r + 1, by omega, by go_num, H.out⟩
            case measure => simp [intOf]; omega
        · have hq1 : (r : Int) < 2 := by omega
          have hq2 : decide ((r : Int) < 2) = true := decide_eq_true hq1
          have hq3 : (r : Int) = 1 := by omega
          have hq4 : decide ((r : Int) = 1) = true := decide_eq_true hq3
          have hq5 : ((r : Int) == 1) = true := beq_iff_eq.2 hq3
          clear hq3
          have HR0 := hide hr0
          clear hr0
          obtain ⟨p0, rfl, _⟩ := HR.out.at' H1M.out
          have HKK := hide ((HR.out.below H.out.bel).key H1M.out)
          obtain ⟨K0, hK0⟩ : ∃ K0, K0 = (hs.getD 0 hop0).key := ⟨_, rfl⟩
          have HK0l : Hid (K0.length = 32) := by show _ = _; rw [hK0]; exact (HOK.out _ (hop_mem (by rw [HLEN.out]; exact H1M.out))).key
          have HK0c := hide (cl HK0l.out)
          have HKK : Hid (∀ W, Below w.heap.size w W → ∀ q u, (cellsB K0)[q]? = some u → W.cell? (((p0.add (0 * 54)).add 2).add q) = some u) := fun W hb => by rw [hK0]; exact (HR.out.below hb).key H1M.out
          clear hK0
          by_cases heq : macO K0 P2 = P2.mac
          · have HP1 := hide (HPE.out K0 HK0l.out P2 HO2.out)
            have hiff := peelE_four K0 P2
            have HS1 := hide (slotC_length (peelS K0 P2) (peelS_ok K0 HO2.out).nonce (peelS_ok K0 HO2.out).mac)
            have HQ1 := hide (pktC_length (peelP_ok K0 HO2.out))
            have HOF := hide (HPOF.out P2 HO2.out)
            have HMC := hide (HPMC.out K0 HK0l.out P2 HO2.out)
            have HCK : Hid (((cellsB K0).drop 0).take 32 = cellsB K0) := by show _ = _; rw [List.drop_zero, List.take_of_length_le (by rw [HK0c.out]; exact Nat.le_refl _)]
            have HCM := hide (pktC_mac HO2.out)
            have HML := hide HO2.out.mac
            generalize peelE K0 P2 = E at *
            generalize peelS K0 P2 = S0 at *
            generalize peelP K0 P2 = Q0 at *
            obtain ⟨sx, hsx⟩ : ∃ s : ByteArray, s = ⟨(macO K0 P2).toArray⟩ := ⟨_, rfl⟩
            obtain ⟨sy, hsy⟩ : ∃ s : ByteArray, s = ⟨P2.mac.toArray⟩ := ⟨_, rfl⟩
            have HSY := hide hsy
            rw [← hsx] at HMC
            have hE : ¬ E = 4 := by rw [hiff]; exact fun h => h heq
            have hE2 : (E == 4) = false := beq_eq_false_iff_ne.2 hE
            have hE3 : decide (E = 4) = false := decide_eq_false hE
            have hxy : sx = sy := by rw [hsx, hsy, heq]
            subst hxy
            clear hsx hsy hiff heq
            go_wp2_with (first
              | (with_reducible refine at_op (op := ⟨some 98, _, _, _, _, _⟩) ?_; refine wpl_held (op := ⟨some 98, _, _, _, _, _⟩) (.agg (cellsB key).toArray) (held_loadf aggK _ rfl g7 rfl _ (cellsB key) (H.out.get 1 rfl) HKc.out) rfl ?_)
              | (with_reducible refine at_op (op := ⟨some 15, _, _, _, _, _⟩) ?_; (with_reducible refine wpl_alloca (op := ⟨some 15, _, _, _, _, _⟩) rfl _ rfl _ zeroK ?_); intro g15 V15 hB1 hg1 hF1; go_simp; (with_reducible refine wpl_storea aggK rfl (.tmp 15) (.tmp 98) rfl g15 (cellsB key) rfl rfl _ _ hB1 HKc.out zl_K (cellsB_one _) ?_); intro V1 hB2 hF2; replace H := hide (H.out.var hg1 hF1 hF2 hB2); clear hB1 hg1 hF1 hB2 hF2)
              | (with_reducible refine at_op (op := ⟨some 104, _, _, _, _, _⟩) ?_; refine wpl_held (op := ⟨some 104, _, _, _, _, _⟩) (.agg (cellsB K0).toArray) (held_loadC aggK _ rfl ((p0.add (0 * 54)).add 2) rfl (cellsB K0) HK0c.out (HKK.out _ H.out.bel)) rfl ?_)
              | (with_reducible refine at_op (op := ⟨none, .store _ (.tmp 15) (.tmp 104), _, _, _, _⟩) ?_; (with_reducible refine wpl_storea aggK rfl (.tmp 15) (.tmp 104) rfl g15 (cellsB K0) rfl rfl _ _ (H.out.get 3 rfl) HK0c.out (cls HKl.out) (cellsB_one _) ?_); intro V2 hB1 hF1; replace H := hide (H.out.store 3 rfl hF1 hB1); clear hB1 hF1)
              | (with_reducible refine at_op (op := ⟨some 106, _, _, _, _, _⟩) ?_; refine wpl_held (op := ⟨some 106, _, _, _, _, _⟩) (.agg (cellsB K0).toArray) (held_loadf aggK _ rfl g15 rfl _ (cellsB K0) (H.out.get 3 rfl) HK0c.out) rfl ?_)
              | (with_reducible refine at_op (op := ⟨some 107, _, _, _, _, _⟩) ?_; refine wpl_held (op := ⟨some 107, _, _, _, _, _⟩) (.agg (pktC P2).toArray) (held_loadf aggP _ rfl g12 rfl _ (pktC P2) (H.out.get 2 rfl) HL2.out) rfl ?_)
              | (go_at_call 10; with_reducible refine (HP1.out _ H.out.tb).mono ?_; rintro e V3 ⟨rfl, hbc⟩; replace H := hide (H.out.call hbc); clear hbc)
              | (with_reducible refine at_op (op := ⟨some 16, _, _, _, _, _⟩) ?_; (with_reducible refine wpl_alloca (op := ⟨some 16, _, _, _, _, _⟩) rfl _ rfl _ zeroS ?_); intro g16 V4 hB1 hg1 hF1; replace H := hide (H.out.box hg1 hF1 hB1); clear hB1 hg1 hF1)
              | (with_reducible refine at_op (op := ⟨some 17, _, _, _, _, _⟩) ?_; (with_reducible refine wpl_alloca (op := ⟨some 17, _, _, _, _, _⟩) rfl _ rfl _ zeroP ?_); intro g17 V5 hB1 hg1 hF1; replace H := hide (H.out.box hg1 hF1 hB1); clear hB1 hg1 hF1)
              | (with_reducible refine at_op (op := ⟨none, .store _ (.tmp 16) (.tmp 109), _, _, _, _⟩) ?_; (with_reducible refine wpl_storea aggS rfl (.tmp 16) (.tmp 109) rfl g16 (slotC S0) rfl rfl _ _ (H.out.get 4 rfl) HS1.out (slot0_len) (slotC_one _) ?_); intro V6 hB1 hF1; replace H := hide (H.out.store 4 rfl hF1 hB1); clear hB1 hF1)
              | (with_reducible refine at_op (op := ⟨none, .store _ (.tmp 17) (.tmp 110), _, _, _, _⟩) ?_; (with_reducible refine wpl_storea aggP rfl (.tmp 17) (.tmp 110) rfl g17 (pktC Q0) rfl rfl _ _ (H.out.get 5 rfl) HQ1.out (pkt0_len) (pktC_one _) ?_); intro V7 hB1 hF1; replace H := hide (H.out.store 5 rfl hF1 hB1); clear hB1 hF1))
            obtain ⟨N, hN⟩ : ∃ N, N = V7.heap.size := ⟨_, rfl⟩
            have hq : Below N V7 V7 := hN ▸ Below.refl _ _
            have HA := hide (fun W' (h : Below N V7 W') => H.out.call (hN ▸ h))
            have HC := hide (fun W' (h : Below N V7 W') W'' (k : Below W'.heap.size W' W'') => h.trans (k.mono (by rw [hN]; exact h.size)))
            have hqo : ∀ W', Below N V7 W' → Calls Tryd.prog 12 #[.agg (pktC P2).toArray] W' (fun e w'' => e = .returned (.agg (rpktC P2).toArray) ∧ Below N V7 w'') := fun W' h => (HOF.out W' (HA.out W' h).tb).mono (fun e w'' ⟨he, hb⟩ => ⟨he, HC.out W' h w'' hb⟩)
            have hqm : ∀ W', Below N V7 W' → Calls Tryd.prog 11 #[.string ⟨(K0).toArray⟩, .agg (rpktC P2).toArray] W' (fun e w'' => e = .returned (.string sx) ∧ Below N V7 w'') := fun W' h => (HMC.out W' (HA.out W' h).tb).mono (fun e w'' ⟨he, hb⟩ => ⟨he, HC.out W' h w'' hb⟩)
            clear hN
            refine wp_region_class (fun W' => Below N V7 W') (by kernel_rfl) (by kernel_rfl) (below_drewN hq 1) ?_
            with_reducible refine wpQuiet_step ?_
            intro K hK
            go_simp
            first | (refine hK _ ?_; clear hK K) | (refine ⟨_, fun w' hw' => rfl, hK _ ?_⟩; clear hK K)
            with_reducible refine wpQuiet_step ?_
            intro K hK
            go_simp
            first | (refine hK _ ?_; clear hK K) | (refine ⟨_, fun w' hw' => rfl, hK _ ?_⟩; clear hK K)
            with_reducible refine wpQuiet_step ?_
            intro K hK
            go_simp
            first | (refine hK _ ?_; clear hK K) | (refine ⟨_, fun w' hw' => rfl, hK _ ?_⟩; clear hK K)
            with_reducible refine wpQuiet_step ?_
            intro K hK
            refine quiet_val (.string ⟨(K0).toArray⟩) (fun w' hw' => held_convR _ rfl (some ⟨g15, 0, none⟩) 32 32 rfl (K0) (((HA.out w' hw').get 3 rfl).mid 0 32 (K0) HCK.out HK0l.out)) ?_ rfl
            go_simp
            refine hK _ ?_
            clear hK K
            with_reducible refine wpQuiet_step ?_
            intro K hK
            refine quiet_val (.agg (pktC P2).toArray) (fun w' hw' => held_loadf aggP _ rfl g12 rfl _ (pktC P2) ((HA.out w' hw').get 2 rfl) HL2.out) ?_ rfl
            go_simp
            refine hK _ ?_
            clear hK K
            with_reducible refine wpQuiet_step ?_
            intro K hK
            go_simp
            refine ⟨_, hqo, hK _ ?_⟩
            clear hK K
            with_reducible refine wpQuiet_step ?_
            intro K hK
            go_simp
            refine ⟨_, hqm, hK _ ?_⟩
            clear hK K
            with_reducible refine wpQuiet_step ?_
            intro K hK
            go_simp
            first | (refine hK _ ?_; clear hK K) | (refine ⟨_, fun w' hw' => rfl, hK _ ?_⟩; clear hK K)
            with_reducible refine wpQuiet_step ?_
            intro K hK
            go_simp
            first | (refine hK _ ?_; clear hK K) | (refine ⟨_, fun w' hw' => rfl, hK _ ?_⟩; clear hK K)
            with_reducible refine wpQuiet_step ?_
            intro K hK
            refine quiet_val (.string sx) (fun w' hw' => held_macS _ rfl g12 rfl P2 sx HSY.out ((HA.out w' hw').get 2 rfl) HCM.out HML.out) ?_ rfl
            go_simp
            refine hK _ ?_
            clear hK K
            with_reducible refine wpQuiet_step ?_
            intro K hK
            go_simp
            first | (refine hK _ ?_; clear hK K) | (refine ⟨_, fun w' hw' => rfl, hK _ ?_⟩; clear hK K)
            with_reducible refine wpQuiet_step ?_
            intro K hK
            go_simp
            first | (refine hK _ ?_; clear hK K) | (refine ⟨_, fun w' hw' => rfl, hK _ ?_⟩; clear hK K)
            refine wpQuiet_nil ?_
            clear hq
            intro wq hwq
            replace H := hide (HA.out wq hwq)
            clear HA HC hwq
            go_wp2_with fail
            replace H := hide (H.out.pre 3)
            go_roundw
            case rel => exact ⟨r + 1, by omega, by go_num, H.out⟩
            case measure => simp [intOf]; omega
          · have HP1 := hide (HPE.out K0 HK0l.out P2 HO2.out)
            have hiff := peelE_four K0 P2
            have HS1 := hide (slotC_length (peelS K0 P2) (peelS_ok K0 HO2.out).nonce (peelS_ok K0 HO2.out).mac)
            have HQ1 := hide (pktC_length (peelP_ok K0 HO2.out))
            have HOF := hide (HPOF.out P2 HO2.out)
            have HMC := hide (HPMC.out K0 HK0l.out P2 HO2.out)
            have HCK : Hid (((cellsB K0).drop 0).take 32 = cellsB K0) := by show _ = _; rw [List.drop_zero, List.take_of_length_le (by rw [HK0c.out]; exact Nat.le_refl _)]
            have HCM := hide (pktC_mac HO2.out)
            have HML := hide HO2.out.mac
            generalize peelE K0 P2 = E at *
            generalize peelS K0 P2 = S0 at *
            generalize peelP K0 P2 = Q0 at *
            obtain ⟨sx, hsx⟩ : ∃ s : ByteArray, s = ⟨(macO K0 P2).toArray⟩ := ⟨_, rfl⟩
            obtain ⟨sy, hsy⟩ : ∃ s : ByteArray, s = ⟨P2.mac.toArray⟩ := ⟨_, rfl⟩
            have HSY := hide hsy
            rw [← hsx] at HMC
            have hE : E = 4 := hiff.2 heq
            have hxy : ¬ sx = sy := fun h => heq (by
              have h2 : (⟨(macO K0 P2).toArray⟩ : ByteArray) = ⟨P2.mac.toArray⟩ := by rw [← hsx, ← hsy, h]
              have h3 := congrArg (fun s : ByteArray => s.data.toList) h2
              simpa using h3)
            have hxy2 : (sx.toList == sy.toList) = false := by rw [hsx, hsy, txt_eqM]; exact beq_eq_false_iff_ne.2 heq
            have hxy3 : decide (sx = sy) = false := decide_eq_false hxy
            subst hE
            clear hsx hsy hiff heq
            go_wp2_with (first
              | (with_reducible refine at_op (op := ⟨some 98, _, _, _, _, _⟩) ?_; refine wpl_held (op := ⟨some 98, _, _, _, _, _⟩) (.agg (cellsB key).toArray) (held_loadf aggK _ rfl g7 rfl _ (cellsB key) (H.out.get 1 rfl) HKc.out) rfl ?_)
              | (with_reducible refine at_op (op := ⟨some 15, _, _, _, _, _⟩) ?_; (with_reducible refine wpl_alloca (op := ⟨some 15, _, _, _, _, _⟩) rfl _ rfl _ zeroK ?_); intro g15 V15 hB1 hg1 hF1; go_simp; (with_reducible refine wpl_storea aggK rfl (.tmp 15) (.tmp 98) rfl g15 (cellsB key) rfl rfl _ _ hB1 HKc.out zl_K (cellsB_one _) ?_); intro V1 hB2 hF2; replace H := hide (H.out.var hg1 hF1 hF2 hB2); clear hB1 hg1 hF1 hB2 hF2)
              | (with_reducible refine at_op (op := ⟨some 104, _, _, _, _, _⟩) ?_; refine wpl_held (op := ⟨some 104, _, _, _, _, _⟩) (.agg (cellsB K0).toArray) (held_loadC aggK _ rfl ((p0.add (0 * 54)).add 2) rfl (cellsB K0) HK0c.out (HKK.out _ H.out.bel)) rfl ?_)
              | (with_reducible refine at_op (op := ⟨none, .store _ (.tmp 15) (.tmp 104), _, _, _, _⟩) ?_; (with_reducible refine wpl_storea aggK rfl (.tmp 15) (.tmp 104) rfl g15 (cellsB K0) rfl rfl _ _ (H.out.get 3 rfl) HK0c.out (cls HKl.out) (cellsB_one _) ?_); intro V2 hB1 hF1; replace H := hide (H.out.store 3 rfl hF1 hB1); clear hB1 hF1)
              | (with_reducible refine at_op (op := ⟨some 106, _, _, _, _, _⟩) ?_; refine wpl_held (op := ⟨some 106, _, _, _, _, _⟩) (.agg (cellsB K0).toArray) (held_loadf aggK _ rfl g15 rfl _ (cellsB K0) (H.out.get 3 rfl) HK0c.out) rfl ?_)
              | (with_reducible refine at_op (op := ⟨some 107, _, _, _, _, _⟩) ?_; refine wpl_held (op := ⟨some 107, _, _, _, _, _⟩) (.agg (pktC P2).toArray) (held_loadf aggP _ rfl g12 rfl _ (pktC P2) (H.out.get 2 rfl) HL2.out) rfl ?_)
              | (go_at_call 10; with_reducible refine (HP1.out _ H.out.tb).mono ?_; rintro e V3 ⟨rfl, hbc⟩; replace H := hide (H.out.call hbc); clear hbc)
              | (with_reducible refine at_op (op := ⟨some 16, _, _, _, _, _⟩) ?_; (with_reducible refine wpl_alloca (op := ⟨some 16, _, _, _, _, _⟩) rfl _ rfl _ zeroS ?_); intro g16 V4 hB1 hg1 hF1; replace H := hide (H.out.box hg1 hF1 hB1); clear hB1 hg1 hF1)
              | (with_reducible refine at_op (op := ⟨some 17, _, _, _, _, _⟩) ?_; (with_reducible refine wpl_alloca (op := ⟨some 17, _, _, _, _, _⟩) rfl _ rfl _ zeroP ?_); intro g17 V5 hB1 hg1 hF1; replace H := hide (H.out.box hg1 hF1 hB1); clear hB1 hg1 hF1)
              | (with_reducible refine at_op (op := ⟨none, .store _ (.tmp 16) (.tmp 109), _, _, _, _⟩) ?_; (with_reducible refine wpl_storea aggS rfl (.tmp 16) (.tmp 109) rfl g16 (slotC S0) rfl rfl _ _ (H.out.get 4 rfl) HS1.out (slot0_len) (slotC_one _) ?_); intro V6 hB1 hF1; replace H := hide (H.out.store 4 rfl hF1 hB1); clear hB1 hF1)
              | (with_reducible refine at_op (op := ⟨none, .store _ (.tmp 17) (.tmp 110), _, _, _, _⟩) ?_; (with_reducible refine wpl_storea aggP rfl (.tmp 17) (.tmp 110) rfl g17 (pktC Q0) rfl rfl _ _ (H.out.get 5 rfl) HQ1.out (pkt0_len) (pktC_one _) ?_); intro V7 hB1 hF1; replace H := hide (H.out.store 5 rfl hF1 hB1); clear hB1 hF1))
            obtain ⟨N, hN⟩ : ∃ N, N = V7.heap.size := ⟨_, rfl⟩
            have hq : Below N V7 V7 := hN ▸ Below.refl _ _
            have HA := hide (fun W' (h : Below N V7 W') => H.out.call (hN ▸ h))
            have HC := hide (fun W' (h : Below N V7 W') W'' (k : Below W'.heap.size W' W'') => h.trans (k.mono (by rw [hN]; exact h.size)))
            have hqo : ∀ W', Below N V7 W' → Calls Tryd.prog 12 #[.agg (pktC P2).toArray] W' (fun e w'' => e = .returned (.agg (rpktC P2).toArray) ∧ Below N V7 w'') := fun W' h => (HOF.out W' (HA.out W' h).tb).mono (fun e w'' ⟨he, hb⟩ => ⟨he, HC.out W' h w'' hb⟩)
            have hqm : ∀ W', Below N V7 W' → Calls Tryd.prog 11 #[.string ⟨(K0).toArray⟩, .agg (rpktC P2).toArray] W' (fun e w'' => e = .returned (.string sx) ∧ Below N V7 w'') := fun W' h => (HMC.out W' (HA.out W' h).tb).mono (fun e w'' ⟨he, hb⟩ => ⟨he, HC.out W' h w'' hb⟩)
            clear hN
            refine wp_region_class (fun W' => Below N V7 W') (by kernel_rfl) (by kernel_rfl) (below_drewN hq 1) ?_
            with_reducible refine wpQuiet_step ?_
            intro K hK
            go_simp
            first | (refine hK _ ?_; clear hK K) | (refine ⟨_, fun w' hw' => rfl, hK _ ?_⟩; clear hK K)
            with_reducible refine wpQuiet_step ?_
            intro K hK
            go_simp
            first | (refine hK _ ?_; clear hK K) | (refine ⟨_, fun w' hw' => rfl, hK _ ?_⟩; clear hK K)
            with_reducible refine wpQuiet_step ?_
            intro K hK
            go_simp
            first | (refine hK _ ?_; clear hK K) | (refine ⟨_, fun w' hw' => rfl, hK _ ?_⟩; clear hK K)
            with_reducible refine wpQuiet_step ?_
            intro K hK
            refine quiet_val (.string ⟨(K0).toArray⟩) (fun w' hw' => held_convR _ rfl (some ⟨g15, 0, none⟩) 32 32 rfl (K0) (((HA.out w' hw').get 3 rfl).mid 0 32 (K0) HCK.out HK0l.out)) ?_ rfl
            go_simp
            refine hK _ ?_
            clear hK K
            with_reducible refine wpQuiet_step ?_
            intro K hK
            refine quiet_val (.agg (pktC P2).toArray) (fun w' hw' => held_loadf aggP _ rfl g12 rfl _ (pktC P2) ((HA.out w' hw').get 2 rfl) HL2.out) ?_ rfl
            go_simp
            refine hK _ ?_
            clear hK K
            with_reducible refine wpQuiet_step ?_
            intro K hK
            go_simp
            refine ⟨_, hqo, hK _ ?_⟩
            clear hK K
            with_reducible refine wpQuiet_step ?_
            intro K hK
            go_simp
            refine ⟨_, hqm, hK _ ?_⟩
            clear hK K
            with_reducible refine wpQuiet_step ?_
            intro K hK
            go_simp
            first | (refine hK _ ?_; clear hK K) | (refine ⟨_, fun w' hw' => rfl, hK _ ?_⟩; clear hK K)
            with_reducible refine wpQuiet_step ?_
            intro K hK
            go_simp
            first | (refine hK _ ?_; clear hK K) | (refine ⟨_, fun w' hw' => rfl, hK _ ?_⟩; clear hK K)
            with_reducible refine wpQuiet_step ?_
            intro K hK
            refine quiet_val (.string sy) (fun w' hw' => held_macS _ rfl g12 rfl P2 sy HSY.out ((HA.out w' hw').get 2 rfl) HCM.out HML.out) ?_ rfl
            go_simp
            refine hK _ ?_
            clear hK K
            with_reducible refine wpQuiet_step ?_
            intro K hK
            go_simp
            first | (refine hK _ ?_; clear hK K) | (refine ⟨_, fun w' hw' => rfl, hK _ ?_⟩; clear hK K)
            with_reducible refine wpQuiet_step ?_
            intro K hK
            go_simp
            first | (refine hK _ ?_; clear hK K) | (refine ⟨_, fun w' hw' => rfl, hK _ ?_⟩; clear hK K)
            refine wpQuiet_nil ?_
            clear hq
            intro wq hwq
            replace H := hide (HA.out wq hwq)
            clear HA HC hwq
            go_wp2_with fail
            replace H := hide (H.out.pre 3)
            go_roundw
            case rel => exact ⟨r + 1, by omega, by go_num, H.out⟩
            case measure => simp [intOf]; omega
        · have hq1 : ¬ (r : Int) < 2 := by omega
          have hq2 : decide ((r : Int) < 2) = false := decide_eq_false hq1
          have HR0 := hide hr0
          clear hr0
          go_wp2_with fail
          go_ret
          exact ⟨rfl, H.out.bel⟩
    · have hk : Hid (a % 65536 % 608 = 352 + (j : Int)) := by show _ = _; rw [hk0]; push_cast; rfl
      obtain ⟨m0, hm0⟩ : ∃ b : UInt8, b = P.body.getD j 0 := ⟨_, rfl⟩
      obtain ⟨m1, hm1⟩ : ∃ y : UInt8, y = m0 ^^^ b := ⟨_, rfl⟩
      have hxor : bits .xor .u8 (m0.toNat : Int) (b.toNat : Int) = (m1.toNat : Int) := by rw [hm1]; exact byte_xor m0 b
      obtain ⟨P2, hP2⟩ : ∃ q : Pkt, q = { P with body := P.body.set j m1 } := ⟨_, rfl⟩
      have HO2 : Hid (P2.ok) := by
        have hl : (P.body.set j m1).length = 256 := by rw [List.length_set]; exact HPO.out.body
        show P2.ok
        rw [hP2]
        exact ⟨HPO.out.who, HPO.out.epoch, HPO.out.nonce, HPO.out.mac, HPO.out.head, hl⟩
      have HL2 := hide (pktC_length HO2.out)
      have HG : Hid ((pktC P)[354 + j]? = some (.int .u8 (m0.toNat : Int))) := by show _ = _; rw [hm0]; exact pktC_getB HPO.out j hj
      have HST : Hid ((pktC P).set (354 + j) (.int .u8 (m1.toNat : Int)) = pktC P2) := by show _ = _; rw [hP2]; exact pktC_setB HPO.out j _ hj
      have hl16 : ¬ (352 + (j : Int)) < 16 := by omega
      have hd16 : decide ((352 + (j : Int)) < 16) = false := decide_eq_false hl16
      have hl32 : ¬ (352 + (j : Int)) < 32 := by omega
      have hd32 : decide ((352 + (j : Int)) < 32) = false := decide_eq_false hl32
      have hl352 : ¬ (352 + (j : Int)) < 352 := by omega
      have hd352 : decide ((352 + (j : Int)) < 352) = false := decide_eq_false hl352
      have hji : 0 ≤ (j : Int) ∧ (j : Int) < 256 := by omega
      have hjn : (j : Int) < 256 := hji.2
      have hs1 : 352 + (j : Int) - 32 = 320 + (j : Int) := by omega
      have hs2 : 320 + (j : Int) - 320 = (j : Int) := by omega
      have hw1 : IntKind.i64.wrap (352 + (j : Int) - 32) = 320 + (j : Int) := by rw [IntKind.wrap_i64] <;> omega
      have hw2 : IntKind.i64.wrap (320 + (j : Int) - 320) = (j : Int) := by rw [IntKind.wrap_i64] <;> omega
      have HJ := hide hj
      clear hm0 hm1 hP2 hk0 hk6 hpo hj hab
      go_enter Tryd.func4, Tryd.ntmps4
      go_wp2_with (first
        | (with_reducible refine at_op (op := ⟨some 6, _, _, _, _, _⟩) ?_; (refine wpl_boxa (op := ⟨some 6, _, _, _, _, _⟩) rfl _ _ rfl (cellsB x) rfl ?_); intro g6 W6 hB1 hg1 hF1; replace H := hide (H.out.box hg1 hF1 hB1); clear hB1 hg1 hF1)
        | (with_reducible refine at_op (op := ⟨some 7, _, _, _, _, _⟩) ?_; (refine wpl_boxa (op := ⟨some 7, _, _, _, _, _⟩) rfl _ _ rfl (cellsB key) rfl ?_); intro g7 W7 hB1 hg1 hF1; replace H := hide (H.out.box hg1 hF1 hB1); clear hB1 hg1 hF1)
        | (go_at_call 8; with_reducible refine (HSH.out _ H.out.tb).mono ?_; rintro e W8 ⟨rfl, hbc⟩; replace H := hide (H.out.call hbc); clear hbc))
      apply merge1 (R := fun a12 W => OAt w [(g6, 24, cellsB x), (g7, 29, cellsB key), (a12, 39, pktC P)] W)
      · intro hend
        obtain ⟨U1, hU1⟩ : ∃ U1, U1 = W8.drew := ⟨_, rfl⟩
        refine wp_region_held_drew (S := fun W' => Blk W' g6 24 (cellsB x).toArray) (by kernel_rfl) (by rw [← hU1]; replace H := hide (by rw [hU1]; exact H.out.drew : OAt w _ U1); exact H.out.get 0 rfl) ?_
        intro hHeld
        replace H := hide (by rw [hU1]; exact H.out.drew : OAt w _ U1)
        rw [← hU1] at hHeld ⊢
        clear hU1
        refine wpAnyH_take (i := 0) (v := ?v57) rfl (by kernel_rfl) (by kernel_rfl) (by kernel_rfl) (fun _ _ _ h => h) (Or.inl ⟨by rfl, ?hy57⟩) (by assumption) ?rest57
        case hy57 => (intro w hSw; (try go_simp); try with_reducible rfl)
        try simp only [Act.put, List.getElem_toArray, List.getElem_cons_zero, List.getElem_cons_succ, List.setIfInBounds_toArray, List.set_cons_zero, List.set_cons_succ]
        refine wpAnyH_take (i := 1) (v := ?v58) rfl (by kernel_rfl) (by kernel_rfl) (by kernel_rfl) (fun _ _ _ h => h) (Or.inl ⟨by rfl, ?hy58⟩) (by assumption) ?rest58
        case hy58 => (intro w hSw; (try go_simp); try with_reducible rfl)
        try simp only [Act.put, List.getElem_toArray, List.getElem_cons_zero, List.getElem_cons_succ, List.setIfInBounds_toArray, List.set_cons_zero, List.set_cons_succ]
        refine wpAnyH_take (i := 2) (v := ?v59) rfl (by kernel_rfl) (by kernel_rfl) (by kernel_rfl) (fun _ _ _ h => h) (Or.inl ⟨by rfl, ?hy59⟩) (by assumption) ?rest59
        case hy59 => (intro w hSw; (try go_simp); try with_reducible rfl)
        try simp only [Act.put, List.getElem_toArray, List.getElem_cons_zero, List.getElem_cons_succ, List.setIfInBounds_toArray, List.set_cons_zero, List.set_cons_succ]
        refine wpAnyH_take (i := 3) (v := ?v60) rfl (by kernel_rfl) (by kernel_rfl) (by kernel_rfl) (fun _ _ _ h => h) (Or.inl ⟨by rfl, ?hy60⟩) (by assumption) ?rest60
        case hy60 => (intro w hSw; refine held_min (.tmp 23) (.const (.int .i64 5)) 3 3 ?_ (n : Int) 5 (m : Int) ?_ ?_ HM.out <;> rfl)
        try simp only [Act.put, List.getElem_toArray, List.getElem_cons_zero, List.getElem_cons_succ, List.setIfInBounds_toArray, List.set_cons_zero, List.set_cons_succ]
        refine wpAnyH_take (i := 4) (v := ?v61) rfl (by kernel_rfl) (by kernel_rfl) (by kernel_rfl) (fun _ _ _ h => h) (Or.inl ⟨by rfl, ?hy61⟩) (by assumption) ?rest61
        case hy61 => (intro w hSw; (try go_simp); try with_reducible rfl)
        try simp only [Act.put, List.getElem_toArray, List.getElem_cons_zero, List.getElem_cons_succ, List.setIfInBounds_toArray, List.set_cons_zero, List.set_cons_succ]
        refine wpAnyH_take (i := 5) (v := ?v62) rfl (by kernel_rfl) (by kernel_rfl) (by kernel_rfl) (fun _ _ _ h => h) (Or.inl ⟨by rfl, ?hy62⟩) (by assumption) ?rest62
        case hy62 => (intro w hSw; refine held_loadf agg256 (.tmp 6) ?_ g6 ?_ _ (cellsB x) hSw HXc.out <;> rfl)
        try simp only [Act.put, List.getElem_toArray, List.getElem_cons_zero, List.getElem_cons_succ, List.setIfInBounds_toArray, List.set_cons_zero, List.set_cons_succ]
        refine wpAnyH_ready (rs := [6, 10]) (by kernel_rfl) (by simp) ?_
        refine AllReadyH.cons rfl (fun K hK => ?_) ?_
        · go_simp
          refine (HB.out _ H.out.tb (HR.out.below H.out.bel)).mono ?_
          rintro e V1 ⟨rfl, hbc⟩
          replace H := hide (H.out.call hbc)
          clear hbc
          refine hK.out _ _ (H.out.get 0 rfl) (fun hHeld => ?_)
          clear hK K
          refine wpAnyH_take (i := 7) (v := ?v63) rfl (by kernel_rfl) (by kernel_rfl) (by kernel_rfl) (fun _ _ _ h => h) (Or.inl ⟨by rfl, ?hy63⟩) (by assumption) ?rest63
          case hy63 => (intro w hSw; (try go_simp); try with_reducible rfl)
          try simp only [Act.put, List.getElem_toArray, List.getElem_cons_zero, List.getElem_cons_succ, List.setIfInBounds_toArray, List.set_cons_zero, List.set_cons_succ]
          refine wpAnyH_take (i := 8) (v := ?v64) rfl (by kernel_rfl) (by kernel_rfl) (by kernel_rfl) (fun _ _ _ h => h) (Or.inl ⟨by rfl, ?hy64⟩) (by assumption) ?rest64
          case hy64 => (intro w hSw; (try go_simp); try with_reducible rfl)
          try simp only [Act.put, List.getElem_toArray, List.getElem_cons_zero, List.getElem_cons_succ, List.setIfInBounds_toArray, List.set_cons_zero, List.set_cons_succ]
          refine wpAnyH_take (i := 9) (v := ?v65) rfl (by kernel_rfl) (by kernel_rfl) (by kernel_rfl) (fun _ _ _ h => h) (Or.inl ⟨by rfl, ?hy65⟩) (by assumption) ?rest65
          case hy65 => (intro w hSw; (try go_simp); try with_reducible rfl)
          try simp only [Act.put, List.getElem_toArray, List.getElem_cons_zero, List.getElem_cons_succ, List.setIfInBounds_toArray, List.set_cons_zero, List.set_cons_succ]
          refine wpAnyH_ready (rs := [10]) (by kernel_rfl) (by simp) ?_
          refine AllReadyH.cons rfl (fun K hK => ?_) AllReadyH.nil
          refine step_alloca rfl _ rfl _ zeroP ?_
          intro g12 V2 hB8 hs8 hF8
          replace H := hide (H.out.box hs8 hF8 hB8)
          clear hB8 hs8 hF8
          refine hK.out _ _ (H.out.get 0 rfl) (fun hHeld => ?_)
          clear hK K
          refine wpAnyH_ready (rs := [11]) (by kernel_rfl) (by simp) ?_
          refine AllReadyH.cons rfl (fun K hK => ?_) AllReadyH.nil
          refine step_storem aggP rfl (.tmp 12) (.tmp 28) rfl g12 0 (pktC P) _ (pktC P) rfl rfl _ (H.out.get 2 rfl) HLP.out (Nat.le_of_eq (by rw [Nat.zero_add]; exact pkt0_c.symm)) (splice_all _ _ (by rw [HLP.out]; exact pkt0_c)) (pktC_one _) ?_
          intro V3 hB8 hF8
          replace H := hide (H.out.store 2 rfl hF8 hB8)
          clear hB8 hF8
          refine hK.out _ _ (H.out.get 0 rfl) (fun hHeld => ?_)
          clear hK K
          refine wpAnyH_take (i := 12) (v := ?v66) rfl (by kernel_rfl) (by kernel_rfl) (by kernel_rfl) (fun _ _ _ h => h) (Or.inl ⟨by rfl, ?hy66⟩) (by assumption) ?rest66
          case hy66 => (intro w hSw; (try go_simp); try with_reducible rfl)
          try simp only [Act.put, List.getElem_toArray, List.getElem_cons_zero, List.getElem_cons_succ, List.setIfInBounds_toArray, List.set_cons_zero, List.set_cons_succ]
          refine wpAnyH_done (by kernel_rfl) ?_ _
          clear hHeld
          exact hend.out g12 _ (H.out)
        refine AllReadyH.cons rfl (fun K hK => ?_) AllReadyH.nil
        refine step_alloca rfl _ rfl _ zeroP ?_
        intro g12 V4 hB8 hs8 hF8
        replace H := hide (H.out.box hs8 hF8 hB8)
        clear hB8 hs8 hF8
        refine hK.out _ _ (H.out.get 0 rfl) (fun hHeld => ?_)
        clear hK K
        refine wpAnyH_ready (rs := [6]) (by kernel_rfl) (by simp) ?_
        refine AllReadyH.cons rfl (fun K hK => ?_) AllReadyH.nil
        go_simp
        refine (HB.out _ H.out.tb (HR.out.below H.out.bel)).mono ?_
        rintro e V5 ⟨rfl, hbc⟩
        replace H := hide (H.out.call hbc)
        clear hbc
        refine hK.out _ _ (H.out.get 0 rfl) (fun hHeld => ?_)
        clear hK K
        refine wpAnyH_take (i := 7) (v := ?v67) rfl (by kernel_rfl) (by kernel_rfl) (by kernel_rfl) (fun _ _ _ h => h) (Or.inl ⟨by rfl, ?hy67⟩) (by assumption) ?rest67
        case hy67 => (intro w hSw; (try go_simp); try with_reducible rfl)
        try simp only [Act.put, List.getElem_toArray, List.getElem_cons_zero, List.getElem_cons_succ, List.setIfInBounds_toArray, List.set_cons_zero, List.set_cons_succ]
        refine wpAnyH_take (i := 8) (v := ?v68) rfl (by kernel_rfl) (by kernel_rfl) (by kernel_rfl) (fun _ _ _ h => h) (Or.inl ⟨by rfl, ?hy68⟩) (by assumption) ?rest68
        case hy68 => (intro w hSw; (try go_simp); try with_reducible rfl)
        try simp only [Act.put, List.getElem_toArray, List.getElem_cons_zero, List.getElem_cons_succ, List.setIfInBounds_toArray, List.set_cons_zero, List.set_cons_succ]
        refine wpAnyH_take (i := 9) (v := ?v69) rfl (by kernel_rfl) (by kernel_rfl) (by kernel_rfl) (fun _ _ _ h => h) (Or.inl ⟨by rfl, ?hy69⟩) (by assumption) ?rest69
        case hy69 => (intro w hSw; (try go_simp); try with_reducible rfl)
        try simp only [Act.put, List.getElem_toArray, List.getElem_cons_zero, List.getElem_cons_succ, List.setIfInBounds_toArray, List.set_cons_zero, List.set_cons_succ]
        refine wpAnyH_ready (rs := [11]) (by kernel_rfl) (by simp) ?_
        refine AllReadyH.cons rfl (fun K hK => ?_) AllReadyH.nil
        refine step_storem aggP rfl (.tmp 12) (.tmp 28) rfl g12 0 (pktC P) _ (pktC P) rfl rfl _ (H.out.get 2 rfl) HLP.out (Nat.le_of_eq (by rw [Nat.zero_add]; exact pkt0_c.symm)) (splice_all _ _ (by rw [HLP.out]; exact pkt0_c)) (pktC_one _) ?_
        intro V6 hB8 hF8
        replace H := hide (H.out.store 2 rfl hF8 hB8)
        clear hB8 hF8
        refine hK.out _ _ (H.out.get 0 rfl) (fun hHeld => ?_)
        clear hK K
        refine wpAnyH_take (i := 12) (v := ?v70) rfl (by kernel_rfl) (by kernel_rfl) (by kernel_rfl) (fun _ _ _ h => h) (Or.inl ⟨by rfl, ?hy70⟩) (by assumption) ?rest70
        case hy70 => (intro w hSw; (try go_simp); try with_reducible rfl)
        try simp only [Act.put, List.getElem_toArray, List.getElem_cons_zero, List.getElem_cons_succ, List.setIfInBounds_toArray, List.set_cons_zero, List.set_cons_succ]
        refine wpAnyH_done (by kernel_rfl) ?_ _
        clear hHeld
        exact hend.out g12 _ (H.out)
      intro g12 W9 hR2
      replace H := hide hR2
      clear hR2
      go_wp2_with (first
        | (with_reducible refine at_op (op := ⟨some 56, _, _, _, _, _⟩) ?_; rw [hk.out])
        | (with_reducible refine at_op (op := ⟨some 49, _, _, _, _, _⟩) ?_; refine wpl_held (op := ⟨some 49, _, _, _, _, _⟩) (.int .u8 (m0.toNat : Int)) (held_load1 Tryd.underlying5 rfl one8 _ rfl g12 (354 + j) rfl _ _ (.int .u8 (m0.toNat : Int)) (H.out.get 2 rfl) HG.out) rfl ?_)
        | (with_reducible refine at_op (op := ⟨none, .store _ (.tmp 53) _, _, _, _, _⟩) ?_; (refine wpl_store1 (op := ⟨none, _, _, _, _, _⟩) one8 rfl (.tmp 53) (.tmp 51) rfl g12 (354 + j) (.int .u8 (m1.toNat : Int)) (pktC P) (pktC P2) rfl rfl rfl _ (H.out.get 2 rfl) (by rw [HLP.out]; have := HJ.out; omega) HST.out ?_); intro W10 hB1 hF1; replace H := hide (H.out.store 2 rfl hF1 hB1); clear hB1 hF1))
      have H0 := H
      clear H
      go_loopw [14] (fun i wr => ∃ r : Nat, r ≤ 2 ∧ i = .int .i64 r ∧ OAt w [(g6, 24, cellsB x), (g7, 29, cellsB key), (g12, 39, pktC P2)] wr) (fun i _ => 2 - (intOf i).toNat)
      case atStart => exact ⟨0, by omega, rfl, H0.out⟩
      case round =>
        clear H0
        obtain ⟨r, hr2, rfl, hat⟩ := hrel
        have H := hide hat
        clear hat
        have hrc : r = 0 ∨ r = 1 ∨ r = 2 := by omega
        rcases hrc with hr0 | hr0 | hr0
        · have hq1 : (r : Int) < 2 := by omega
          have hq2 : decide ((r : Int) < 2) = true := decide_eq_true hq1
          have hq3 : ¬ (r : Int) = 1 := by omega
          have hq4 : decide ((r : Int) = 1) = false := decide_eq_false hq3
          have hq5 : ((r : Int) == 1) = false := beq_eq_false_iff_ne.2 hq3
          have HR0 := hide hr0
          clear hr0
          by_cases heq : macO key P2 = P2.mac
          · have HP1 := hide (HPE.out key HKl.out P2 HO2.out)
            have hiff := peelE_four key P2
            have HS1 := hide (slotC_length (peelS key P2) (peelS_ok key HO2.out).nonce (peelS_ok key HO2.out).mac)
            have HQ1 := hide (pktC_length (peelP_ok key HO2.out))
            have HOF := hide (HPOF.out P2 HO2.out)
            have HMC := hide (HPMC.out key HKl.out P2 HO2.out)
            have HCK : Hid (((cellsB key).drop 0).take 32 = cellsB key) := by show _ = _; rw [List.drop_zero, List.take_of_length_le (by rw [HKc.out]; exact Nat.le_refl _)]
            have HCM := hide (pktC_mac HO2.out)
            have HML := hide HO2.out.mac
            generalize peelE key P2 = E at *
            generalize peelS key P2 = S0 at *
            generalize peelP key P2 = Q0 at *
            obtain ⟨sx, hsx⟩ : ∃ s : ByteArray, s = ⟨(macO key P2).toArray⟩ := ⟨_, rfl⟩
            obtain ⟨sy, hsy⟩ : ∃ s : ByteArray, s = ⟨P2.mac.toArray⟩ := ⟨_, rfl⟩
            have HSY := hide hsy
            rw [← hsx] at HMC
            have hE : ¬ E = 4 := by rw [hiff]; exact fun h => h heq
            have hE2 : (E == 4) = false := beq_eq_false_iff_ne.2 hE
            have hE3 : decide (E = 4) = false := decide_eq_false hE
            have hxy : sx = sy := by rw [hsx, hsy, heq]
            subst hxy
            clear hsx hsy hiff heq
            go_wp2_with (first
              | (with_reducible refine at_op (op := ⟨some 98, _, _, _, _, _⟩) ?_; refine wpl_held (op := ⟨some 98, _, _, _, _, _⟩) (.agg (cellsB key).toArray) (held_loadf aggK _ rfl g7 rfl _ (cellsB key) (H.out.get 1 rfl) HKc.out) rfl ?_)
              | (with_reducible refine at_op (op := ⟨some 15, _, _, _, _, _⟩) ?_; (with_reducible refine wpl_alloca (op := ⟨some 15, _, _, _, _, _⟩) rfl _ rfl _ zeroK ?_); intro g15 V15 hB1 hg1 hF1; go_simp; (with_reducible refine wpl_storea aggK rfl (.tmp 15) (.tmp 98) rfl g15 (cellsB key) rfl rfl _ _ hB1 HKc.out zl_K (cellsB_one _) ?_); intro V1 hB2 hF2; replace H := hide (H.out.var hg1 hF1 hF2 hB2); clear hB1 hg1 hF1 hB2 hF2)
              | (with_reducible refine at_op (op := ⟨some 106, _, _, _, _, _⟩) ?_; refine wpl_held (op := ⟨some 106, _, _, _, _, _⟩) (.agg (cellsB key).toArray) (held_loadf aggK _ rfl g15 rfl _ (cellsB key) (H.out.get 3 rfl) HKc.out) rfl ?_)
              | (with_reducible refine at_op (op := ⟨some 107, _, _, _, _, _⟩) ?_; refine wpl_held (op := ⟨some 107, _, _, _, _, _⟩) (.agg (pktC P2).toArray) (held_loadf aggP _ rfl g12 rfl _ (pktC P2) (H.out.get 2 rfl) HL2.out) rfl ?_)
              | (go_at_call 10; with_reducible refine (HP1.out _ H.out.tb).mono ?_; rintro e V3 ⟨rfl, hbc⟩; replace H := hide (H.out.call hbc); clear hbc)
              | (with_reducible refine at_op (op := ⟨some 16, _, _, _, _, _⟩) ?_; (with_reducible refine wpl_alloca (op := ⟨some 16, _, _, _, _, _⟩) rfl _ rfl _ zeroS ?_); intro g16 V4 hB1 hg1 hF1; replace H := hide (H.out.box hg1 hF1 hB1); clear hB1 hg1 hF1)
              | (with_reducible refine at_op (op := ⟨some 17, _, _, _, _, _⟩) ?_; (with_reducible refine wpl_alloca (op := ⟨some 17, _, _, _, _, _⟩) rfl _ rfl _ zeroP ?_); intro g17 V5 hB1 hg1 hF1; replace H := hide (H.out.box hg1 hF1 hB1); clear hB1 hg1 hF1)
              | (with_reducible refine at_op (op := ⟨none, .store _ (.tmp 16) (.tmp 109), _, _, _, _⟩) ?_; (with_reducible refine wpl_storea aggS rfl (.tmp 16) (.tmp 109) rfl g16 (slotC S0) rfl rfl _ _ (H.out.get 4 rfl) HS1.out (slot0_len) (slotC_one _) ?_); intro V6 hB1 hF1; replace H := hide (H.out.store 4 rfl hF1 hB1); clear hB1 hF1)
              | (with_reducible refine at_op (op := ⟨none, .store _ (.tmp 17) (.tmp 110), _, _, _, _⟩) ?_; (with_reducible refine wpl_storea aggP rfl (.tmp 17) (.tmp 110) rfl g17 (pktC Q0) rfl rfl _ _ (H.out.get 5 rfl) HQ1.out (pkt0_len) (pktC_one _) ?_); intro V7 hB1 hF1; replace H := hide (H.out.store 5 rfl hF1 hB1); clear hB1 hF1))
            obtain ⟨N, hN⟩ : ∃ N, N = V7.heap.size := ⟨_, rfl⟩
            have hq : Below N V7 V7 := hN ▸ Below.refl _ _
            have HA := hide (fun W' (h : Below N V7 W') => H.out.call (hN ▸ h))
            have HC := hide (fun W' (h : Below N V7 W') W'' (k : Below W'.heap.size W' W'') => h.trans (k.mono (by rw [hN]; exact h.size)))
            have hqo : ∀ W', Below N V7 W' → Calls Tryd.prog 12 #[.agg (pktC P2).toArray] W' (fun e w'' => e = .returned (.agg (rpktC P2).toArray) ∧ Below N V7 w'') := fun W' h => (HOF.out W' (HA.out W' h).tb).mono (fun e w'' ⟨he, hb⟩ => ⟨he, HC.out W' h w'' hb⟩)
            have hqm : ∀ W', Below N V7 W' → Calls Tryd.prog 11 #[.string ⟨(key).toArray⟩, .agg (rpktC P2).toArray] W' (fun e w'' => e = .returned (.string sx) ∧ Below N V7 w'') := fun W' h => (HMC.out W' (HA.out W' h).tb).mono (fun e w'' ⟨he, hb⟩ => ⟨he, HC.out W' h w'' hb⟩)
            clear hN
            refine wp_region_class (fun W' => Below N V7 W') (by kernel_rfl) (by kernel_rfl) (below_drewN hq 1) ?_
            with_reducible refine wpQuiet_step ?_
            intro K hK
            go_simp
            first | (refine hK _ ?_; clear hK K) | (refine ⟨_, fun w' hw' => rfl, hK _ ?_⟩; clear hK K)
            with_reducible refine wpQuiet_step ?_
            intro K hK
            go_simp
            first | (refine hK _ ?_; clear hK K) | (refine ⟨_, fun w' hw' => rfl, hK _ ?_⟩; clear hK K)
            with_reducible refine wpQuiet_step ?_
            intro K hK
            go_simp
            first | (refine hK _ ?_; clear hK K) | (refine ⟨_, fun w' hw' => rfl, hK _ ?_⟩; clear hK K)
            with_reducible refine wpQuiet_step ?_
            intro K hK
            refine quiet_val (.string ⟨(key).toArray⟩) (fun w' hw' => held_convR _ rfl (some ⟨g15, 0, none⟩) 32 32 rfl (key) (((HA.out w' hw').get 3 rfl).mid 0 32 (key) HCK.out HKl.out)) ?_ rfl
            go_simp
            refine hK _ ?_
            clear hK K
            with_reducible refine wpQuiet_step ?_
            intro K hK
            refine quiet_val (.agg (pktC P2).toArray) (fun w' hw' => held_loadf aggP _ rfl g12 rfl _ (pktC P2) ((HA.out w' hw').get 2 rfl) HL2.out) ?_ rfl
            go_simp
            refine hK _ ?_
            clear hK K
            with_reducible refine wpQuiet_step ?_
            intro K hK
            go_simp
            refine ⟨_, hqo, hK _ ?_⟩
            clear hK K
            with_reducible refine wpQuiet_step ?_
            intro K hK
            go_simp
            refine ⟨_, hqm, hK _ ?_⟩
            clear hK K
            with_reducible refine wpQuiet_step ?_
            intro K hK
            go_simp
            first | (refine hK _ ?_; clear hK K) | (refine ⟨_, fun w' hw' => rfl, hK _ ?_⟩; clear hK K)
            with_reducible refine wpQuiet_step ?_
            intro K hK
            go_simp
            first | (refine hK _ ?_; clear hK K) | (refine ⟨_, fun w' hw' => rfl, hK _ ?_⟩; clear hK K)
            with_reducible refine wpQuiet_step ?_
            intro K hK
            refine quiet_val (.string sx) (fun w' hw' => held_macS _ rfl g12 rfl P2 sx HSY.out ((HA.out w' hw').get 2 rfl) HCM.out HML.out) ?_ rfl
            go_simp
            refine hK _ ?_
            clear hK K
            with_reducible refine wpQuiet_step ?_
            intro K hK
            go_simp
            first | (refine hK _ ?_; clear hK K) | (refine ⟨_, fun w' hw' => rfl, hK _ ?_⟩; clear hK K)
            with_reducible refine wpQuiet_step ?_
            intro K hK
            go_simp
            first | (refine hK _ ?_; clear hK K) | (refine ⟨_, fun w' hw' => rfl, hK _ ?_⟩; clear hK K)
            refine wpQuiet_nil ?_
            clear hq
            intro wq hwq
            replace H := hide (HA.out wq hwq)
            clear HA HC hwq
            go_wp2_with fail
            replace H := hide (H.out.pre 3)
            go_roundw
            case rel => exact ⟨r + 1, by omega, by go_num, H.out⟩
            case measure => simp [intOf]; omega
          · have HP1 := hide (HPE.out key HKl.out P2 HO2.out)
            have hiff := peelE_four key P2
            have HS1 := hide (slotC_length (peelS key P2) (peelS_ok key HO2.out).nonce (peelS_ok key HO2.out).mac)
            have HQ1 := hide (pktC_length (peelP_ok key HO2.out))
            have HOF := hide (HPOF.out P2 HO2.out)
            have HMC := hide (HPMC.out key HKl.out P2 HO2.out)
            have HCK : Hid (((cellsB key).drop 0).take 32 = cellsB key) := by show _ = _; rw [List.drop_zero, List.take_of_length_le (by rw [HKc.out]; exact Nat.le_refl _)]
            have HCM := hide (pktC_mac HO2.out)
            have HML := hide HO2.out.mac
            generalize peelE key P2 = E at *
            generalize peelS key P2 = S0 at *
            generalize peelP key P2 = Q0 at *
            obtain ⟨sx, hsx⟩ : ∃ s : ByteArray, s = ⟨(macO key P2).toArray⟩ := ⟨_, rfl⟩
            obtain ⟨sy, hsy⟩ : ∃ s : ByteArray, s = ⟨P2.mac.toArray⟩ := ⟨_, rfl⟩
            have HSY := hide hsy
            rw [← hsx] at HMC
            have hE : E = 4 := hiff.2 heq
            have hxy : ¬ sx = sy := fun h => heq (by
              have h2 : (⟨(macO key P2).toArray⟩ : ByteArray) = ⟨P2.mac.toArray⟩ := by rw [← hsx, ← hsy, h]
              have h3 := congrArg (fun s : ByteArray => s.data.toList) h2
              simpa using h3)
            have hxy2 : (sx.toList == sy.toList) = false := by rw [hsx, hsy, txt_eqM]; exact beq_eq_false_iff_ne.2 heq
            have hxy3 : decide (sx = sy) = false := decide_eq_false hxy
            subst hE
            clear hsx hsy hiff heq
            go_wp2_with (first
              | (with_reducible refine at_op (op := ⟨some 98, _, _, _, _, _⟩) ?_; refine wpl_held (op := ⟨some 98, _, _, _, _, _⟩) (.agg (cellsB key).toArray) (held_loadf aggK _ rfl g7 rfl _ (cellsB key) (H.out.get 1 rfl) HKc.out) rfl ?_)
              | (with_reducible refine at_op (op := ⟨some 15, _, _, _, _, _⟩) ?_; (with_reducible refine wpl_alloca (op := ⟨some 15, _, _, _, _, _⟩) rfl _ rfl _ zeroK ?_); intro g15 V15 hB1 hg1 hF1; go_simp; (with_reducible refine wpl_storea aggK rfl (.tmp 15) (.tmp 98) rfl g15 (cellsB key) rfl rfl _ _ hB1 HKc.out zl_K (cellsB_one _) ?_); intro V1 hB2 hF2; replace H := hide (H.out.var hg1 hF1 hF2 hB2); clear hB1 hg1 hF1 hB2 hF2)
              | (with_reducible refine at_op (op := ⟨some 106, _, _, _, _, _⟩) ?_; refine wpl_held (op := ⟨some 106, _, _, _, _, _⟩) (.agg (cellsB key).toArray) (held_loadf aggK _ rfl g15 rfl _ (cellsB key) (H.out.get 3 rfl) HKc.out) rfl ?_)
              | (with_reducible refine at_op (op := ⟨some 107, _, _, _, _, _⟩) ?_; refine wpl_held (op := ⟨some 107, _, _, _, _, _⟩) (.agg (pktC P2).toArray) (held_loadf aggP _ rfl g12 rfl _ (pktC P2) (H.out.get 2 rfl) HL2.out) rfl ?_)
              | (go_at_call 10; with_reducible refine (HP1.out _ H.out.tb).mono ?_; rintro e V3 ⟨rfl, hbc⟩; replace H := hide (H.out.call hbc); clear hbc)
              | (with_reducible refine at_op (op := ⟨some 16, _, _, _, _, _⟩) ?_; (with_reducible refine wpl_alloca (op := ⟨some 16, _, _, _, _, _⟩) rfl _ rfl _ zeroS ?_); intro g16 V4 hB1 hg1 hF1; replace H := hide (H.out.box hg1 hF1 hB1); clear hB1 hg1 hF1)
              | (with_reducible refine at_op (op := ⟨some 17, _, _, _, _, _⟩) ?_; (with_reducible refine wpl_alloca (op := ⟨some 17, _, _, _, _, _⟩) rfl _ rfl _ zeroP ?_); intro g17 V5 hB1 hg1 hF1; replace H := hide (H.out.box hg1 hF1 hB1); clear hB1 hg1 hF1)
              | (with_reducible refine at_op (op := ⟨none, .store _ (.tmp 16) (.tmp 109), _, _, _, _⟩) ?_; (with_reducible refine wpl_storea aggS rfl (.tmp 16) (.tmp 109) rfl g16 (slotC S0) rfl rfl _ _ (H.out.get 4 rfl) HS1.out (slot0_len) (slotC_one _) ?_); intro V6 hB1 hF1; replace H := hide (H.out.store 4 rfl hF1 hB1); clear hB1 hF1)
              | (with_reducible refine at_op (op := ⟨none, .store _ (.tmp 17) (.tmp 110), _, _, _, _⟩) ?_; (with_reducible refine wpl_storea aggP rfl (.tmp 17) (.tmp 110) rfl g17 (pktC Q0) rfl rfl _ _ (H.out.get 5 rfl) HQ1.out (pkt0_len) (pktC_one _) ?_); intro V7 hB1 hF1; replace H := hide (H.out.store 5 rfl hF1 hB1); clear hB1 hF1))
            obtain ⟨N, hN⟩ : ∃ N, N = V7.heap.size := ⟨_, rfl⟩
            have hq : Below N V7 V7 := hN ▸ Below.refl _ _
            have HA := hide (fun W' (h : Below N V7 W') => H.out.call (hN ▸ h))
            have HC := hide (fun W' (h : Below N V7 W') W'' (k : Below W'.heap.size W' W'') => h.trans (k.mono (by rw [hN]; exact h.size)))
            have hqo : ∀ W', Below N V7 W' → Calls Tryd.prog 12 #[.agg (pktC P2).toArray] W' (fun e w'' => e = .returned (.agg (rpktC P2).toArray) ∧ Below N V7 w'') := fun W' h => (HOF.out W' (HA.out W' h).tb).mono (fun e w'' ⟨he, hb⟩ => ⟨he, HC.out W' h w'' hb⟩)
            have hqm : ∀ W', Below N V7 W' → Calls Tryd.prog 11 #[.string ⟨(key).toArray⟩, .agg (rpktC P2).toArray] W' (fun e w'' => e = .returned (.string sx) ∧ Below N V7 w'') := fun W' h => (HMC.out W' (HA.out W' h).tb).mono (fun e w'' ⟨he, hb⟩ => ⟨he, HC.out W' h w'' hb⟩)
            clear hN
            refine wp_region_class (fun W' => Below N V7 W') (by kernel_rfl) (by kernel_rfl) (below_drewN hq 1) ?_
            with_reducible refine wpQuiet_step ?_
            intro K hK
            go_simp
            first | (refine hK _ ?_; clear hK K) | (refine ⟨_, fun w' hw' => rfl, hK _ ?_⟩; clear hK K)
            with_reducible refine wpQuiet_step ?_
            intro K hK
            go_simp
            first | (refine hK _ ?_; clear hK K) | (refine ⟨_, fun w' hw' => rfl, hK _ ?_⟩; clear hK K)
            with_reducible refine wpQuiet_step ?_
            intro K hK
            go_simp
            first | (refine hK _ ?_; clear hK K) | (refine ⟨_, fun w' hw' => rfl, hK _ ?_⟩; clear hK K)
            with_reducible refine wpQuiet_step ?_
            intro K hK
            refine quiet_val (.string ⟨(key).toArray⟩) (fun w' hw' => held_convR _ rfl (some ⟨g15, 0, none⟩) 32 32 rfl (key) (((HA.out w' hw').get 3 rfl).mid 0 32 (key) HCK.out HKl.out)) ?_ rfl
            go_simp
            refine hK _ ?_
            clear hK K
            with_reducible refine wpQuiet_step ?_
            intro K hK
            refine quiet_val (.agg (pktC P2).toArray) (fun w' hw' => held_loadf aggP _ rfl g12 rfl _ (pktC P2) ((HA.out w' hw').get 2 rfl) HL2.out) ?_ rfl
            go_simp
            refine hK _ ?_
            clear hK K
            with_reducible refine wpQuiet_step ?_
            intro K hK
            go_simp
            refine ⟨_, hqo, hK _ ?_⟩
            clear hK K
            with_reducible refine wpQuiet_step ?_
            intro K hK
            go_simp
            refine ⟨_, hqm, hK _ ?_⟩
            clear hK K
            with_reducible refine wpQuiet_step ?_
            intro K hK
            go_simp
            first | (refine hK _ ?_; clear hK K) | (refine ⟨_, fun w' hw' => rfl, hK _ ?_⟩; clear hK K)
            with_reducible refine wpQuiet_step ?_
            intro K hK
            go_simp
            first | (refine hK _ ?_; clear hK K) | (refine ⟨_, fun w' hw' => rfl, hK _ ?_⟩; clear hK K)
            with_reducible refine wpQuiet_step ?_
            intro K hK
            refine quiet_val (.string sy) (fun w' hw' => held_macS _ rfl g12 rfl P2 sy HSY.out ((HA.out w' hw').get 2 rfl) HCM.out HML.out) ?_ rfl
            go_simp
            refine hK _ ?_
            clear hK K
            with_reducible refine wpQuiet_step ?_
            intro K hK
            go_simp
            first | (refine hK _ ?_; clear hK K) | (refine ⟨_, fun w' hw' => rfl, hK _ ?_⟩; clear hK K)
            with_reducible refine wpQuiet_step ?_
            intro K hK
            go_simp
            first | (refine hK _ ?_; clear hK K) | (refine ⟨_, fun w' hw' => rfl, hK _ ?_⟩; clear hK K)
            refine wpQuiet_nil ?_
            clear hq
            intro wq hwq
            replace H := hide (HA.out wq hwq)
            clear HA HC hwq
            go_wp2_with fail
            replace H := hide (H.out.pre 3)
            go_roundw
            case rel => exact ⟨r + 1, by omega, by go_num, H.out⟩
            case measure => simp [intOf]; omega
        · have hq1 : (r : Int) < 2 := by omega
          have hq2 : decide ((r : Int) < 2) = true := decide_eq_true hq1
          have hq3 : (r : Int) = 1 := by omega
          have hq4 : decide ((r : Int) = 1) = true := decide_eq_true hq3
          have hq5 : ((r : Int) == 1) = true := beq_iff_eq.2 hq3
          clear hq3
          have HR0 := hide hr0
          clear hr0
          obtain ⟨p0, rfl, _⟩ := HR.out.at' H1M.out
          have HKK := hide ((HR.out.below H.out.bel).key H1M.out)
          obtain ⟨K0, hK0⟩ : ∃ K0, K0 = (hs.getD 0 hop0).key := ⟨_, rfl⟩
          have HK0l : Hid (K0.length = 32) := by show _ = _; rw [hK0]; exact (HOK.out _ (hop_mem (by rw [HLEN.out]; exact H1M.out))).key
          have HK0c := hide (cl HK0l.out)
          have HKK : Hid (∀ W, Below w.heap.size w W → ∀ q u, (cellsB K0)[q]? = some u → W.cell? (((p0.add (0 * 54)).add 2).add q) = some u) := fun W hb => by rw [hK0]; exact (HR.out.below hb).key H1M.out
          clear hK0
          by_cases heq : macO K0 P2 = P2.mac
          · have HP1 := hide (HPE.out K0 HK0l.out P2 HO2.out)
            have hiff := peelE_four K0 P2
            have HS1 := hide (slotC_length (peelS K0 P2) (peelS_ok K0 HO2.out).nonce (peelS_ok K0 HO2.out).mac)
            have HQ1 := hide (pktC_length (peelP_ok K0 HO2.out))
            have HOF := hide (HPOF.out P2 HO2.out)
            have HMC := hide (HPMC.out K0 HK0l.out P2 HO2.out)
            have HCK : Hid (((cellsB K0).drop 0).take 32 = cellsB K0) := by show _ = _; rw [List.drop_zero, List.take_of_length_le (by rw [HK0c.out]; exact Nat.le_refl _)]
            have HCM := hide (pktC_mac HO2.out)
            have HML := hide HO2.out.mac
            generalize peelE K0 P2 = E at *
            generalize peelS K0 P2 = S0 at *
            generalize peelP K0 P2 = Q0 at *
            obtain ⟨sx, hsx⟩ : ∃ s : ByteArray, s = ⟨(macO K0 P2).toArray⟩ := ⟨_, rfl⟩
            obtain ⟨sy, hsy⟩ : ∃ s : ByteArray, s = ⟨P2.mac.toArray⟩ := ⟨_, rfl⟩
            have HSY := hide hsy
            rw [← hsx] at HMC
            have hE : ¬ E = 4 := by rw [hiff]; exact fun h => h heq
            have hE2 : (E == 4) = false := beq_eq_false_iff_ne.2 hE
            have hE3 : decide (E = 4) = false := decide_eq_false hE
            have hxy : sx = sy := by rw [hsx, hsy, heq]
            subst hxy
            clear hsx hsy hiff heq
            go_wp2_with (first
              | (with_reducible refine at_op (op := ⟨some 98, _, _, _, _, _⟩) ?_; refine wpl_held (op := ⟨some 98, _, _, _, _, _⟩) (.agg (cellsB key).toArray) (held_loadf aggK _ rfl g7 rfl _ (cellsB key) (H.out.get 1 rfl) HKc.out) rfl ?_)
              | (with_reducible refine at_op (op := ⟨some 15, _, _, _, _, _⟩) ?_; (with_reducible refine wpl_alloca (op := ⟨some 15, _, _, _, _, _⟩) rfl _ rfl _ zeroK ?_); intro g15 V15 hB1 hg1 hF1; go_simp; (with_reducible refine wpl_storea aggK rfl (.tmp 15) (.tmp 98) rfl g15 (cellsB key) rfl rfl _ _ hB1 HKc.out zl_K (cellsB_one _) ?_); intro V1 hB2 hF2; replace H := hide (H.out.var hg1 hF1 hF2 hB2); clear hB1 hg1 hF1 hB2 hF2)
              | (with_reducible refine at_op (op := ⟨some 104, _, _, _, _, _⟩) ?_; refine wpl_held (op := ⟨some 104, _, _, _, _, _⟩) (.agg (cellsB K0).toArray) (held_loadC aggK _ rfl ((p0.add (0 * 54)).add 2) rfl (cellsB K0) HK0c.out (HKK.out _ H.out.bel)) rfl ?_)
              | (with_reducible refine at_op (op := ⟨none, .store _ (.tmp 15) (.tmp 104), _, _, _, _⟩) ?_; (with_reducible refine wpl_storea aggK rfl (.tmp 15) (.tmp 104) rfl g15 (cellsB K0) rfl rfl _ _ (H.out.get 3 rfl) HK0c.out (cls HKl.out) (cellsB_one _) ?_); intro V2 hB1 hF1; replace H := hide (H.out.store 3 rfl hF1 hB1); clear hB1 hF1)
              | (with_reducible refine at_op (op := ⟨some 106, _, _, _, _, _⟩) ?_; refine wpl_held (op := ⟨some 106, _, _, _, _, _⟩) (.agg (cellsB K0).toArray) (held_loadf aggK _ rfl g15 rfl _ (cellsB K0) (H.out.get 3 rfl) HK0c.out) rfl ?_)
              | (with_reducible refine at_op (op := ⟨some 107, _, _, _, _, _⟩) ?_; refine wpl_held (op := ⟨some 107, _, _, _, _, _⟩) (.agg (pktC P2).toArray) (held_loadf aggP _ rfl g12 rfl _ (pktC P2) (H.out.get 2 rfl) HL2.out) rfl ?_)
              | (go_at_call 10; with_reducible refine (HP1.out _ H.out.tb).mono ?_; rintro e V3 ⟨rfl, hbc⟩; replace H := hide (H.out.call hbc); clear hbc)
              | (with_reducible refine at_op (op := ⟨some 16, _, _, _, _, _⟩) ?_; (with_reducible refine wpl_alloca (op := ⟨some 16, _, _, _, _, _⟩) rfl _ rfl _ zeroS ?_); intro g16 V4 hB1 hg1 hF1; replace H := hide (H.out.box hg1 hF1 hB1); clear hB1 hg1 hF1)
              | (with_reducible refine at_op (op := ⟨some 17, _, _, _, _, _⟩) ?_; (with_reducible refine wpl_alloca (op := ⟨some 17, _, _, _, _, _⟩) rfl _ rfl _ zeroP ?_); intro g17 V5 hB1 hg1 hF1; replace H := hide (H.out.box hg1 hF1 hB1); clear hB1 hg1 hF1)
              | (with_reducible refine at_op (op := ⟨none, .store _ (.tmp 16) (.tmp 109), _, _, _, _⟩) ?_; (with_reducible refine wpl_storea aggS rfl (.tmp 16) (.tmp 109) rfl g16 (slotC S0) rfl rfl _ _ (H.out.get 4 rfl) HS1.out (slot0_len) (slotC_one _) ?_); intro V6 hB1 hF1; replace H := hide (H.out.store 4 rfl hF1 hB1); clear hB1 hF1)
              | (with_reducible refine at_op (op := ⟨none, .store _ (.tmp 17) (.tmp 110), _, _, _, _⟩) ?_; (with_reducible refine wpl_storea aggP rfl (.tmp 17) (.tmp 110) rfl g17 (pktC Q0) rfl rfl _ _ (H.out.get 5 rfl) HQ1.out (pkt0_len) (pktC_one _) ?_); intro V7 hB1 hF1; replace H := hide (H.out.store 5 rfl hF1 hB1); clear hB1 hF1))
            obtain ⟨N, hN⟩ : ∃ N, N = V7.heap.size := ⟨_, rfl⟩
            have hq : Below N V7 V7 := hN ▸ Below.refl _ _
            have HA := hide (fun W' (h : Below N V7 W') => H.out.call (hN ▸ h))
            have HC := hide (fun W' (h : Below N V7 W') W'' (k : Below W'.heap.size W' W'') => h.trans (k.mono (by rw [hN]; exact h.size)))
            have hqo : ∀ W', Below N V7 W' → Calls Tryd.prog 12 #[.agg (pktC P2).toArray] W' (fun e w'' => e = .returned (.agg (rpktC P2).toArray) ∧ Below N V7 w'') := fun W' h => (HOF.out W' (HA.out W' h).tb).mono (fun e w'' ⟨he, hb⟩ => ⟨he, HC.out W' h w'' hb⟩)
            have hqm : ∀ W', Below N V7 W' → Calls Tryd.prog 11 #[.string ⟨(K0).toArray⟩, .agg (rpktC P2).toArray] W' (fun e w'' => e = .returned (.string sx) ∧ Below N V7 w'') := fun W' h => (HMC.out W' (HA.out W' h).tb).mono (fun e w'' ⟨he, hb⟩ => ⟨he, HC.out W' h w'' hb⟩)
            clear hN
            refine wp_region_class (fun W' => Below N V7 W') (by kernel_rfl) (by kernel_rfl) (below_drewN hq 1) ?_
            with_reducible refine wpQuiet_step ?_
            intro K hK
            go_simp
            first | (refine hK _ ?_; clear hK K) | (refine ⟨_, fun w' hw' => rfl, hK _ ?_⟩; clear hK K)
            with_reducible refine wpQuiet_step ?_
            intro K hK
            go_simp
            first | (refine hK _ ?_; clear hK K) | (refine ⟨_, fun w' hw' => rfl, hK _ ?_⟩; clear hK K)
            with_reducible refine wpQuiet_step ?_
            intro K hK
            go_simp
            first | (refine hK _ ?_; clear hK K) | (refine ⟨_, fun w' hw' => rfl, hK _ ?_⟩; clear hK K)
            with_reducible refine wpQuiet_step ?_
            intro K hK
            refine quiet_val (.string ⟨(K0).toArray⟩) (fun w' hw' => held_convR _ rfl (some ⟨g15, 0, none⟩) 32 32 rfl (K0) (((HA.out w' hw').get 3 rfl).mid 0 32 (K0) HCK.out HK0l.out)) ?_ rfl
            go_simp
            refine hK _ ?_
            clear hK K
            with_reducible refine wpQuiet_step ?_
            intro K hK
            refine quiet_val (.agg (pktC P2).toArray) (fun w' hw' => held_loadf aggP _ rfl g12 rfl _ (pktC P2) ((HA.out w' hw').get 2 rfl) HL2.out) ?_ rfl
            go_simp
            refine hK _ ?_
            clear hK K
            with_reducible refine wpQuiet_step ?_
            intro K hK
            go_simp
            refine ⟨_, hqo, hK _ ?_⟩
            clear hK K
            with_reducible refine wpQuiet_step ?_
            intro K hK
            go_simp
            refine ⟨_, hqm, hK _ ?_⟩
            clear hK K
            with_reducible refine wpQuiet_step ?_
            intro K hK
            go_simp
            first | (refine hK _ ?_; clear hK K) | (refine ⟨_, fun w' hw' => rfl, hK _ ?_⟩; clear hK K)
            with_reducible refine wpQuiet_step ?_
            intro K hK
            go_simp
            first | (refine hK _ ?_; clear hK K) | (refine ⟨_, fun w' hw' => rfl, hK _ ?_⟩; clear hK K)
            with_reducible refine wpQuiet_step ?_
            intro K hK
            refine quiet_val (.string sx) (fun w' hw' => held_macS _ rfl g12 rfl P2 sx HSY.out ((HA.out w' hw').get 2 rfl) HCM.out HML.out) ?_ rfl
            go_simp
            refine hK _ ?_
            clear hK K
            with_reducible refine wpQuiet_step ?_
            intro K hK
            go_simp
            first | (refine hK _ ?_; clear hK K) | (refine ⟨_, fun w' hw' => rfl, hK _ ?_⟩; clear hK K)
            with_reducible refine wpQuiet_step ?_
            intro K hK
            go_simp
            first | (refine hK _ ?_; clear hK K) | (refine ⟨_, fun w' hw' => rfl, hK _ ?_⟩; clear hK K)
            refine wpQuiet_nil ?_
            clear hq
            intro wq hwq
            replace H := hide (HA.out wq hwq)
            clear HA HC hwq
            go_wp2_with fail
            replace H := hide (H.out.pre 3)
            go_roundw
            case rel => exact ⟨r + 1, by omega, by go_num, H.out⟩
            case measure => simp [intOf]; omega
          · have HP1 := hide (HPE.out K0 HK0l.out P2 HO2.out)
            have hiff := peelE_four K0 P2
            have HS1 := hide (slotC_length (peelS K0 P2) (peelS_ok K0 HO2.out).nonce (peelS_ok K0 HO2.out).mac)
            have HQ1 := hide (pktC_length (peelP_ok K0 HO2.out))
            have HOF := hide (HPOF.out P2 HO2.out)
            have HMC := hide (HPMC.out K0 HK0l.out P2 HO2.out)
            have HCK : Hid (((cellsB K0).drop 0).take 32 = cellsB K0) := by show _ = _; rw [List.drop_zero, List.take_of_length_le (by rw [HK0c.out]; exact Nat.le_refl _)]
            have HCM := hide (pktC_mac HO2.out)
            have HML := hide HO2.out.mac
            generalize peelE K0 P2 = E at *
            generalize peelS K0 P2 = S0 at *
            generalize peelP K0 P2 = Q0 at *
            obtain ⟨sx, hsx⟩ : ∃ s : ByteArray, s = ⟨(macO K0 P2).toArray⟩ := ⟨_, rfl⟩
            obtain ⟨sy, hsy⟩ : ∃ s : ByteArray, s = ⟨P2.mac.toArray⟩ := ⟨_, rfl⟩
            have HSY := hide hsy
            rw [← hsx] at HMC
            have hE : E = 4 := hiff.2 heq
            have hxy : ¬ sx = sy := fun h => heq (by
              have h2 : (⟨(macO K0 P2).toArray⟩ : ByteArray) = ⟨P2.mac.toArray⟩ := by rw [← hsx, ← hsy, h]
              have h3 := congrArg (fun s : ByteArray => s.data.toList) h2
              simpa using h3)
            have hxy2 : (sx.toList == sy.toList) = false := by rw [hsx, hsy, txt_eqM]; exact beq_eq_false_iff_ne.2 heq
            have hxy3 : decide (sx = sy) = false := decide_eq_false hxy
            subst hE
            clear hsx hsy hiff heq
            go_wp2_with (first
              | (with_reducible refine at_op (op := ⟨some 98, _, _, _, _, _⟩) ?_; refine wpl_held (op := ⟨some 98, _, _, _, _, _⟩) (.agg (cellsB key).toArray) (held_loadf aggK _ rfl g7 rfl _ (cellsB key) (H.out.get 1 rfl) HKc.out) rfl ?_)
              | (with_reducible refine at_op (op := ⟨some 15, _, _, _, _, _⟩) ?_; (with_reducible refine wpl_alloca (op := ⟨some 15, _, _, _, _, _⟩) rfl _ rfl _ zeroK ?_); intro g15 V15 hB1 hg1 hF1; go_simp; (with_reducible refine wpl_storea aggK rfl (.tmp 15) (.tmp 98) rfl g15 (cellsB key) rfl rfl _ _ hB1 HKc.out zl_K (cellsB_one _) ?_); intro V1 hB2 hF2; replace H := hide (H.out.var hg1 hF1 hF2 hB2); clear hB1 hg1 hF1 hB2 hF2)
              | (with_reducible refine at_op (op := ⟨some 104, _, _, _, _, _⟩) ?_; refine wpl_held (op := ⟨some 104, _, _, _, _, _⟩) (.agg (cellsB K0).toArray) (held_loadC aggK _ rfl ((p0.add (0 * 54)).add 2) rfl (cellsB K0) HK0c.out (HKK.out _ H.out.bel)) rfl ?_)
              | (with_reducible refine at_op (op := ⟨none, .store _ (.tmp 15) (.tmp 104), _, _, _, _⟩) ?_; (with_reducible refine wpl_storea aggK rfl (.tmp 15) (.tmp 104) rfl g15 (cellsB K0) rfl rfl _ _ (H.out.get 3 rfl) HK0c.out (cls HKl.out) (cellsB_one _) ?_); intro V2 hB1 hF1; replace H := hide (H.out.store 3 rfl hF1 hB1); clear hB1 hF1)
              | (with_reducible refine at_op (op := ⟨some 106, _, _, _, _, _⟩) ?_; refine wpl_held (op := ⟨some 106, _, _, _, _, _⟩) (.agg (cellsB K0).toArray) (held_loadf aggK _ rfl g15 rfl _ (cellsB K0) (H.out.get 3 rfl) HK0c.out) rfl ?_)
              | (with_reducible refine at_op (op := ⟨some 107, _, _, _, _, _⟩) ?_; refine wpl_held (op := ⟨some 107, _, _, _, _, _⟩) (.agg (pktC P2).toArray) (held_loadf aggP _ rfl g12 rfl _ (pktC P2) (H.out.get 2 rfl) HL2.out) rfl ?_)
              | (go_at_call 10; with_reducible refine (HP1.out _ H.out.tb).mono ?_; rintro e V3 ⟨rfl, hbc⟩; replace H := hide (H.out.call hbc); clear hbc)
              | (with_reducible refine at_op (op := ⟨some 16, _, _, _, _, _⟩) ?_; (with_reducible refine wpl_alloca (op := ⟨some 16, _, _, _, _, _⟩) rfl _ rfl _ zeroS ?_); intro g16 V4 hB1 hg1 hF1; replace H := hide (H.out.box hg1 hF1 hB1); clear hB1 hg1 hF1)
              | (with_reducible refine at_op (op := ⟨some 17, _, _, _, _, _⟩) ?_; (with_reducible refine wpl_alloca (op := ⟨some 17, _, _, _, _, _⟩) rfl _ rfl _ zeroP ?_); intro g17 V5 hB1 hg1 hF1; replace H := hide (H.out.box hg1 hF1 hB1); clear hB1 hg1 hF1)
              | (with_reducible refine at_op (op := ⟨none, .store _ (.tmp 16) (.tmp 109), _, _, _, _⟩) ?_; (with_reducible refine wpl_storea aggS rfl (.tmp 16) (.tmp 109) rfl g16 (slotC S0) rfl rfl _ _ (H.out.get 4 rfl) HS1.out (slot0_len) (slotC_one _) ?_); intro V6 hB1 hF1; replace H := hide (H.out.store 4 rfl hF1 hB1); clear hB1 hF1)
              | (with_reducible refine at_op (op := ⟨none, .store _ (.tmp 17) (.tmp 110), _, _, _, _⟩) ?_; (with_reducible refine wpl_storea aggP rfl (.tmp 17) (.tmp 110) rfl g17 (pktC Q0) rfl rfl _ _ (H.out.get 5 rfl) HQ1.out (pkt0_len) (pktC_one _) ?_); intro V7 hB1 hF1; replace H := hide (H.out.store 5 rfl hF1 hB1); clear hB1 hF1))
            obtain ⟨N, hN⟩ : ∃ N, N = V7.heap.size := ⟨_, rfl⟩
            have hq : Below N V7 V7 := hN ▸ Below.refl _ _
            have HA := hide (fun W' (h : Below N V7 W') => H.out.call (hN ▸ h))
            have HC := hide (fun W' (h : Below N V7 W') W'' (k : Below W'.heap.size W' W'') => h.trans (k.mono (by rw [hN]; exact h.size)))
            have hqo : ∀ W', Below N V7 W' → Calls Tryd.prog 12 #[.agg (pktC P2).toArray] W' (fun e w'' => e = .returned (.agg (rpktC P2).toArray) ∧ Below N V7 w'') := fun W' h => (HOF.out W' (HA.out W' h).tb).mono (fun e w'' ⟨he, hb⟩ => ⟨he, HC.out W' h w'' hb⟩)
            have hqm : ∀ W', Below N V7 W' → Calls Tryd.prog 11 #[.string ⟨(K0).toArray⟩, .agg (rpktC P2).toArray] W' (fun e w'' => e = .returned (.string sx) ∧ Below N V7 w'') := fun W' h => (HMC.out W' (HA.out W' h).tb).mono (fun e w'' ⟨he, hb⟩ => ⟨he, HC.out W' h w'' hb⟩)
            clear hN
            refine wp_region_class (fun W' => Below N V7 W') (by kernel_rfl) (by kernel_rfl) (below_drewN hq 1) ?_
            with_reducible refine wpQuiet_step ?_
            intro K hK
            go_simp
            first | (refine hK _ ?_; clear hK K) | (refine ⟨_, fun w' hw' => rfl, hK _ ?_⟩; clear hK K)
            with_reducible refine wpQuiet_step ?_
            intro K hK
            go_simp
            first | (refine hK _ ?_; clear hK K) | (refine ⟨_, fun w' hw' => rfl, hK _ ?_⟩; clear hK K)
            with_reducible refine wpQuiet_step ?_
            intro K hK
            go_simp
            first | (refine hK _ ?_; clear hK K) | (refine ⟨_, fun w' hw' => rfl, hK _ ?_⟩; clear hK K)
            with_reducible refine wpQuiet_step ?_
            intro K hK
            refine quiet_val (.string ⟨(K0).toArray⟩) (fun w' hw' => held_convR _ rfl (some ⟨g15, 0, none⟩) 32 32 rfl (K0) (((HA.out w' hw').get 3 rfl).mid 0 32 (K0) HCK.out HK0l.out)) ?_ rfl
            go_simp
            refine hK _ ?_
            clear hK K
            with_reducible refine wpQuiet_step ?_
            intro K hK
            refine quiet_val (.agg (pktC P2).toArray) (fun w' hw' => held_loadf aggP _ rfl g12 rfl _ (pktC P2) ((HA.out w' hw').get 2 rfl) HL2.out) ?_ rfl
            go_simp
            refine hK _ ?_
            clear hK K
            with_reducible refine wpQuiet_step ?_
            intro K hK
            go_simp
            refine ⟨_, hqo, hK _ ?_⟩
            clear hK K
            with_reducible refine wpQuiet_step ?_
            intro K hK
            go_simp
            refine ⟨_, hqm, hK _ ?_⟩
            clear hK K
            with_reducible refine wpQuiet_step ?_
            intro K hK
            go_simp
            first | (refine hK _ ?_; clear hK K) | (refine ⟨_, fun w' hw' => rfl, hK _ ?_⟩; clear hK K)
            with_reducible refine wpQuiet_step ?_
            intro K hK
            go_simp
            first | (refine hK _ ?_; clear hK K) | (refine ⟨_, fun w' hw' => rfl, hK _ ?_⟩; clear hK K)
            with_reducible refine wpQuiet_step ?_
            intro K hK
            refine quiet_val (.string sy) (fun w' hw' => held_macS _ rfl g12 rfl P2 sy HSY.out ((HA.out w' hw').get 2 rfl) HCM.out HML.out) ?_ rfl
            go_simp
            refine hK _ ?_
            clear hK K
            with_reducible refine wpQuiet_step ?_
            intro K hK
            go_simp
            first | (refine hK _ ?_; clear hK K) | (refine ⟨_, fun w' hw' => rfl, hK _ ?_⟩; clear hK K)
            with_reducible refine wpQuiet_step ?_
            intro K hK
            go_simp
            first | (refine hK _ ?_; clear hK K) | (refine ⟨_, fun w' hw' => rfl, hK _ ?_⟩; clear hK K)
            refine wpQuiet_nil ?_
            clear hq
            intro wq hwq
            replace H := hide (HA.out wq hwq)
            clear HA HC hwq
            go_wp2_with fail
            replace H := hide (H.out.pre 3)
            go_roundw
            case rel => exact ⟨r + 1, by omega, by go_num, H.out⟩
            case measure => simp [intOf]; omega
        · have hq1 : ¬ (r : Int) < 2 := by omega
          have hq2 : decide ((r : Int) < 2) = false := decide_eq_false hq1
          have HR0 := hide hr0
          clear hr0
          go_wp2_with fail
          go_ret
          exact ⟨rfl, H.out.bel⟩
end Go.Proofs.YtoiiiflnnhkjbaaDoor
