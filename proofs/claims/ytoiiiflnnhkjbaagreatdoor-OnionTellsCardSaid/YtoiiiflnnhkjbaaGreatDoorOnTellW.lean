/-
  OnionTells, walked.
-/
import Derived.Test.YtoiiiflnnhkjbaaGreatDoorHp
import Derived.Test.YtoiiiflnnhkjbaaGreatDoorOnU6
import Derived.Test.YtoiiiflnnhkjbaaGreatDoorOnU7
import Derived.Test.YtoiiiflnnhkjbaaGreatDoorOnSh
import Derived.Test.YtoiiiflnnhkjbaaGreatDoorOnG
namespace Go.Proofs.YtoiiiflnnhkjbaaGreatDoor
set_option linter.unusedVariables false
set_option linter.unusedSimpArgs false
open Go.RowKit

theorem merge1x {R P : Nat → Option Addr → Nat → World → Prop} {G : Prop} (walk : Hid (∀ a B d W, R a B d W → P a B d W) → G) (rest : ∀ a B d W, R a B d W → P a B d W) : G := walk rest
theorem slT (g off : Nat) (w : World) : Sem.run Tryz.prog (Instr.sliceAt 56 (.pointer (some ⟨g, off, none⟩)) none none none) w = .ok (.slice (some ⟨g, off, none⟩) 16 16) w := run_slice_arr0 underT size8 g off (by decide) w
theorem eq_rpkt (a0 a1 a2 a3 a4 a5 : ByteArray) (w : World) : (Op.equalIn 10000 41 (.agg [Value.string a0, .string a1, .string a2, .string a3, .string a4, .string a5].toArray) (.agg [Value.string a0, .string a1, .string a2, .string a3, .string a4, .string a5].toArray)).run Tryz.prog w = .ok true w := by
  have hu := Tryz.underlying41
  rw [run_equalIn_agg w 9999 41 _ _ (by simp only [Program.fieldsOf, hu]) Tryz.stoodInHeld41]
  simp only [Program.fieldsOf, hu]
  have e : true = ((a0.toList == a0.toList) && ((a1.toList == a1.toList) && ((a2.toList == a2.toList) && ((a3.toList == a3.toList) && ((a4.toList == a4.toList) && ((a5.toList == a5.toList) && true)))))) := by simp
  rw [e]
  refine eqF_one (by decide) w (part_one Tryz.underlying9 rfl _ _ (.string a0) rfl w) (part_one Tryz.underlying9 rfl _ _ (.string a0) rfl w) (run_equalIn_string w _ _ _ _ Tryz.underlying9) ?_
  refine eqF_one (by decide) w (part_one Tryz.underlying9 rfl _ _ (.string a1) rfl w) (part_one Tryz.underlying9 rfl _ _ (.string a1) rfl w) (run_equalIn_string w _ _ _ _ Tryz.underlying9) ?_
  refine eqF_one (by decide) w (part_one Tryz.underlying9 rfl _ _ (.string a2) rfl w) (part_one Tryz.underlying9 rfl _ _ (.string a2) rfl w) (run_equalIn_string w _ _ _ _ Tryz.underlying9) ?_
  refine eqF_one (by decide) w (part_one Tryz.underlying9 rfl _ _ (.string a3) rfl w) (part_one Tryz.underlying9 rfl _ _ (.string a3) rfl w) (run_equalIn_string w _ _ _ _ Tryz.underlying9) ?_
  refine eqF_one (by decide) w (part_one Tryz.underlying9 rfl _ _ (.string a4) rfl w) (part_one Tryz.underlying9 rfl _ _ (.string a4) rfl w) (run_equalIn_string w _ _ _ _ Tryz.underlying9) ?_
  exact eqF_one (by decide) w (part_one Tryz.underlying9 rfl _ _ (.string a5) rfl w) (part_one Tryz.underlying9 rfl _ _ (.string a5) rfl w) (run_equalIn_string w _ _ _ _ Tryz.underlying9) (eqF_nil w)
theorem eq_rp (p : Pkt) (w : World) : (Op.equalIn 10000 41 (.agg (rpktC p).toArray) (.agg (rpktC p).toArray)).run Tryz.prog w = .ok true w := eq_rpkt _ _ _ _ _ _ w
theorem rpktC_len (p : Pkt) : (rpktC p).length = 6 := rfl
theorem peel_bad {key : List UInt8} {p : Pkt} (h : ¬ peelE key p = 0) : peelP key p = pkt0 ∧ rpeelC key p = rz := by
  refine ⟨?_, if_neg h⟩
  unfold peelP
  split
  · rename_i hg
    split
    · rename_i ho
      exfalso
      apply h
      unfold peelE
      rw [if_pos hg, errD, if_pos ho]
    · rfl
  · rfl

set_option maxHeartbeats 64000000 in
set_option maxRecDepth 100000 in
theorem otells_walk (w : World) (hT : Tb w) (A : Option Addr) (n c : Nat) (hs0 : List HopL) (box : Nat) (x key : List UInt8) (p : Pkt) (hR0 : HRow w A n hs0) (hnc : n ≤ c) (hc : c ≤ 9223372036854775807) (hbx : box < 65536) (hx : x.length = 256) (hk : key.length = 32) (hp : p.ok) :
    Calls Tryz.prog 3 #[.slice A n c, .int .u16 (box : Int), .agg (cellsB x).toArray, .agg (cellsB key).toArray, .agg (pktC p).toArray] w fun e w' => e = .returned (.bool true) ∧ Below w.heap.size w w' := by
  have H := hide (OAt.start hT)
  have HSH := hide shown_o
  obtain ⟨m, HM, hmn, hm6, hme⟩ := nat_min n 6
  clear hme
  have hcut := cut_hops A n c m (by omega)
  obtain ⟨hs, hhs⟩ : ∃ hs, hs = hs0.take m := ⟨_, rfl⟩
  have hR : HRow w A m hs := by rw [hhs]; exact hR0.take hmn
  have HR := hide hR
  clear hhs hR0
  have HXc := hide (cl hx)
  have HXl := hide hx
  have HKc := hide (cl hk)
  have HKl := hide hk
  have HPL := hide (pktC_length hp)
  have HPN := hide (pktC_nonce hp)
  have hpo := buildP_ok hR.ok (box := box) hx hbx
  have HB : Hid (∀ W, Tb W → HRow W A m hs → Calls Tryz.prog 5 #[.slice A m c, .int .u16 (box : Int), .agg (cellsB x).toArray] W fun e w' => e = .returned (.tuple #[.agg (pktC (buildP hs box x)).toArray, .int .i64 (buildE hs)]) ∧ Below W.heap.size W w') := fun W h1 h2 => build_any A m c box hs x W h2 (by omega) hbx hx h1
  have HRF := hide (fun (W : World) (h1 : Tb W) (h2 : HRow W A m hs) => ref_any A m c hs W h1 h2 (by omega))
  have HBU : Hid (∀ (W : World) (B : Option Addr) (d : Nat), Tb W → XRow W B m hs → (0 < m → ∃ g, B = some ⟨g, 0, none⟩) → Calls Tryz.prog 6 #[.slice B m d, .int .u16 (box : Int), .string ⟨x.toArray⟩] W fun e w' => e = .returned (.tuple #[.agg (rbuildC hs box x).toArray, .int .i64 (buildE hs)]) ∧ Below W.heap.size W w') := fun W B d h1 h2 h3 => rbuild_any B m d box hs x W h1 h2 h3 (by omega) hbx hx
  have HOQ : Hid (∀ (q : Pkt), q.ok → ∀ W, Tb W → Calls Tryz.prog 8 #[.agg (pktC q).toArray] W fun e w' => e = .returned (.agg (rpktC q).toArray) ∧ Below W.heap.size W w') := fun q hq W h => rof_any q W h hq
  have HOP := hide (HOQ.out p hp)
  have HPE := hide (fun (W : World) (h : Tb W) => peel_any key p hk hp W h)
  have HRP := hide (fun (W : World) (h : Tb W) => rpeel_any key p W h (by omega) hp)
  have HTG := hide (fun (W : World) (h : Tb W) => tag_any key p.epoch p.nonce hk hp.nonce hp.epoch W h)
  have HRT := hide (fun (W : World) (h : Tb W) => rtag11_any key p.epoch p.nonce W (by omega) hp.nonce)
  have HMC := hide (fun (W : World) (h : Tb W) => mac_o key p hk hp W h)
  have HRM := hide (fun (W : World) (h : Tb W) => rmac11_any key p W h (by omega) hp)
  have htl := tagO_length key p.epoch p.nonce
  have hml := macO_length key p
  generalize tagO key p.epoch p.nonce = tg at *
  generalize macO key p = mc at *
  have HTl := hide htl
  have HMl := hide hml
  have HTc := hide (cl htl)
  have HMc := hide (cl hml)
  have HSO := hide (peelS_ok key hp)
  have HQO := hide (peelP_ok key hp)
  have HQZ : Hid (¬ peelE key p = 0 → peelP key p = pkt0 ∧ rpeelC key p = rz) := peel_bad
  have HQG : Hid (peelE key p = 0 → rpeelC key p = rpktC (peelP key p)) := fun h => if_pos h
  have HBR : Hid (rightH hs = true → buildE hs = 0 ∧ rbuildC hs box x = rpktC (buildP hs box x)) := fun h => ⟨(built_right h box x).2, if_pos h⟩
  have HBW : Hid (rightH hs = false → buildE hs = 1 ∧ buildP hs box x = pkt0 ∧ rbuildC hs box x = rz) := fun h => ⟨(built_wrong h box x).2, (built_wrong h box x).1, if_neg (by rw [h]; decide)⟩
  have HPO := hide hpo
  generalize buildP hs box x = BP at *
  generalize buildE hs = BE at *
  generalize rbuildC hs box x = BC at *
  generalize peelS key p = PS at *
  generalize peelP key p = PP at *
  generalize peelE key p = PE at *
  generalize rpeelC key p = QC at *
  have HSc := hide (slotC_length PS HSO.out.nonce HSO.out.mac)
  have HPPc := hide (pktC_length HQO.out)
  have HLP := hide (pktC_length HPO.out)
  have HES : Hid (∀ w, (Op.equalIn 10000 51 (.agg (slotC PS).toArray) (.agg (slotC PS).toArray)).run Tryz.prog w = .ok true w) := fun w => by
    have h := eq_slot HSO.out HSO.out w
    rwa [show slotEq PS PS = true from slotEq_iff.2 rfl] at h
  have hslK := slK
  have hslM := slM
  have hslT := slT
  have hsl256 := sl256
  clear hT hx hk hp hR hpo htl hml hbx
  generalize rightH hs = G at *
  have HCL : Hid (BC.length = 6) := by
    show _ = _
    cases G
    · rw [(HBW.out rfl).2.2]; rfl
    · rw [(HBR.out rfl).2]; rfl
  have HC1 : Hid (∀ u ∈ BC, u.oneCell' = true) := by
    cases G
    · rw [(HBW.out rfl).2.2]; exact rz_one
    · rw [(HBR.out rfl).2]; exact rpktC_one _
  have HQCL : Hid (QC.length = 6) := by
    show _ = _
    by_cases h : PE = 0
    · rw [HQG.out h]; rfl
    · rw [(HQZ.out h).2]; rfl
  have HQC1 : Hid (∀ u ∈ QC, u.oneCell' = true) := by
    by_cases h : PE = 0
    · rw [HQG.out h]; exact rpktC_one _
    · rw [(HQZ.out h).2]; exact rz_one
  go_enter Tryz.func3, Tryz.ntmps3
  go_wp2_with (first
    | (with_reducible refine at_op (op := ⟨some 7, _, _, _, _, _⟩) ?_; (refine wpl_boxa (op := ⟨some 7, _, _, _, _, _⟩) rfl _ _ rfl (cellsB x) rfl ?_); intro g7 W1 hB1 hg1 hF1; replace H := hide (H.out.box hg1 hF1 hB1); clear hB1 hg1 hF1)
    | (with_reducible refine at_op (op := ⟨some 8, _, _, _, _, _⟩) ?_; (refine wpl_boxa (op := ⟨some 8, _, _, _, _, _⟩) rfl _ _ rfl (cellsB key) rfl ?_); intro g8 W2 hB1 hg1 hF1; replace H := hide (H.out.box hg1 hF1 hB1); clear hB1 hg1 hF1)
    | (with_reducible refine at_op (op := ⟨some 9, _, _, _, _, _⟩) ?_; (refine wpl_boxa (op := ⟨some 9, _, _, _, _, _⟩) rfl _ _ rfl (pktC p) rfl ?_); intro g9 W3 hB1 hg1 hF1; replace H := hide (H.out.box hg1 hF1 hB1); clear hB1 hg1 hF1)
    | (go_at_call 4; with_reducible refine (HSH.out _ H.out.tb).mono ?_; rintro e W4 ⟨rfl, hbc⟩; replace H := hide (H.out.call hbc); clear hbc)
    | (with_reducible refine wpl_min (op := ⟨some 29, _, _, _, _, _⟩) rfl _ _ _ _ rfl _ _ _ (m : Int) rfl rfl HM.out ?_)
    | (with_reducible refine at_op (op := ⟨some 34, _, _, _, _, _⟩) ?_; refine wpl_held (op := ⟨some 34, _, _, _, _, _⟩) (.agg (cellsB x).toArray) (held_loadf agg256 _ rfl g7 rfl _ (cellsB x) (H.out.get 0 rfl) HXc.out) rfl ?_)
    | (go_at_call 5; with_reducible refine (HB.out _ H.out.tb (HR.out.below H.out.bel)).mono ?_; rintro e W5 ⟨rfl, hbc⟩; replace H := hide (H.out.call hbc); clear hbc)
    | (with_reducible refine at_op (op := ⟨some 12, _, _, _, _, _⟩) ?_; (with_reducible refine wpl_alloca (op := ⟨some 12, _, _, _, _, _⟩) rfl _ rfl _ zeroP ?_); intro g12 V12 hB1 hg1 hF1; go_simp; (with_reducible refine wpl_storea aggP rfl (.tmp 12) (.tmp 36) rfl g12 (pktC BP) rfl rfl _ _ hB1 HLP.out pkt0_len (pktC_one _) ?_); intro W6 hB2 hF2; replace H := hide (H.out.var hg1 hF1 hF2 hB2); clear hB1 hg1 hF1 hB2 hF2))
  apply merge1x (R := fun a0 _ _ W => OAt w [(g7, 24, cellsB x), (g8, 26, cellsB key), (g9, 34, pktC p), (g12, 34, pktC BP), (a0, 41, BC)] W)
  · intro hend
    obtain ⟨U1, hU1⟩ : ∃ U1, U1 = W6.drew := ⟨_, rfl⟩
    refine wp_region_held_drew (S := fun W' => Blk W' g7 24 (cellsB x).toArray) (by kernel_rfl) (by rw [← hU1]; replace H := hide (by rw [hU1]; exact H.out.drew : OAt w _ U1); exact H.out.get 0 rfl) ?_
    intro hHeld
    replace H := hide (by rw [hU1]; exact H.out.drew : OAt w _ U1)
    rw [← hU1] at hHeld ⊢
    clear hU1
    refine tkH 0 (v := ?v1) rfl ?hy1 ?rest1
    case hy1 => (intro w hSw; (try go_simp); try with_reducible rfl)
    try simp only [Act.put, PTs]
    refine tkH 2 (v := ?v2) rfl ?hy2 ?rest2
    case hy2 => (intro w hSw; (try go_simp); try with_reducible rfl)
    try simp only [Act.put, PTs]
    refine tkH 3 (v := ?v3) rfl ?hy3 ?rest3
    case hy3 => (intro w hSw; (try go_simp); try with_reducible rfl)
    try simp only [Act.put, PTs]
    refine tkH 4 (v := ?v4) rfl ?hy4 ?rest4
    case hy4 => (intro w hSw; refine held_convR (.tmp 42) ?_ (some ⟨g7, 0, none⟩) 256 256 ?_ x (hSw.rdsn HXl.out) <;> rfl)
    try simp only [Act.put, PTs]
    refine wpAnyH_ready (rs := [1, 9]) (by kernel_rfl) (by simp) ?_
    refine AllReadyH.cons rfl (fun K hK => ?_) ?_
    · go_simp
      refine (HRF.out _ H.out.tb (HR.out.below H.out.bel)).mono ?_
      rintro e V1 ⟨B1, d1, rfl, hxo, hbc⟩
      replace H := hide (H.out.call hbc)
      have HXO := hide hxo
      clear hbc hxo
      refine hK.out _ _ (H.out.get 0 rfl) (fun hHeld => ?_)
      clear hK K
      refine wpAnyH_ready (rs := [5, 9]) (by kernel_rfl) (by simp) ?_
      refine AllReadyH.cons rfl (fun K hK => ?_) ?_
      · go_simp
        refine (HBU.out _ B1 d1 H.out.tb HXO.out.row (fun h => by obtain ⟨g, hg, _⟩ := HXO.out.cells h; exact ⟨g, hg⟩)).mono ?_
        rintro e V2 ⟨rfl, hbc⟩
        replace H := hide (H.out.call hbc)
        clear hbc HXO
        refine hK.out _ _ (H.out.get 0 rfl) (fun hHeld => ?_)
        clear hK K
        refine tkH 6 (v := ?v5) rfl ?hy5 ?rest5
        case hy5 => (intro w hSw; (try go_simp); try with_reducible rfl)
        try simp only [Act.put, PTs]
        refine tkH 7 (v := ?v6) rfl ?hy6 ?rest6
        case hy6 => (intro w hSw; (try go_simp); try with_reducible rfl)
        try simp only [Act.put, PTs]
        refine tkH 8 (v := ?v7) rfl ?hy7 ?rest7
        case hy7 => (intro w hSw; (try go_simp); try with_reducible rfl)
        try simp only [Act.put, PTs]
        refine rdH 9 rfl (by kernel_rfl) (fun K hK => ?_)
        refine step_alloca rfl _ rfl _ zeroR ?_
        intro g14 V3 hB8 hs8 hF8
        replace H := hide (H.out.box hs8 hF8 hB8)
        clear hB8 hs8 hF8
        refine hK.out _ _ (H.out.get 0 rfl) (fun hHeld => ?_)
        clear hK K
        refine rdH 10 rfl (by kernel_rfl) (fun K hK => ?_)
        refine step_storem aggR rfl (.tmp 14) (.tmp 45) rfl g14 0 (BC) _ (BC) rfl rfl _ (H.out.get 4 rfl) HCL.out (Nat.le_of_eq (by rw [Nat.zero_add]; exact rz_c.symm)) (splice_all _ _ (by rw [HCL.out]; exact rz_c)) HC1.out ?_
        intro W9 hB10 hF10
        replace H := hide (H.out.store 4 rfl hF10 hB10)
        clear hB10 hF10
        refine hK.out _ _ (H.out.get 0 rfl) (fun hHeld => ?_)
        clear hK K
        refine tkH 11 (v := ?v8) rfl ?hy8 ?rest8
        case hy8 => (intro w hSw; (try go_simp); try with_reducible rfl)
        try simp only [Act.put, PTs]
        refine wpAnyH_done (by kernel_rfl) ?_ _
        clear hHeld
        exact hend.out g14 B1 d1 _ H.out
      refine AllReadyH.cons rfl (fun K hK => ?_) AllReadyH.nil
      refine step_alloca rfl _ rfl _ zeroR ?_
      intro g14 V4 hB8 hs8 hF8
      replace HXO := hide (HXO.out.frm0 hF8)
      replace H := hide (H.out.box hs8 hF8 hB8)
      clear hB8 hs8 hF8
      refine hK.out _ _ (H.out.get 0 rfl) (fun hHeld => ?_)
      clear hK K
      refine rdH 5 rfl (by kernel_rfl) (fun K hK => ?_)
      go_simp
      refine (HBU.out _ B1 d1 H.out.tb HXO.out.row (fun h => by obtain ⟨g, hg, _⟩ := HXO.out.cells h; exact ⟨g, hg⟩)).mono ?_
      rintro e V5 ⟨rfl, hbc⟩
      replace H := hide (H.out.call hbc)
      clear hbc HXO
      refine hK.out _ _ (H.out.get 0 rfl) (fun hHeld => ?_)
      clear hK K
      refine tkH 6 (v := ?v9) rfl ?hy9 ?rest9
      case hy9 => (intro w hSw; (try go_simp); try with_reducible rfl)
      try simp only [Act.put, PTs]
      refine tkH 7 (v := ?v10) rfl ?hy10 ?rest10
      case hy10 => (intro w hSw; (try go_simp); try with_reducible rfl)
      try simp only [Act.put, PTs]
      refine tkH 8 (v := ?v11) rfl ?hy11 ?rest11
      case hy11 => (intro w hSw; (try go_simp); try with_reducible rfl)
      try simp only [Act.put, PTs]
      refine rdH 10 rfl (by kernel_rfl) (fun K hK => ?_)
      refine step_storem aggR rfl (.tmp 14) (.tmp 45) rfl g14 0 (BC) _ (BC) rfl rfl _ (H.out.get 4 rfl) HCL.out (Nat.le_of_eq (by rw [Nat.zero_add]; exact rz_c.symm)) (splice_all _ _ (by rw [HCL.out]; exact rz_c)) HC1.out ?_
      intro W9 hB10 hF10
      replace H := hide (H.out.store 4 rfl hF10 hB10)
      clear hB10 hF10
      refine hK.out _ _ (H.out.get 0 rfl) (fun hHeld => ?_)
      clear hK K
      refine tkH 11 (v := ?v12) rfl ?hy12 ?rest12
      case hy12 => (intro w hSw; (try go_simp); try with_reducible rfl)
      try simp only [Act.put, PTs]
      refine wpAnyH_done (by kernel_rfl) ?_ _
      clear hHeld
      exact hend.out g14 B1 d1 _ H.out
    refine AllReadyH.cons rfl (fun K hK => ?_) AllReadyH.nil
    refine step_alloca rfl _ rfl _ zeroR ?_
    intro g14 V6 hB8 hs8 hF8
    replace H := hide (H.out.box hs8 hF8 hB8)
    clear hB8 hs8 hF8
    refine hK.out _ _ (H.out.get 0 rfl) (fun hHeld => ?_)
    clear hK K
    refine rdH 1 rfl (by kernel_rfl) (fun K hK => ?_)
    go_simp
    refine (HRF.out _ H.out.tb (HR.out.below H.out.bel)).mono ?_
    rintro e V7 ⟨B1, d1, rfl, hxo, hbc⟩
    replace H := hide (H.out.call hbc)
    have HXO := hide hxo
    clear hbc hxo
    refine hK.out _ _ (H.out.get 0 rfl) (fun hHeld => ?_)
    clear hK K
    refine rdH 5 rfl (by kernel_rfl) (fun K hK => ?_)
    go_simp
    refine (HBU.out _ B1 d1 H.out.tb HXO.out.row (fun h => by obtain ⟨g, hg, _⟩ := HXO.out.cells h; exact ⟨g, hg⟩)).mono ?_
    rintro e V8 ⟨rfl, hbc⟩
    replace H := hide (H.out.call hbc)
    clear hbc HXO
    refine hK.out _ _ (H.out.get 0 rfl) (fun hHeld => ?_)
    clear hK K
    refine tkH 6 (v := ?v13) rfl ?hy13 ?rest13
    case hy13 => (intro w hSw; (try go_simp); try with_reducible rfl)
    try simp only [Act.put, PTs]
    refine tkH 7 (v := ?v14) rfl ?hy14 ?rest14
    case hy14 => (intro w hSw; (try go_simp); try with_reducible rfl)
    try simp only [Act.put, PTs]
    refine tkH 8 (v := ?v15) rfl ?hy15 ?rest15
    case hy15 => (intro w hSw; (try go_simp); try with_reducible rfl)
    try simp only [Act.put, PTs]
    refine rdH 10 rfl (by kernel_rfl) (fun K hK => ?_)
    refine step_storem aggR rfl (.tmp 14) (.tmp 45) rfl g14 0 (BC) _ (BC) rfl rfl _ (H.out.get 4 rfl) HCL.out (Nat.le_of_eq (by rw [Nat.zero_add]; exact rz_c.symm)) (splice_all _ _ (by rw [HCL.out]; exact rz_c)) HC1.out ?_
    intro W9 hB10 hF10
    replace H := hide (H.out.store 4 rfl hF10 hB10)
    clear hB10 hF10
    refine hK.out _ _ (H.out.get 0 rfl) (fun hHeld => ?_)
    clear hK K
    refine tkH 11 (v := ?v16) rfl ?hy16 ?rest16
    case hy16 => (intro w hSw; (try go_simp); try with_reducible rfl)
    try simp only [Act.put, PTs]
    refine wpAnyH_done (by kernel_rfl) ?_ _
    clear hHeld
    exact hend.out g14 B1 d1 _ H.out
  intro g14 B1 d1 W7 hR2
  replace H := hide hR2
  clear hR2
  go_wp2_with fail
  cases G
  · obtain ⟨e1, e2, e3⟩ := HBW.out rfl
    subst e1
    have hbp : ∀ W, Sem.run Tryz.prog (Instr.build 34 #[]) W = .ok (.agg (pktC BP).toArray) W := by rw [e2]; exact build_pkt0
    have HEP : Hid (∀ w, (Op.equalIn 10000 34 (.agg (pktC BP).toArray) (.agg (pktC BP).toArray)).run Tryz.prog w = .ok true w) := fun w => by
      have h := eq_pkt HPO.out HPO.out w
      rwa [show pktEq BP BP = true from pktEq_iff.2 rfl] at h
    clear e2 e3 HBR HBW
    obtain ⟨N, hN⟩ : ∃ N, N = W7.heap.size := ⟨_, rfl⟩
    have hq : Below N W7 W7 := hN ▸ Below.refl _ _
    have HA := hide (fun W' (h : Below N W7 W') => H.out.call (hN ▸ h))
    have HC := hide (fun W' (h : Below N W7 W') W'' (k : Below W'.heap.size W' W'') => h.trans (k.mono (by rw [hN]; exact h.size)))
    clear hN
    refine wp_region_class (fun W' => Below N W7 W') (by kernel_rfl) (by kernel_rfl) (below_drewN hq 1) ?_
    iterate 17 (with_reducible refine wpQuiet_step ?_; intro K hK; go_simp; first | (refine hK _ ?_; clear hK K) | (refine ⟨_, fun w' hw' => rfl, hK _ ?_⟩; clear hK K))
    with_reducible refine wpQuiet_step ?_
    intro K hK
    refine quiet_val (.agg (pktC BP).toArray) (fun w' hw' => held_loadf aggP _ rfl g12 rfl _ (pktC BP) ((HA.out w' hw').get 3 rfl) HLP.out) ?_ rfl
    go_simp
    refine hK _ ?_
    clear hK K
    with_reducible refine wpQuiet_step ?_
    intro K hK
    refine quiet_val (.agg (pktC BP).toArray) (fun w' hw' => held_build _ _ rfl _ _ (hbp w') rfl) ?_ rfl
    go_simp
    refine hK _ ?_
    clear hK K
    with_reducible refine wpQuiet_step ?_
    intro K hK
    refine quiet_val (.bool (!true)) (fun w' hw' => held_neq _ _ _ _ rfl (pktC BP) (pktC BP) rfl rfl (true) (HEP.out w') Tryz.eqGuardType34) ?_ rfl
    go_simp
    refine hK _ ?_
    clear hK K
    iterate 2 (with_reducible refine wpQuiet_step ?_; intro K hK; go_simp; first | (refine hK _ ?_; clear hK K) | (refine ⟨_, fun w' hw' => rfl, hK _ ?_⟩; clear hK K))
    refine wpQuiet_nil ?_
    clear hq
    intro wq hwq
    replace H := hide (HA.out wq hwq)
    clear HA HC hwq
    go_wp2_with (first
      | (with_reducible refine at_op (op := ⟨some 69, _, _, _, _, _⟩) ?_; refine wpl_held (op := ⟨some 69, _, _, _, _, _⟩) (.agg (pktC p).toArray) (held_loadf aggP _ rfl g9 rfl _ (pktC p) (H.out.get 2 rfl) HPL.out) rfl ?_)
      | (go_at_call 8; with_reducible refine (HOP.out _ H.out.tb).mono ?_; rintro e W10 ⟨rfl, hbc⟩; replace H := hide (H.out.call hbc); clear hbc)
      | (with_reducible refine at_op (op := ⟨some 16, _, _, _, _, _⟩) ?_; (with_reducible refine wpl_alloca (op := ⟨some 16, _, _, _, _, _⟩) rfl _ rfl _ zeroR ?_); intro g16 V16 hB1 hg1 hF1; go_simp; (with_reducible refine wpl_storea aggR rfl (.tmp 16) (.tmp 70) rfl g16 (rpktC p) rfl rfl _ _ hB1 (rpktC_len p) rz_len (rpktC_one _) ?_); intro W11 hB2 hF2; replace H := hide (H.out.var hg1 hF1 hF2 hB2); clear hB1 hg1 hF1 hB2 hF2)
      | (with_reducible refine at_op (op := ⟨some 72, _, _, _, _, _⟩) ?_; refine wpl_held (op := ⟨some 72, _, _, _, _, _⟩) (.agg (cellsB key).toArray) (held_loadf aggK _ rfl g8 rfl _ (cellsB key) (H.out.get 1 rfl) HKc.out) rfl ?_)
      | (with_reducible refine at_op (op := ⟨some 73, _, _, _, _, _⟩) ?_; refine wpl_held (op := ⟨some 73, _, _, _, _, _⟩) (.agg (pktC p).toArray) (held_loadf aggP _ rfl g9 rfl _ (pktC p) (H.out.get 2 rfl) HPL.out) rfl ?_)
      | (go_at_call 9; with_reducible refine (HPE.out _ H.out.tb).mono ?_; rintro e W12 ⟨rfl, hbc⟩; replace H := hide (H.out.call hbc); clear hbc)
      | (with_reducible refine at_op (op := ⟨some 17, _, _, _, _, _⟩) ?_; (with_reducible refine wpl_alloca (op := ⟨some 17, _, _, _, _, _⟩) rfl _ rfl _ zeroS ?_); intro g17 W13 hB1 hg1 hF1; replace H := hide (H.out.box hg1 hF1 hB1); clear hB1 hg1 hF1)
      | (with_reducible refine at_op (op := ⟨some 18, _, _, _, _, _⟩) ?_; (with_reducible refine wpl_alloca (op := ⟨some 18, _, _, _, _, _⟩) rfl _ rfl _ zeroP ?_); intro g18 W14 hB1 hg1 hF1; replace H := hide (H.out.box hg1 hF1 hB1); clear hB1 hg1 hF1)
      | (with_reducible refine at_op (op := ⟨none, .store _ (.tmp 17) (.tmp 75), _, _, _, _⟩) ?_; (with_reducible refine wpl_storea aggS rfl (.tmp 17) (.tmp 75) rfl g17 (slotC PS) rfl rfl _ _ (H.out.get 6 rfl) HSc.out (slot0_len) (slotC_one _) ?_); intro W15 hB1 hF1; replace H := hide (H.out.store 6 rfl hF1 hB1); clear hB1 hF1)
      | (with_reducible refine at_op (op := ⟨none, .store _ (.tmp 18) (.tmp 76), _, _, _, _⟩) ?_; (with_reducible refine wpl_storea aggP rfl (.tmp 18) (.tmp 76) rfl g18 (pktC PP) rfl rfl _ _ (H.out.get 7 rfl) HPPc.out (pkt0_len) (pktC_one _) ?_); intro W16 hB1 hF1; replace H := hide (H.out.store 7 rfl hF1 hB1); clear hB1 hF1))
    apply merge2 (R := fun a20 a21 W => OAt w [(g7, 24, cellsB x), (g8, 26, cellsB key), (g9, 34, pktC p), (g12, 34, pktC BP), (g14, 41, BC), (g16, 41, rpktC p), (g17, 51, slotC PS), (g18, 34, pktC PP), (a20, 51, slotC PS), (a21, 41, QC)] W)
    · intro hend
      obtain ⟨U2, hU2⟩ : ∃ U2, U2 = W16.drew := ⟨_, rfl⟩
      refine wp_region_held_drew (S := fun W' => Blk W' g8 26 (cellsB key).toArray ∧ Blk W' g16 41 (rpktC p).toArray) (by kernel_rfl) (by rw [← hU2]; replace H := hide (by rw [hU2]; exact H.out.drew : OAt w _ U2); exact ⟨H.out.get 1 rfl, H.out.get 5 rfl⟩) ?_
      intro hHeld
      replace H := hide (by rw [hU2]; exact H.out.drew : OAt w _ U2)
      rw [← hU2] at hHeld ⊢
      clear hU2
      refine tkH 0 (v := ?v17) rfl ?hy17 ?rest17
      case hy17 => (intro w hSw; (try go_simp); try with_reducible rfl)
      try simp only [Act.put, PTs]
      refine tkH 1 (v := ?v18) rfl ?hy18 ?rest18
      case hy18 => (intro w hSw; refine held_convR (.tmp 79) ?_ (some ⟨g8, 0, none⟩) 32 32 ?_ key (hSw.1.rdsn HKl.out) <;> rfl)
      try simp only [Act.put, PTs]
      refine tkH 2 (v := ?v19) rfl ?hy19 ?rest19
      case hy19 => (intro w hSw; refine held_loadf aggR (.tmp 16) ?_ g16 ?_ _ (rpktC p) hSw.2 (rpktC_len p) <;> rfl)
      try simp only [Act.put, PTs]
      refine wpAnyH_ready (rs := [3, 8, 9]) (by kernel_rfl) (by simp) ?_
      refine AllReadyH.cons rfl (fun K hK => ?_) ?_
      · go_simp
        refine (HRP.out _ H.out.tb).mono ?_
        rintro e V1 ⟨rfl, hbc⟩
        replace H := hide (H.out.call hbc)
        clear hbc
        refine hK.out _ _ (⟨H.out.get 1 rfl, H.out.get 5 rfl⟩) (fun hHeld => ?_)
        clear hK K
        refine tkH 4 (v := ?v20) rfl ?hy20 ?rest20
        case hy20 => (intro w hSw; (try go_simp); try with_reducible rfl)
        try simp only [Act.put, PTs]
        refine tkH 5 (v := ?v21) rfl ?hy21 ?rest21
        case hy21 => (intro w hSw; (try go_simp); try with_reducible rfl)
        try simp only [Act.put, PTs]
        refine tkH 6 (v := ?v22) rfl ?hy22 ?rest22
        case hy22 => (intro w hSw; (try go_simp); try with_reducible rfl)
        try simp only [Act.put, PTs]
        refine tkH 7 (v := ?v23) rfl ?hy23 ?rest23
        case hy23 => (intro w hSw; (try go_simp); try with_reducible rfl)
        try simp only [Act.put, PTs]
        refine wpAnyH_ready (rs := [8, 9]) (by kernel_rfl) (by simp) ?_
        refine AllReadyH.cons rfl (fun K hK => ?_) ?_
        · refine step_alloca rfl _ rfl _ zeroS ?_
          intro g20 V2 hB8 hs8 hF8
          replace H := hide (H.out.box hs8 hF8 hB8)
          clear hB8 hs8 hF8
          refine hK.out _ _ (⟨H.out.get 1 rfl, H.out.get 5 rfl⟩) (fun hHeld => ?_)
          clear hK K
          refine rdH 9 rfl (by kernel_rfl) (fun K hK => ?_)
          refine step_alloca rfl _ rfl _ zeroR ?_
          intro g21 V3 hB8 hs8 hF8
          replace H := hide (H.out.box hs8 hF8 hB8)
          clear hB8 hs8 hF8
          refine hK.out _ _ (⟨H.out.get 1 rfl, H.out.get 5 rfl⟩) (fun hHeld => ?_)
          clear hK K
          refine rdH 10 rfl (by kernel_rfl) (fun K hK => ?_)
          refine step_storem aggS rfl (.tmp 20) (.tmp 83) rfl g20 0 (slotC PS) _ (slotC PS) rfl rfl _ (H.out.get 8 rfl) HSc.out (Nat.le_of_eq (by rw [Nat.zero_add]; exact slot0_c.symm)) (splice_all _ _ (by rw [HSc.out]; exact slot0_c)) (slotC_one _) ?_
          intro V4 hB8 hF8
          replace H := hide (H.out.store 8 rfl hF8 hB8)
          clear hB8 hF8
          refine hK.out _ _ (⟨H.out.get 1 rfl, H.out.get 5 rfl⟩) (fun hHeld => ?_)
          clear hK K
          refine rdH 11 rfl (by kernel_rfl) (fun K hK => ?_)
          refine step_storem aggR rfl (.tmp 21) (.tmp 84) rfl g21 0 (QC) _ (QC) rfl rfl _ (H.out.get 9 rfl) HQCL.out (Nat.le_of_eq (by rw [Nat.zero_add]; exact rz_c.symm)) (splice_all _ _ (by rw [HQCL.out]; exact rz_c)) (HQC1.out) ?_
          intro V5 hB8 hF8
          replace H := hide (H.out.store 9 rfl hF8 hB8)
          clear hB8 hF8
          refine hK.out _ _ (⟨H.out.get 1 rfl, H.out.get 5 rfl⟩) (fun hHeld => ?_)
          clear hK K
          refine tkH 12 (v := ?v24) rfl ?hy24 ?rest24
          case hy24 => (intro w hSw; (try go_simp); try with_reducible rfl)
          try simp only [Act.put, PTs]
          refine wpAnyH_done (by kernel_rfl) ?_ _
          clear hHeld
          exact hend.out g20 g21 _ (H.out)
        refine AllReadyH.cons rfl (fun K hK => ?_) AllReadyH.nil
        refine step_alloca rfl _ rfl _ zeroR ?_
        intro g21 V6 hB8 hs8 hF8
        replace H := hide (H.out.box hs8 hF8 hB8)
        clear hB8 hs8 hF8
        refine hK.out _ _ (⟨H.out.get 1 rfl, H.out.get 5 rfl⟩) (fun hHeld => ?_)
        clear hK K
        refine rdH 8 rfl (by kernel_rfl) (fun K hK => ?_)
        refine step_alloca rfl _ rfl _ zeroS ?_
        intro g20 V7 hB8 hs8 hF8
        replace H := hide (H.out.box hs8 hF8 hB8)
        clear hB8 hs8 hF8
        refine hK.out _ _ (⟨H.out.get 1 rfl, H.out.get 5 rfl⟩) (fun hHeld => ?_)
        clear hK K
        refine rdH 10 rfl (by kernel_rfl) (fun K hK => ?_)
        refine step_storem aggS rfl (.tmp 20) (.tmp 83) rfl g20 0 (slotC PS) _ (slotC PS) rfl rfl _ (H.out.get 9 rfl) HSc.out (Nat.le_of_eq (by rw [Nat.zero_add]; exact slot0_c.symm)) (splice_all _ _ (by rw [HSc.out]; exact slot0_c)) (slotC_one _) ?_
        intro V8 hB8 hF8
        replace H := hide (H.out.store 9 rfl hF8 hB8)
        clear hB8 hF8
        refine hK.out _ _ (⟨H.out.get 1 rfl, H.out.get 5 rfl⟩) (fun hHeld => ?_)
        clear hK K
        refine rdH 11 rfl (by kernel_rfl) (fun K hK => ?_)
        refine step_storem aggR rfl (.tmp 21) (.tmp 84) rfl g21 0 (QC) _ (QC) rfl rfl _ (H.out.get 8 rfl) HQCL.out (Nat.le_of_eq (by rw [Nat.zero_add]; exact rz_c.symm)) (splice_all _ _ (by rw [HQCL.out]; exact rz_c)) (HQC1.out) ?_
        intro V9 hB8 hF8
        replace H := hide (H.out.store 8 rfl hF8 hB8)
        clear hB8 hF8
        refine hK.out _ _ (⟨H.out.get 1 rfl, H.out.get 5 rfl⟩) (fun hHeld => ?_)
        clear hK K
        refine tkH 12 (v := ?v25) rfl ?hy25 ?rest25
        case hy25 => (intro w hSw; (try go_simp); try with_reducible rfl)
        try simp only [Act.put, PTs]
        refine wpAnyH_done (by kernel_rfl) ?_ _
        clear hHeld
        exact hend.out g20 g21 _ (H.out.perm (.cons _ (.cons _ (.cons _ (.cons _ (.cons _ (.cons _ (.cons _ (.cons _ (.swap _ _ _))))))))))
      refine AllReadyH.cons rfl (fun K hK => ?_) ?_
      · refine step_alloca rfl _ rfl _ zeroS ?_
        intro g20 V10 hB8 hs8 hF8
        replace H := hide (H.out.box hs8 hF8 hB8)
        clear hB8 hs8 hF8
        refine hK.out _ _ (⟨H.out.get 1 rfl, H.out.get 5 rfl⟩) (fun hHeld => ?_)
        clear hK K
        refine wpAnyH_ready (rs := [3, 9]) (by kernel_rfl) (by simp) ?_
        refine AllReadyH.cons rfl (fun K hK => ?_) ?_
        · go_simp
          refine (HRP.out _ H.out.tb).mono ?_
          rintro e V11 ⟨rfl, hbc⟩
          replace H := hide (H.out.call hbc)
          clear hbc
          refine hK.out _ _ (⟨H.out.get 1 rfl, H.out.get 5 rfl⟩) (fun hHeld => ?_)
          clear hK K
          refine tkH 4 (v := ?v26) rfl ?hy26 ?rest26
          case hy26 => (intro w hSw; (try go_simp); try with_reducible rfl)
          try simp only [Act.put, PTs]
          refine tkH 5 (v := ?v27) rfl ?hy27 ?rest27
          case hy27 => (intro w hSw; (try go_simp); try with_reducible rfl)
          try simp only [Act.put, PTs]
          refine tkH 6 (v := ?v28) rfl ?hy28 ?rest28
          case hy28 => (intro w hSw; (try go_simp); try with_reducible rfl)
          try simp only [Act.put, PTs]
          refine tkH 7 (v := ?v29) rfl ?hy29 ?rest29
          case hy29 => (intro w hSw; (try go_simp); try with_reducible rfl)
          try simp only [Act.put, PTs]
          refine rdH 9 rfl (by kernel_rfl) (fun K hK => ?_)
          refine step_alloca rfl _ rfl _ zeroR ?_
          intro g21 V12 hB8 hs8 hF8
          replace H := hide (H.out.box hs8 hF8 hB8)
          clear hB8 hs8 hF8
          refine hK.out _ _ (⟨H.out.get 1 rfl, H.out.get 5 rfl⟩) (fun hHeld => ?_)
          clear hK K
          refine rdH 10 rfl (by kernel_rfl) (fun K hK => ?_)
          refine step_storem aggS rfl (.tmp 20) (.tmp 83) rfl g20 0 (slotC PS) _ (slotC PS) rfl rfl _ (H.out.get 8 rfl) HSc.out (Nat.le_of_eq (by rw [Nat.zero_add]; exact slot0_c.symm)) (splice_all _ _ (by rw [HSc.out]; exact slot0_c)) (slotC_one _) ?_
          intro V13 hB8 hF8
          replace H := hide (H.out.store 8 rfl hF8 hB8)
          clear hB8 hF8
          refine hK.out _ _ (⟨H.out.get 1 rfl, H.out.get 5 rfl⟩) (fun hHeld => ?_)
          clear hK K
          refine rdH 11 rfl (by kernel_rfl) (fun K hK => ?_)
          refine step_storem aggR rfl (.tmp 21) (.tmp 84) rfl g21 0 (QC) _ (QC) rfl rfl _ (H.out.get 9 rfl) HQCL.out (Nat.le_of_eq (by rw [Nat.zero_add]; exact rz_c.symm)) (splice_all _ _ (by rw [HQCL.out]; exact rz_c)) (HQC1.out) ?_
          intro V14 hB8 hF8
          replace H := hide (H.out.store 9 rfl hF8 hB8)
          clear hB8 hF8
          refine hK.out _ _ (⟨H.out.get 1 rfl, H.out.get 5 rfl⟩) (fun hHeld => ?_)
          clear hK K
          refine tkH 12 (v := ?v30) rfl ?hy30 ?rest30
          case hy30 => (intro w hSw; (try go_simp); try with_reducible rfl)
          try simp only [Act.put, PTs]
          refine wpAnyH_done (by kernel_rfl) ?_ _
          clear hHeld
          exact hend.out g20 g21 _ (H.out)
        refine AllReadyH.cons rfl (fun K hK => ?_) AllReadyH.nil
        refine step_alloca rfl _ rfl _ zeroR ?_
        intro g21 V15 hB8 hs8 hF8
        replace H := hide (H.out.box hs8 hF8 hB8)
        clear hB8 hs8 hF8
        refine hK.out _ _ (⟨H.out.get 1 rfl, H.out.get 5 rfl⟩) (fun hHeld => ?_)
        clear hK K
        refine rdH 3 rfl (by kernel_rfl) (fun K hK => ?_)
        go_simp
        refine (HRP.out _ H.out.tb).mono ?_
        rintro e V16 ⟨rfl, hbc⟩
        replace H := hide (H.out.call hbc)
        clear hbc
        refine hK.out _ _ (⟨H.out.get 1 rfl, H.out.get 5 rfl⟩) (fun hHeld => ?_)
        clear hK K
        refine tkH 4 (v := ?v31) rfl ?hy31 ?rest31
        case hy31 => (intro w hSw; (try go_simp); try with_reducible rfl)
        try simp only [Act.put, PTs]
        refine tkH 5 (v := ?v32) rfl ?hy32 ?rest32
        case hy32 => (intro w hSw; (try go_simp); try with_reducible rfl)
        try simp only [Act.put, PTs]
        refine tkH 6 (v := ?v33) rfl ?hy33 ?rest33
        case hy33 => (intro w hSw; (try go_simp); try with_reducible rfl)
        try simp only [Act.put, PTs]
        refine tkH 7 (v := ?v34) rfl ?hy34 ?rest34
        case hy34 => (intro w hSw; (try go_simp); try with_reducible rfl)
        try simp only [Act.put, PTs]
        refine rdH 10 rfl (by kernel_rfl) (fun K hK => ?_)
        refine step_storem aggS rfl (.tmp 20) (.tmp 83) rfl g20 0 (slotC PS) _ (slotC PS) rfl rfl _ (H.out.get 8 rfl) HSc.out (Nat.le_of_eq (by rw [Nat.zero_add]; exact slot0_c.symm)) (splice_all _ _ (by rw [HSc.out]; exact slot0_c)) (slotC_one _) ?_
        intro V17 hB8 hF8
        replace H := hide (H.out.store 8 rfl hF8 hB8)
        clear hB8 hF8
        refine hK.out _ _ (⟨H.out.get 1 rfl, H.out.get 5 rfl⟩) (fun hHeld => ?_)
        clear hK K
        refine rdH 11 rfl (by kernel_rfl) (fun K hK => ?_)
        refine step_storem aggR rfl (.tmp 21) (.tmp 84) rfl g21 0 (QC) _ (QC) rfl rfl _ (H.out.get 9 rfl) HQCL.out (Nat.le_of_eq (by rw [Nat.zero_add]; exact rz_c.symm)) (splice_all _ _ (by rw [HQCL.out]; exact rz_c)) (HQC1.out) ?_
        intro V18 hB8 hF8
        replace H := hide (H.out.store 9 rfl hF8 hB8)
        clear hB8 hF8
        refine hK.out _ _ (⟨H.out.get 1 rfl, H.out.get 5 rfl⟩) (fun hHeld => ?_)
        clear hK K
        refine tkH 12 (v := ?v35) rfl ?hy35 ?rest35
        case hy35 => (intro w hSw; (try go_simp); try with_reducible rfl)
        try simp only [Act.put, PTs]
        refine wpAnyH_done (by kernel_rfl) ?_ _
        clear hHeld
        exact hend.out g20 g21 _ (H.out)
      refine AllReadyH.cons rfl (fun K hK => ?_) AllReadyH.nil
      refine step_alloca rfl _ rfl _ zeroR ?_
      intro g21 V19 hB8 hs8 hF8
      replace H := hide (H.out.box hs8 hF8 hB8)
      clear hB8 hs8 hF8
      refine hK.out _ _ (⟨H.out.get 1 rfl, H.out.get 5 rfl⟩) (fun hHeld => ?_)
      clear hK K
      refine wpAnyH_ready (rs := [3, 8]) (by kernel_rfl) (by simp) ?_
      refine AllReadyH.cons rfl (fun K hK => ?_) ?_
      · go_simp
        refine (HRP.out _ H.out.tb).mono ?_
        rintro e V20 ⟨rfl, hbc⟩
        replace H := hide (H.out.call hbc)
        clear hbc
        refine hK.out _ _ (⟨H.out.get 1 rfl, H.out.get 5 rfl⟩) (fun hHeld => ?_)
        clear hK K
        refine tkH 4 (v := ?v36) rfl ?hy36 ?rest36
        case hy36 => (intro w hSw; (try go_simp); try with_reducible rfl)
        try simp only [Act.put, PTs]
        refine tkH 5 (v := ?v37) rfl ?hy37 ?rest37
        case hy37 => (intro w hSw; (try go_simp); try with_reducible rfl)
        try simp only [Act.put, PTs]
        refine tkH 6 (v := ?v38) rfl ?hy38 ?rest38
        case hy38 => (intro w hSw; (try go_simp); try with_reducible rfl)
        try simp only [Act.put, PTs]
        refine tkH 7 (v := ?v39) rfl ?hy39 ?rest39
        case hy39 => (intro w hSw; (try go_simp); try with_reducible rfl)
        try simp only [Act.put, PTs]
        refine rdH 8 rfl (by kernel_rfl) (fun K hK => ?_)
        refine step_alloca rfl _ rfl _ zeroS ?_
        intro g20 V21 hB8 hs8 hF8
        replace H := hide (H.out.box hs8 hF8 hB8)
        clear hB8 hs8 hF8
        refine hK.out _ _ (⟨H.out.get 1 rfl, H.out.get 5 rfl⟩) (fun hHeld => ?_)
        clear hK K
        refine rdH 10 rfl (by kernel_rfl) (fun K hK => ?_)
        refine step_storem aggS rfl (.tmp 20) (.tmp 83) rfl g20 0 (slotC PS) _ (slotC PS) rfl rfl _ (H.out.get 9 rfl) HSc.out (Nat.le_of_eq (by rw [Nat.zero_add]; exact slot0_c.symm)) (splice_all _ _ (by rw [HSc.out]; exact slot0_c)) (slotC_one _) ?_
        intro V22 hB8 hF8
        replace H := hide (H.out.store 9 rfl hF8 hB8)
        clear hB8 hF8
        refine hK.out _ _ (⟨H.out.get 1 rfl, H.out.get 5 rfl⟩) (fun hHeld => ?_)
        clear hK K
        refine rdH 11 rfl (by kernel_rfl) (fun K hK => ?_)
        refine step_storem aggR rfl (.tmp 21) (.tmp 84) rfl g21 0 (QC) _ (QC) rfl rfl _ (H.out.get 8 rfl) HQCL.out (Nat.le_of_eq (by rw [Nat.zero_add]; exact rz_c.symm)) (splice_all _ _ (by rw [HQCL.out]; exact rz_c)) (HQC1.out) ?_
        intro V23 hB8 hF8
        replace H := hide (H.out.store 8 rfl hF8 hB8)
        clear hB8 hF8
        refine hK.out _ _ (⟨H.out.get 1 rfl, H.out.get 5 rfl⟩) (fun hHeld => ?_)
        clear hK K
        refine tkH 12 (v := ?v40) rfl ?hy40 ?rest40
        case hy40 => (intro w hSw; (try go_simp); try with_reducible rfl)
        try simp only [Act.put, PTs]
        refine wpAnyH_done (by kernel_rfl) ?_ _
        clear hHeld
        exact hend.out g20 g21 _ (H.out.perm (.cons _ (.cons _ (.cons _ (.cons _ (.cons _ (.cons _ (.cons _ (.cons _ (.swap _ _ _))))))))))
      refine AllReadyH.cons rfl (fun K hK => ?_) AllReadyH.nil
      refine step_alloca rfl _ rfl _ zeroS ?_
      intro g20 V24 hB8 hs8 hF8
      replace H := hide (H.out.box hs8 hF8 hB8)
      clear hB8 hs8 hF8
      refine hK.out _ _ (⟨H.out.get 1 rfl, H.out.get 5 rfl⟩) (fun hHeld => ?_)
      clear hK K
      refine rdH 3 rfl (by kernel_rfl) (fun K hK => ?_)
      go_simp
      refine (HRP.out _ H.out.tb).mono ?_
      rintro e V25 ⟨rfl, hbc⟩
      replace H := hide (H.out.call hbc)
      clear hbc
      refine hK.out _ _ (⟨H.out.get 1 rfl, H.out.get 5 rfl⟩) (fun hHeld => ?_)
      clear hK K
      refine tkH 4 (v := ?v41) rfl ?hy41 ?rest41
      case hy41 => (intro w hSw; (try go_simp); try with_reducible rfl)
      try simp only [Act.put, PTs]
      refine tkH 5 (v := ?v42) rfl ?hy42 ?rest42
      case hy42 => (intro w hSw; (try go_simp); try with_reducible rfl)
      try simp only [Act.put, PTs]
      refine tkH 6 (v := ?v43) rfl ?hy43 ?rest43
      case hy43 => (intro w hSw; (try go_simp); try with_reducible rfl)
      try simp only [Act.put, PTs]
      refine tkH 7 (v := ?v44) rfl ?hy44 ?rest44
      case hy44 => (intro w hSw; (try go_simp); try with_reducible rfl)
      try simp only [Act.put, PTs]
      refine rdH 10 rfl (by kernel_rfl) (fun K hK => ?_)
      refine step_storem aggS rfl (.tmp 20) (.tmp 83) rfl g20 0 (slotC PS) _ (slotC PS) rfl rfl _ (H.out.get 9 rfl) HSc.out (Nat.le_of_eq (by rw [Nat.zero_add]; exact slot0_c.symm)) (splice_all _ _ (by rw [HSc.out]; exact slot0_c)) (slotC_one _) ?_
      intro V26 hB8 hF8
      replace H := hide (H.out.store 9 rfl hF8 hB8)
      clear hB8 hF8
      refine hK.out _ _ (⟨H.out.get 1 rfl, H.out.get 5 rfl⟩) (fun hHeld => ?_)
      clear hK K
      refine rdH 11 rfl (by kernel_rfl) (fun K hK => ?_)
      refine step_storem aggR rfl (.tmp 21) (.tmp 84) rfl g21 0 (QC) _ (QC) rfl rfl _ (H.out.get 8 rfl) HQCL.out (Nat.le_of_eq (by rw [Nat.zero_add]; exact rz_c.symm)) (splice_all _ _ (by rw [HQCL.out]; exact rz_c)) (HQC1.out) ?_
      intro V27 hB8 hF8
      replace H := hide (H.out.store 8 rfl hF8 hB8)
      clear hB8 hF8
      refine hK.out _ _ (⟨H.out.get 1 rfl, H.out.get 5 rfl⟩) (fun hHeld => ?_)
      clear hK K
      refine tkH 12 (v := ?v45) rfl ?hy45 ?rest45
      case hy45 => (intro w hSw; (try go_simp); try with_reducible rfl)
      try simp only [Act.put, PTs]
      refine wpAnyH_done (by kernel_rfl) ?_ _
      clear hHeld
      exact hend.out g20 g21 _ (H.out.perm (.cons _ (.cons _ (.cons _ (.cons _ (.cons _ (.cons _ (.cons _ (.cons _ (.swap _ _ _))))))))))
    intro g20 g21 W17 hR2
    replace H := hide hR2
    clear hR2
    go_wp2_with fail
    by_cases hPE : PE = 0
    · have e4 := HQG.out hPE
      subst hPE
      have HEQ : Hid (∀ w, (Op.equalIn 10000 41 (.agg (rpktC PP).toArray) (.agg QC.toArray)).run Tryz.prog w = .ok true w) := by rw [e4]; exact eq_rp PP
      have HOPP := hide (HOQ.out PP HQO.out)
      clear e4 HQZ HQG
      clear HOQ
      obtain ⟨N, hN⟩ : ∃ N, N = W17.heap.size := ⟨_, rfl⟩
      have hq : Below N W17 W17 := hN ▸ Below.refl _ _
      have HA := hide (fun W' (h : Below N W17 W') => H.out.call (hN ▸ h))
      have HC := hide (fun W' (h : Below N W17 W') W'' (k : Below W'.heap.size W' W'') => h.trans (k.mono (by rw [hN]; exact h.size)))
      have hqp : ∀ W', Below N W17 W' → Calls Tryz.prog 8 #[.agg (pktC PP).toArray] W' (fun e w'' => e = .returned (.agg (rpktC PP).toArray) ∧ Below N W17 w'') := fun W' h => (HOPP.out W' (HA.out W' h).tb).mono (fun e w'' ⟨he, hb⟩ => ⟨he, HC.out W' h w'' hb⟩)
      clear hN
      refine wp_region_class (fun W' => Below N W17 W') (by kernel_rfl) (by kernel_rfl) (below_drewN hq 1) ?_
      iterate 4 (with_reducible refine wpQuiet_step ?_; intro K hK; go_simp; first | (refine hK _ ?_; clear hK K) | (refine ⟨_, fun w' hw' => rfl, hK _ ?_⟩; clear hK K))
      with_reducible refine wpQuiet_step ?_
      intro K hK
      refine quiet_val (.agg (slotC PS).toArray) (fun w' hw' => held_loadf aggS _ rfl g17 rfl _ (slotC PS) ((HA.out w' hw').get 6 rfl) HSc.out) ?_ rfl
      go_simp
      refine hK _ ?_
      clear hK K
      with_reducible refine wpQuiet_step ?_
      intro K hK
      refine quiet_val (.agg (slotC PS).toArray) (fun w' hw' => held_loadf aggS _ rfl g20 rfl _ (slotC PS) ((HA.out w' hw').get 8 rfl) HSc.out) ?_ rfl
      go_simp
      refine hK _ ?_
      clear hK K
      with_reducible refine wpQuiet_step ?_
      intro K hK
      refine quiet_val (.bool (!true)) (fun w' hw' => held_neq _ _ _ _ rfl (slotC PS) (slotC PS) rfl rfl (true) (HES.out w') Tryz.eqGuardType51) ?_ rfl
      go_simp
      refine hK _ ?_
      clear hK K
      iterate 5 (with_reducible refine wpQuiet_step ?_; intro K hK; go_simp; first | (refine hK _ ?_; clear hK K) | (refine ⟨_, fun w' hw' => rfl, hK _ ?_⟩; clear hK K))
      with_reducible refine wpQuiet_step ?_
      intro K hK
      refine quiet_val (.agg (pktC PP).toArray) (fun w' hw' => held_loadf aggP _ rfl g18 rfl _ (pktC PP) ((HA.out w' hw').get 7 rfl) HPPc.out) ?_ rfl
      go_simp
      refine hK _ ?_
      clear hK K
      with_reducible refine wpQuiet_step ?_
      intro K hK
      go_simp
      refine ⟨_, hqp, hK _ ?_⟩
      clear hK K
      with_reducible refine wpQuiet_step ?_
      intro K hK
      refine quiet_val (.agg (QC).toArray) (fun w' hw' => held_loadf aggR _ rfl g21 rfl _ (QC) ((HA.out w' hw').get 9 rfl) HQCL.out) ?_ rfl
      go_simp
      refine hK _ ?_
      clear hK K
      with_reducible refine wpQuiet_step ?_
      intro K hK
      refine quiet_val (.bool (!true)) (fun w' hw' => held_neq _ _ _ _ rfl (rpktC PP) (QC) rfl rfl (true) (HEQ.out w') Tryz.eqGuardType41) ?_ rfl
      go_simp
      refine hK _ ?_
      clear hK K
      iterate 11 (with_reducible refine wpQuiet_step ?_; intro K hK; go_simp; first | (refine hK _ ?_; clear hK K) | (refine ⟨_, fun w' hw' => rfl, hK _ ?_⟩; clear hK K))
      refine wpQuiet_nil ?_
      clear hq
      intro wq hwq
      replace H := hide (HA.out wq hwq)
      clear HA HC hwq
      go_wp2_with (first
        | (with_reducible refine at_op (op := ⟨some 113, _, _, _, _, _⟩) ?_; refine wpl_held (op := ⟨some 113, _, _, _, _, _⟩) (.agg (cellsB key).toArray) (held_loadf aggK _ rfl g8 rfl _ (cellsB key) (H.out.get 1 rfl) HKc.out) rfl ?_)
        | (with_reducible refine at_op (op := ⟨some 115, _, _, _, _, _⟩) ?_; refine wpl_held (op := ⟨some 115, _, _, _, _, _⟩) (.int .u32 (p.epoch : Int)) (held_load1 Tryz.underlying28 rfl one32 _ rfl g9 1 rfl _ _ (.int .u32 (p.epoch : Int)) (H.out.get 2 rfl) rfl) rfl ?_)
        | (with_reducible refine at_op (op := ⟨some 117, _, _, _, _, _⟩) ?_; refine wpl_held (op := ⟨some 117, _, _, _, _, _⟩) (.agg (cellsB p.nonce).toArray) (held_loada aggN _ rfl g9 2 rfl _ (pktC p) (cellsB p.nonce) (H.out.get 2 rfl) HPN.out (by rw [HPL.out]; decide)) rfl ?_)
        | (go_at_call 11; with_reducible refine (HTG.out _ H.out.tb).mono ?_; rintro e W20 ⟨rfl, hbc⟩; replace H := hide (H.out.call hbc); clear hbc)
        | (with_reducible refine at_op (op := ⟨some 23, _, _, _, _, _⟩) ?_; (with_reducible refine wpl_alloca (op := ⟨some 23, _, _, _, _, _⟩) rfl _ rfl _ zeroT ?_); intro g23 V23 hB1 hg1 hF1; go_simp; (with_reducible refine wpl_storea aggT rfl (.tmp 23) (.tmp 118) rfl g23 (cellsB tg) rfl rfl _ _ hB1 HTc.out Z16_len (cellsB_one _) ?_); intro W21 hB2 hF2; replace H := hide (H.out.var hg1 hF1 hF2 hB2); clear hB1 hg1 hF1 hB2 hF2)
        | (with_reducible refine at_op (op := ⟨some 119, _, _, _, _, _⟩) ?_; refine wpl_held (op := ⟨some 119, _, _, _, _, _⟩) (.agg (cellsB key).toArray) (held_loadf aggK _ rfl g8 rfl _ (cellsB key) (H.out.get 1 rfl) HKc.out) rfl ?_)
        | (with_reducible refine at_op (op := ⟨some 120, _, _, _, _, _⟩) ?_; refine wpl_held (op := ⟨some 120, _, _, _, _, _⟩) (.agg (pktC p).toArray) (held_loadf aggP _ rfl g9 rfl _ (pktC p) (H.out.get 2 rfl) HPL.out) rfl ?_)
        | (go_at_call 12; with_reducible refine (HMC.out _ H.out.tb).mono ?_; rintro e W22 ⟨rfl, hbc⟩; replace H := hide (H.out.call hbc); clear hbc)
        | (with_reducible refine at_op (op := ⟨some 24, _, _, _, _, _⟩) ?_; (with_reducible refine wpl_alloca (op := ⟨some 24, _, _, _, _, _⟩) rfl _ rfl _ zeroM ?_); intro g24 V24 hB1 hg1 hF1; go_simp; (with_reducible refine wpl_storea aggM rfl (.tmp 24) (.tmp 121) rfl g24 (cellsB mc) rfl rfl _ _ hB1 HMc.out Z16_len (cellsB_one _) ?_); intro W23 hB2 hF2; replace H := hide (H.out.var hg1 hF1 hF2 hB2); clear hB1 hg1 hF1 hB2 hF2))
      obtain ⟨N, hN⟩ : ∃ N, N = W23.heap.size := ⟨_, rfl⟩
      have hq : Below N W23 W23 := hN ▸ Below.refl _ _
      have HA := hide (fun W' (h : Below N W23 W') => H.out.call (hN ▸ h))
      have HC := hide (fun W' (h : Below N W23 W') W'' (k : Below W'.heap.size W' W'') => h.trans (k.mono (by rw [hN]; exact h.size)))
      have hqt : ∀ W', Below N W23 W' → Calls Tryz.prog 13 #[.string ⟨key.toArray⟩, .string ⟨(be 4 p.epoch).toArray⟩, .string ⟨p.nonce.toArray⟩] W' (fun e w'' => e = .returned (.string ⟨tg.toArray⟩) ∧ Below N W23 w'') := fun W' h => (HRT.out W' (HA.out W' h).tb).mono (fun e w'' ⟨he, hb⟩ => ⟨he, HC.out W' h w'' hb⟩)
      have hqm : ∀ W', Below N W23 W' → Calls Tryz.prog 14 #[.string ⟨key.toArray⟩, .agg (rpktC p).toArray] W' (fun e w'' => e = .returned (.string ⟨mc.toArray⟩) ∧ Below N W23 w'') := fun W' h => (HRM.out W' (HA.out W' h).tb).mono (fun e w'' ⟨he, hb⟩ => ⟨he, HC.out W' h w'' hb⟩)
      clear hN
      refine wp_region_class (fun W' => Below N W23 W') (by kernel_rfl) (by kernel_rfl) (below_drewN hq 1) ?_
      iterate 3 (with_reducible refine wpQuiet_step ?_; intro K hK; go_simp; first | (refine hK _ ?_; clear hK K) | (refine ⟨_, fun w' hw' => rfl, hK _ ?_⟩; clear hK K))
      with_reducible refine wpQuiet_step ?_
      intro K hK
      refine quiet_val (.string ⟨(tg).toArray⟩) (fun w' hw' => held_convR _ rfl (some ⟨g23, 0, none⟩) 16 16 rfl tg (((HA.out w' hw').get 10 rfl).rdsn HTl.out)) ?_ rfl
      go_simp
      refine hK _ ?_
      clear hK K
      with_reducible refine wpQuiet_step ?_; intro K hK; go_simp; first | (refine hK _ ?_; clear hK K) | (refine ⟨_, fun w' hw' => rfl, hK _ ?_⟩; clear hK K)
      with_reducible refine wpQuiet_step ?_
      intro K hK
      refine quiet_val (.string ⟨(key).toArray⟩) (fun w' hw' => held_convR _ rfl (some ⟨g8, 0, none⟩) 32 32 rfl key (((HA.out w' hw').get 1 rfl).rdsn HKl.out)) ?_ rfl
      go_simp
      refine hK _ ?_
      clear hK K
      with_reducible refine wpQuiet_step ?_; intro K hK; go_simp; first | (refine hK _ ?_; clear hK K) | (refine ⟨_, fun w' hw' => rfl, hK _ ?_⟩; clear hK K)
      with_reducible refine wpQuiet_step ?_
      intro K hK
      refine quiet_val (.string ⟨(be 4 p.epoch).toArray⟩) (fun w' hw' => held_load1 Tryz.underlying9 rfl oneStr _ rfl g16 1 rfl _ _ (.string ⟨(be 4 p.epoch).toArray⟩) ((HA.out w' hw').get 5 rfl) rfl) ?_ rfl
      go_simp
      refine hK _ ?_
      clear hK K
      with_reducible refine wpQuiet_step ?_; intro K hK; go_simp; first | (refine hK _ ?_; clear hK K) | (refine ⟨_, fun w' hw' => rfl, hK _ ?_⟩; clear hK K)
      with_reducible refine wpQuiet_step ?_
      intro K hK
      refine quiet_val (.string ⟨p.nonce.toArray⟩) (fun w' hw' => held_load1 Tryz.underlying9 rfl oneStr _ rfl g16 2 rfl _ _ (.string ⟨p.nonce.toArray⟩) ((HA.out w' hw').get 5 rfl) rfl) ?_ rfl
      go_simp
      refine hK _ ?_
      clear hK K
      with_reducible refine wpQuiet_step ?_
      intro K hK
      go_simp
      refine ⟨_, hqt, hK _ ?_⟩
      clear hK K
      iterate 4 (with_reducible refine wpQuiet_step ?_; intro K hK; go_simp; first | (refine hK _ ?_; clear hK K) | (refine ⟨_, fun w' hw' => rfl, hK _ ?_⟩; clear hK K))
      with_reducible refine wpQuiet_step ?_
      intro K hK
      refine quiet_val (.string ⟨(mc).toArray⟩) (fun w' hw' => held_convR _ rfl (some ⟨g24, 0, none⟩) 16 16 rfl mc (((HA.out w' hw').get 11 rfl).rdsn HMl.out)) ?_ rfl
      go_simp
      refine hK _ ?_
      clear hK K
      with_reducible refine wpQuiet_step ?_; intro K hK; go_simp; first | (refine hK _ ?_; clear hK K) | (refine ⟨_, fun w' hw' => rfl, hK _ ?_⟩; clear hK K)
      with_reducible refine wpQuiet_step ?_
      intro K hK
      refine quiet_val (.string ⟨(key).toArray⟩) (fun w' hw' => held_convR _ rfl (some ⟨g8, 0, none⟩) 32 32 rfl key (((HA.out w' hw').get 1 rfl).rdsn HKl.out)) ?_ rfl
      go_simp
      refine hK _ ?_
      clear hK K
      with_reducible refine wpQuiet_step ?_
      intro K hK
      refine quiet_val (.agg (rpktC p).toArray) (fun w' hw' => held_loadf aggR _ rfl g16 rfl _ (rpktC p) ((HA.out w' hw').get 5 rfl) (rpktC_len p)) ?_ rfl
      go_simp
      refine hK _ ?_
      clear hK K
      with_reducible refine wpQuiet_step ?_
      intro K hK
      go_simp
      refine ⟨_, hqm, hK _ ?_⟩
      clear hK K
      iterate 3 (with_reducible refine wpQuiet_step ?_; intro K hK; go_simp; first | (refine hK _ ?_; clear hK K) | (refine ⟨_, fun w' hw' => rfl, hK _ ?_⟩; clear hK K))
      refine wpQuiet_nil ?_
      clear hq
      intro wq hwq
      replace H := hide (HA.out wq hwq)
      clear HA HC hwq
      go_wp2_with fail
      go_ret
      exact ⟨rfl, H.out.bel⟩
    · obtain ⟨e5, e6⟩ := HQZ.out hPE
      have hq2 : (PE == 0) = false := beq_eq_false_iff_ne.2 hPE
      have hq3 : (PE != 0) = true := by rw [bne, hq2]; rfl
      have hq4 : decide (PE = 0) = false := decide_eq_false hPE
      have hbq : ∀ W, Sem.run Tryz.prog (Instr.build 34 #[]) W = .ok (.agg (pktC PP).toArray) W := by rw [e5]; exact build_pkt0
      have HEPP : Hid (∀ w, (Op.equalIn 10000 34 (.agg (pktC PP).toArray) (.agg (pktC PP).toArray)).run Tryz.prog w = .ok true w) := fun w => by
        have h := eq_pkt HQO.out HQO.out w
        rwa [show pktEq PP PP = true from pktEq_iff.2 rfl] at h
      clear e5 e6 HQZ HQG
      clear HOQ
      obtain ⟨N, hN⟩ : ∃ N, N = W17.heap.size := ⟨_, rfl⟩
      have hq : Below N W17 W17 := hN ▸ Below.refl _ _
      have HA := hide (fun W' (h : Below N W17 W') => H.out.call (hN ▸ h))
      have HC := hide (fun W' (h : Below N W17 W') W'' (k : Below W'.heap.size W' W'') => h.trans (k.mono (by rw [hN]; exact h.size)))
      clear hN
      refine wp_region_class (fun W' => Below N W17 W') (by kernel_rfl) (by kernel_rfl) (below_drewN hq 1) ?_
      iterate 4 (with_reducible refine wpQuiet_step ?_; intro K hK; go_simp; first | (refine hK _ ?_; clear hK K) | (refine ⟨_, fun w' hw' => rfl, hK _ ?_⟩; clear hK K))
      with_reducible refine wpQuiet_step ?_
      intro K hK
      refine quiet_val (.agg (slotC PS).toArray) (fun w' hw' => held_loadf aggS _ rfl g17 rfl _ (slotC PS) ((HA.out w' hw').get 6 rfl) HSc.out) ?_ rfl
      go_simp
      refine hK _ ?_
      clear hK K
      with_reducible refine wpQuiet_step ?_
      intro K hK
      refine quiet_val (.agg (slotC PS).toArray) (fun w' hw' => held_loadf aggS _ rfl g20 rfl _ (slotC PS) ((HA.out w' hw').get 8 rfl) HSc.out) ?_ rfl
      go_simp
      refine hK _ ?_
      clear hK K
      with_reducible refine wpQuiet_step ?_
      intro K hK
      refine quiet_val (.bool (!true)) (fun w' hw' => held_neq _ _ _ _ rfl (slotC PS) (slotC PS) rfl rfl (true) (HES.out w') Tryz.eqGuardType51) ?_ rfl
      go_simp
      refine hK _ ?_
      clear hK K
      iterate 15 (with_reducible refine wpQuiet_step ?_; intro K hK; go_simp; first | (refine hK _ ?_; clear hK K) | (refine ⟨_, fun w' hw' => rfl, hK _ ?_⟩; clear hK K))
      with_reducible refine wpQuiet_step ?_
      intro K hK
      refine quiet_val (.agg (pktC PP).toArray) (fun w' hw' => held_loadf aggP _ rfl g18 rfl _ (pktC PP) ((HA.out w' hw').get 7 rfl) HPPc.out) ?_ rfl
      go_simp
      refine hK _ ?_
      clear hK K
      with_reducible refine wpQuiet_step ?_
      intro K hK
      refine quiet_val (.agg (pktC PP).toArray) (fun w' hw' => held_build _ _ rfl _ _ (hbq w') rfl) ?_ rfl
      go_simp
      refine hK _ ?_
      clear hK K
      with_reducible refine wpQuiet_step ?_
      intro K hK
      refine quiet_val (.bool (!true)) (fun w' hw' => held_neq _ _ _ _ rfl (pktC PP) (pktC PP) rfl rfl (true) (HEPP.out w') Tryz.eqGuardType34) ?_ rfl
      go_simp
      refine hK _ ?_
      clear hK K
      iterate 2 (with_reducible refine wpQuiet_step ?_; intro K hK; go_simp; first | (refine hK _ ?_; clear hK K) | (refine ⟨_, fun w' hw' => rfl, hK _ ?_⟩; clear hK K))
      refine wpQuiet_nil ?_
      clear hq
      intro wq hwq
      replace H := hide (HA.out wq hwq)
      clear HA HC hwq
      go_wp2_with (first
        | (with_reducible refine at_op (op := ⟨some 113, _, _, _, _, _⟩) ?_; refine wpl_held (op := ⟨some 113, _, _, _, _, _⟩) (.agg (cellsB key).toArray) (held_loadf aggK _ rfl g8 rfl _ (cellsB key) (H.out.get 1 rfl) HKc.out) rfl ?_)
        | (with_reducible refine at_op (op := ⟨some 115, _, _, _, _, _⟩) ?_; refine wpl_held (op := ⟨some 115, _, _, _, _, _⟩) (.int .u32 (p.epoch : Int)) (held_load1 Tryz.underlying28 rfl one32 _ rfl g9 1 rfl _ _ (.int .u32 (p.epoch : Int)) (H.out.get 2 rfl) rfl) rfl ?_)
        | (with_reducible refine at_op (op := ⟨some 117, _, _, _, _, _⟩) ?_; refine wpl_held (op := ⟨some 117, _, _, _, _, _⟩) (.agg (cellsB p.nonce).toArray) (held_loada aggN _ rfl g9 2 rfl _ (pktC p) (cellsB p.nonce) (H.out.get 2 rfl) HPN.out (by rw [HPL.out]; decide)) rfl ?_)
        | (go_at_call 11; with_reducible refine (HTG.out _ H.out.tb).mono ?_; rintro e W20 ⟨rfl, hbc⟩; replace H := hide (H.out.call hbc); clear hbc)
        | (with_reducible refine at_op (op := ⟨some 23, _, _, _, _, _⟩) ?_; (with_reducible refine wpl_alloca (op := ⟨some 23, _, _, _, _, _⟩) rfl _ rfl _ zeroT ?_); intro g23 V23 hB1 hg1 hF1; go_simp; (with_reducible refine wpl_storea aggT rfl (.tmp 23) (.tmp 118) rfl g23 (cellsB tg) rfl rfl _ _ hB1 HTc.out Z16_len (cellsB_one _) ?_); intro W21 hB2 hF2; replace H := hide (H.out.var hg1 hF1 hF2 hB2); clear hB1 hg1 hF1 hB2 hF2)
        | (with_reducible refine at_op (op := ⟨some 119, _, _, _, _, _⟩) ?_; refine wpl_held (op := ⟨some 119, _, _, _, _, _⟩) (.agg (cellsB key).toArray) (held_loadf aggK _ rfl g8 rfl _ (cellsB key) (H.out.get 1 rfl) HKc.out) rfl ?_)
        | (with_reducible refine at_op (op := ⟨some 120, _, _, _, _, _⟩) ?_; refine wpl_held (op := ⟨some 120, _, _, _, _, _⟩) (.agg (pktC p).toArray) (held_loadf aggP _ rfl g9 rfl _ (pktC p) (H.out.get 2 rfl) HPL.out) rfl ?_)
        | (go_at_call 12; with_reducible refine (HMC.out _ H.out.tb).mono ?_; rintro e W22 ⟨rfl, hbc⟩; replace H := hide (H.out.call hbc); clear hbc)
        | (with_reducible refine at_op (op := ⟨some 24, _, _, _, _, _⟩) ?_; (with_reducible refine wpl_alloca (op := ⟨some 24, _, _, _, _, _⟩) rfl _ rfl _ zeroM ?_); intro g24 V24 hB1 hg1 hF1; go_simp; (with_reducible refine wpl_storea aggM rfl (.tmp 24) (.tmp 121) rfl g24 (cellsB mc) rfl rfl _ _ hB1 HMc.out Z16_len (cellsB_one _) ?_); intro W23 hB2 hF2; replace H := hide (H.out.var hg1 hF1 hF2 hB2); clear hB1 hg1 hF1 hB2 hF2))
      obtain ⟨N, hN⟩ : ∃ N, N = W23.heap.size := ⟨_, rfl⟩
      have hq : Below N W23 W23 := hN ▸ Below.refl _ _
      have HA := hide (fun W' (h : Below N W23 W') => H.out.call (hN ▸ h))
      have HC := hide (fun W' (h : Below N W23 W') W'' (k : Below W'.heap.size W' W'') => h.trans (k.mono (by rw [hN]; exact h.size)))
      have hqt : ∀ W', Below N W23 W' → Calls Tryz.prog 13 #[.string ⟨key.toArray⟩, .string ⟨(be 4 p.epoch).toArray⟩, .string ⟨p.nonce.toArray⟩] W' (fun e w'' => e = .returned (.string ⟨tg.toArray⟩) ∧ Below N W23 w'') := fun W' h => (HRT.out W' (HA.out W' h).tb).mono (fun e w'' ⟨he, hb⟩ => ⟨he, HC.out W' h w'' hb⟩)
      have hqm : ∀ W', Below N W23 W' → Calls Tryz.prog 14 #[.string ⟨key.toArray⟩, .agg (rpktC p).toArray] W' (fun e w'' => e = .returned (.string ⟨mc.toArray⟩) ∧ Below N W23 w'') := fun W' h => (HRM.out W' (HA.out W' h).tb).mono (fun e w'' ⟨he, hb⟩ => ⟨he, HC.out W' h w'' hb⟩)
      clear hN
      refine wp_region_class (fun W' => Below N W23 W') (by kernel_rfl) (by kernel_rfl) (below_drewN hq 1) ?_
      iterate 3 (with_reducible refine wpQuiet_step ?_; intro K hK; go_simp; first | (refine hK _ ?_; clear hK K) | (refine ⟨_, fun w' hw' => rfl, hK _ ?_⟩; clear hK K))
      with_reducible refine wpQuiet_step ?_
      intro K hK
      refine quiet_val (.string ⟨(tg).toArray⟩) (fun w' hw' => held_convR _ rfl (some ⟨g23, 0, none⟩) 16 16 rfl tg (((HA.out w' hw').get 10 rfl).rdsn HTl.out)) ?_ rfl
      go_simp
      refine hK _ ?_
      clear hK K
      with_reducible refine wpQuiet_step ?_; intro K hK; go_simp; first | (refine hK _ ?_; clear hK K) | (refine ⟨_, fun w' hw' => rfl, hK _ ?_⟩; clear hK K)
      with_reducible refine wpQuiet_step ?_
      intro K hK
      refine quiet_val (.string ⟨(key).toArray⟩) (fun w' hw' => held_convR _ rfl (some ⟨g8, 0, none⟩) 32 32 rfl key (((HA.out w' hw').get 1 rfl).rdsn HKl.out)) ?_ rfl
      go_simp
      refine hK _ ?_
      clear hK K
      with_reducible refine wpQuiet_step ?_; intro K hK; go_simp; first | (refine hK _ ?_; clear hK K) | (refine ⟨_, fun w' hw' => rfl, hK _ ?_⟩; clear hK K)
      with_reducible refine wpQuiet_step ?_
      intro K hK
      refine quiet_val (.string ⟨(be 4 p.epoch).toArray⟩) (fun w' hw' => held_load1 Tryz.underlying9 rfl oneStr _ rfl g16 1 rfl _ _ (.string ⟨(be 4 p.epoch).toArray⟩) ((HA.out w' hw').get 5 rfl) rfl) ?_ rfl
      go_simp
      refine hK _ ?_
      clear hK K
      with_reducible refine wpQuiet_step ?_; intro K hK; go_simp; first | (refine hK _ ?_; clear hK K) | (refine ⟨_, fun w' hw' => rfl, hK _ ?_⟩; clear hK K)
      with_reducible refine wpQuiet_step ?_
      intro K hK
      refine quiet_val (.string ⟨p.nonce.toArray⟩) (fun w' hw' => held_load1 Tryz.underlying9 rfl oneStr _ rfl g16 2 rfl _ _ (.string ⟨p.nonce.toArray⟩) ((HA.out w' hw').get 5 rfl) rfl) ?_ rfl
      go_simp
      refine hK _ ?_
      clear hK K
      with_reducible refine wpQuiet_step ?_
      intro K hK
      go_simp
      refine ⟨_, hqt, hK _ ?_⟩
      clear hK K
      iterate 4 (with_reducible refine wpQuiet_step ?_; intro K hK; go_simp; first | (refine hK _ ?_; clear hK K) | (refine ⟨_, fun w' hw' => rfl, hK _ ?_⟩; clear hK K))
      with_reducible refine wpQuiet_step ?_
      intro K hK
      refine quiet_val (.string ⟨(mc).toArray⟩) (fun w' hw' => held_convR _ rfl (some ⟨g24, 0, none⟩) 16 16 rfl mc (((HA.out w' hw').get 11 rfl).rdsn HMl.out)) ?_ rfl
      go_simp
      refine hK _ ?_
      clear hK K
      with_reducible refine wpQuiet_step ?_; intro K hK; go_simp; first | (refine hK _ ?_; clear hK K) | (refine ⟨_, fun w' hw' => rfl, hK _ ?_⟩; clear hK K)
      with_reducible refine wpQuiet_step ?_
      intro K hK
      refine quiet_val (.string ⟨(key).toArray⟩) (fun w' hw' => held_convR _ rfl (some ⟨g8, 0, none⟩) 32 32 rfl key (((HA.out w' hw').get 1 rfl).rdsn HKl.out)) ?_ rfl
      go_simp
      refine hK _ ?_
      clear hK K
      with_reducible refine wpQuiet_step ?_
      intro K hK
      refine quiet_val (.agg (rpktC p).toArray) (fun w' hw' => held_loadf aggR _ rfl g16 rfl _ (rpktC p) ((HA.out w' hw').get 5 rfl) (rpktC_len p)) ?_ rfl
      go_simp
      refine hK _ ?_
      clear hK K
      with_reducible refine wpQuiet_step ?_
      intro K hK
      go_simp
      refine ⟨_, hqm, hK _ ?_⟩
      clear hK K
      iterate 3 (with_reducible refine wpQuiet_step ?_; intro K hK; go_simp; first | (refine hK _ ?_; clear hK K) | (refine ⟨_, fun w' hw' => rfl, hK _ ?_⟩; clear hK K))
      refine wpQuiet_nil ?_
      clear hq
      intro wq hwq
      replace H := hide (HA.out wq hwq)
      clear HA HC hwq
      go_wp2_with fail
      go_ret
      exact ⟨rfl, H.out.bel⟩
  · obtain ⟨e1, e2⟩ := HBR.out rfl
    subst e1
    have HEC : Hid (∀ w, (Op.equalIn 10000 41 (.agg (rpktC BP).toArray) (.agg BC.toArray)).run Tryz.prog w = .ok true w) := by rw [e2]; exact eq_rp BP
    have HOB := hide (HOQ.out BP HPO.out)
    clear e2 HBR HBW
    obtain ⟨N, hN⟩ : ∃ N, N = W7.heap.size := ⟨_, rfl⟩
    have hq : Below N W7 W7 := hN ▸ Below.refl _ _
    have HA := hide (fun W' (h : Below N W7 W') => H.out.call (hN ▸ h))
    have HC := hide (fun W' (h : Below N W7 W') W'' (k : Below W'.heap.size W' W'') => h.trans (k.mono (by rw [hN]; exact h.size)))
    have hqo : ∀ W', Below N W7 W' → Calls Tryz.prog 8 #[.agg (pktC BP).toArray] W' (fun e w'' => e = .returned (.agg (rpktC BP).toArray) ∧ Below N W7 w'') := fun W' h => (HOB.out W' (HA.out W' h).tb).mono (fun e w'' ⟨he, hb⟩ => ⟨he, HC.out W' h w'' hb⟩)
    clear hN
    refine wp_region_class (fun W' => Below N W7 W') (by kernel_rfl) (by kernel_rfl) (below_drewN hq 1) ?_
    iterate 7 (with_reducible refine wpQuiet_step ?_; intro K hK; go_simp; first | (refine hK _ ?_; clear hK K) | (refine ⟨_, fun w' hw' => rfl, hK _ ?_⟩; clear hK K))
    with_reducible refine wpQuiet_step ?_
    intro K hK
    refine quiet_val (.agg (pktC BP).toArray) (fun w' hw' => held_loadf aggP _ rfl g12 rfl _ (pktC BP) ((HA.out w' hw').get 3 rfl) HLP.out) ?_ rfl
    go_simp
    refine hK _ ?_
    clear hK K
    with_reducible refine wpQuiet_step ?_
    intro K hK
    go_simp
    refine ⟨_, hqo, hK _ ?_⟩
    clear hK K
    with_reducible refine wpQuiet_step ?_
    intro K hK
    refine quiet_val (.agg (BC).toArray) (fun w' hw' => held_loadf aggR _ rfl g14 rfl _ (BC) ((HA.out w' hw').get 4 rfl) HCL.out) ?_ rfl
    go_simp
    refine hK _ ?_
    clear hK K
    with_reducible refine wpQuiet_step ?_
    intro K hK
    refine quiet_val (.bool (!true)) (fun w' hw' => held_neq _ _ _ _ rfl (rpktC BP) (BC) rfl rfl (true) (HEC.out w') Tryz.eqGuardType41) ?_ rfl
    go_simp
    refine hK _ ?_
    clear hK K
    iterate 11 (with_reducible refine wpQuiet_step ?_; intro K hK; go_simp; first | (refine hK _ ?_; clear hK K) | (refine ⟨_, fun w' hw' => rfl, hK _ ?_⟩; clear hK K))
    refine wpQuiet_nil ?_
    clear hq
    intro wq hwq
    replace H := hide (HA.out wq hwq)
    clear HA HC hwq
    go_wp2_with (first
      | (with_reducible refine at_op (op := ⟨some 69, _, _, _, _, _⟩) ?_; refine wpl_held (op := ⟨some 69, _, _, _, _, _⟩) (.agg (pktC p).toArray) (held_loadf aggP _ rfl g9 rfl _ (pktC p) (H.out.get 2 rfl) HPL.out) rfl ?_)
      | (go_at_call 8; with_reducible refine (HOP.out _ H.out.tb).mono ?_; rintro e W10 ⟨rfl, hbc⟩; replace H := hide (H.out.call hbc); clear hbc)
      | (with_reducible refine at_op (op := ⟨some 16, _, _, _, _, _⟩) ?_; (with_reducible refine wpl_alloca (op := ⟨some 16, _, _, _, _, _⟩) rfl _ rfl _ zeroR ?_); intro g16 V16 hB1 hg1 hF1; go_simp; (with_reducible refine wpl_storea aggR rfl (.tmp 16) (.tmp 70) rfl g16 (rpktC p) rfl rfl _ _ hB1 (rpktC_len p) rz_len (rpktC_one _) ?_); intro W11 hB2 hF2; replace H := hide (H.out.var hg1 hF1 hF2 hB2); clear hB1 hg1 hF1 hB2 hF2)
      | (with_reducible refine at_op (op := ⟨some 72, _, _, _, _, _⟩) ?_; refine wpl_held (op := ⟨some 72, _, _, _, _, _⟩) (.agg (cellsB key).toArray) (held_loadf aggK _ rfl g8 rfl _ (cellsB key) (H.out.get 1 rfl) HKc.out) rfl ?_)
      | (with_reducible refine at_op (op := ⟨some 73, _, _, _, _, _⟩) ?_; refine wpl_held (op := ⟨some 73, _, _, _, _, _⟩) (.agg (pktC p).toArray) (held_loadf aggP _ rfl g9 rfl _ (pktC p) (H.out.get 2 rfl) HPL.out) rfl ?_)
      | (go_at_call 9; with_reducible refine (HPE.out _ H.out.tb).mono ?_; rintro e W12 ⟨rfl, hbc⟩; replace H := hide (H.out.call hbc); clear hbc)
      | (with_reducible refine at_op (op := ⟨some 17, _, _, _, _, _⟩) ?_; (with_reducible refine wpl_alloca (op := ⟨some 17, _, _, _, _, _⟩) rfl _ rfl _ zeroS ?_); intro g17 W13 hB1 hg1 hF1; replace H := hide (H.out.box hg1 hF1 hB1); clear hB1 hg1 hF1)
      | (with_reducible refine at_op (op := ⟨some 18, _, _, _, _, _⟩) ?_; (with_reducible refine wpl_alloca (op := ⟨some 18, _, _, _, _, _⟩) rfl _ rfl _ zeroP ?_); intro g18 W14 hB1 hg1 hF1; replace H := hide (H.out.box hg1 hF1 hB1); clear hB1 hg1 hF1)
      | (with_reducible refine at_op (op := ⟨none, .store _ (.tmp 17) (.tmp 75), _, _, _, _⟩) ?_; (with_reducible refine wpl_storea aggS rfl (.tmp 17) (.tmp 75) rfl g17 (slotC PS) rfl rfl _ _ (H.out.get 6 rfl) HSc.out (slot0_len) (slotC_one _) ?_); intro W15 hB1 hF1; replace H := hide (H.out.store 6 rfl hF1 hB1); clear hB1 hF1)
      | (with_reducible refine at_op (op := ⟨none, .store _ (.tmp 18) (.tmp 76), _, _, _, _⟩) ?_; (with_reducible refine wpl_storea aggP rfl (.tmp 18) (.tmp 76) rfl g18 (pktC PP) rfl rfl _ _ (H.out.get 7 rfl) HPPc.out (pkt0_len) (pktC_one _) ?_); intro W16 hB1 hF1; replace H := hide (H.out.store 7 rfl hF1 hB1); clear hB1 hF1))
    apply merge2 (R := fun a20 a21 W => OAt w [(g7, 24, cellsB x), (g8, 26, cellsB key), (g9, 34, pktC p), (g12, 34, pktC BP), (g14, 41, BC), (g16, 41, rpktC p), (g17, 51, slotC PS), (g18, 34, pktC PP), (a20, 51, slotC PS), (a21, 41, QC)] W)
    · intro hend
      obtain ⟨U2, hU2⟩ : ∃ U2, U2 = W16.drew := ⟨_, rfl⟩
      refine wp_region_held_drew (S := fun W' => Blk W' g8 26 (cellsB key).toArray ∧ Blk W' g16 41 (rpktC p).toArray) (by kernel_rfl) (by rw [← hU2]; replace H := hide (by rw [hU2]; exact H.out.drew : OAt w _ U2); exact ⟨H.out.get 1 rfl, H.out.get 5 rfl⟩) ?_
      intro hHeld
      replace H := hide (by rw [hU2]; exact H.out.drew : OAt w _ U2)
      rw [← hU2] at hHeld ⊢
      clear hU2
      refine tkH 0 (v := ?v46) rfl ?hy46 ?rest46
      case hy46 => (intro w hSw; (try go_simp); try with_reducible rfl)
      try simp only [Act.put, PTs]
      refine tkH 1 (v := ?v47) rfl ?hy47 ?rest47
      case hy47 => (intro w hSw; refine held_convR (.tmp 79) ?_ (some ⟨g8, 0, none⟩) 32 32 ?_ key (hSw.1.rdsn HKl.out) <;> rfl)
      try simp only [Act.put, PTs]
      refine tkH 2 (v := ?v48) rfl ?hy48 ?rest48
      case hy48 => (intro w hSw; refine held_loadf aggR (.tmp 16) ?_ g16 ?_ _ (rpktC p) hSw.2 (rpktC_len p) <;> rfl)
      try simp only [Act.put, PTs]
      refine wpAnyH_ready (rs := [3, 8, 9]) (by kernel_rfl) (by simp) ?_
      refine AllReadyH.cons rfl (fun K hK => ?_) ?_
      · go_simp
        refine (HRP.out _ H.out.tb).mono ?_
        rintro e V1 ⟨rfl, hbc⟩
        replace H := hide (H.out.call hbc)
        clear hbc
        refine hK.out _ _ (⟨H.out.get 1 rfl, H.out.get 5 rfl⟩) (fun hHeld => ?_)
        clear hK K
        refine tkH 4 (v := ?v49) rfl ?hy49 ?rest49
        case hy49 => (intro w hSw; (try go_simp); try with_reducible rfl)
        try simp only [Act.put, PTs]
        refine tkH 5 (v := ?v50) rfl ?hy50 ?rest50
        case hy50 => (intro w hSw; (try go_simp); try with_reducible rfl)
        try simp only [Act.put, PTs]
        refine tkH 6 (v := ?v51) rfl ?hy51 ?rest51
        case hy51 => (intro w hSw; (try go_simp); try with_reducible rfl)
        try simp only [Act.put, PTs]
        refine tkH 7 (v := ?v52) rfl ?hy52 ?rest52
        case hy52 => (intro w hSw; (try go_simp); try with_reducible rfl)
        try simp only [Act.put, PTs]
        refine wpAnyH_ready (rs := [8, 9]) (by kernel_rfl) (by simp) ?_
        refine AllReadyH.cons rfl (fun K hK => ?_) ?_
        · refine step_alloca rfl _ rfl _ zeroS ?_
          intro g20 V2 hB8 hs8 hF8
          replace H := hide (H.out.box hs8 hF8 hB8)
          clear hB8 hs8 hF8
          refine hK.out _ _ (⟨H.out.get 1 rfl, H.out.get 5 rfl⟩) (fun hHeld => ?_)
          clear hK K
          refine rdH 9 rfl (by kernel_rfl) (fun K hK => ?_)
          refine step_alloca rfl _ rfl _ zeroR ?_
          intro g21 V3 hB8 hs8 hF8
          replace H := hide (H.out.box hs8 hF8 hB8)
          clear hB8 hs8 hF8
          refine hK.out _ _ (⟨H.out.get 1 rfl, H.out.get 5 rfl⟩) (fun hHeld => ?_)
          clear hK K
          refine rdH 10 rfl (by kernel_rfl) (fun K hK => ?_)
          refine step_storem aggS rfl (.tmp 20) (.tmp 83) rfl g20 0 (slotC PS) _ (slotC PS) rfl rfl _ (H.out.get 8 rfl) HSc.out (Nat.le_of_eq (by rw [Nat.zero_add]; exact slot0_c.symm)) (splice_all _ _ (by rw [HSc.out]; exact slot0_c)) (slotC_one _) ?_
          intro V4 hB8 hF8
          replace H := hide (H.out.store 8 rfl hF8 hB8)
          clear hB8 hF8
          refine hK.out _ _ (⟨H.out.get 1 rfl, H.out.get 5 rfl⟩) (fun hHeld => ?_)
          clear hK K
          refine rdH 11 rfl (by kernel_rfl) (fun K hK => ?_)
          refine step_storem aggR rfl (.tmp 21) (.tmp 84) rfl g21 0 (QC) _ (QC) rfl rfl _ (H.out.get 9 rfl) HQCL.out (Nat.le_of_eq (by rw [Nat.zero_add]; exact rz_c.symm)) (splice_all _ _ (by rw [HQCL.out]; exact rz_c)) (HQC1.out) ?_
          intro V5 hB8 hF8
          replace H := hide (H.out.store 9 rfl hF8 hB8)
          clear hB8 hF8
          refine hK.out _ _ (⟨H.out.get 1 rfl, H.out.get 5 rfl⟩) (fun hHeld => ?_)
          clear hK K
          refine tkH 12 (v := ?v53) rfl ?hy53 ?rest53
          case hy53 => (intro w hSw; (try go_simp); try with_reducible rfl)
          try simp only [Act.put, PTs]
          refine wpAnyH_done (by kernel_rfl) ?_ _
          clear hHeld
          exact hend.out g20 g21 _ (H.out)
        refine AllReadyH.cons rfl (fun K hK => ?_) AllReadyH.nil
        refine step_alloca rfl _ rfl _ zeroR ?_
        intro g21 V6 hB8 hs8 hF8
        replace H := hide (H.out.box hs8 hF8 hB8)
        clear hB8 hs8 hF8
        refine hK.out _ _ (⟨H.out.get 1 rfl, H.out.get 5 rfl⟩) (fun hHeld => ?_)
        clear hK K
        refine rdH 8 rfl (by kernel_rfl) (fun K hK => ?_)
        refine step_alloca rfl _ rfl _ zeroS ?_
        intro g20 V7 hB8 hs8 hF8
        replace H := hide (H.out.box hs8 hF8 hB8)
        clear hB8 hs8 hF8
        refine hK.out _ _ (⟨H.out.get 1 rfl, H.out.get 5 rfl⟩) (fun hHeld => ?_)
        clear hK K
        refine rdH 10 rfl (by kernel_rfl) (fun K hK => ?_)
        refine step_storem aggS rfl (.tmp 20) (.tmp 83) rfl g20 0 (slotC PS) _ (slotC PS) rfl rfl _ (H.out.get 9 rfl) HSc.out (Nat.le_of_eq (by rw [Nat.zero_add]; exact slot0_c.symm)) (splice_all _ _ (by rw [HSc.out]; exact slot0_c)) (slotC_one _) ?_
        intro V8 hB8 hF8
        replace H := hide (H.out.store 9 rfl hF8 hB8)
        clear hB8 hF8
        refine hK.out _ _ (⟨H.out.get 1 rfl, H.out.get 5 rfl⟩) (fun hHeld => ?_)
        clear hK K
        refine rdH 11 rfl (by kernel_rfl) (fun K hK => ?_)
        refine step_storem aggR rfl (.tmp 21) (.tmp 84) rfl g21 0 (QC) _ (QC) rfl rfl _ (H.out.get 8 rfl) HQCL.out (Nat.le_of_eq (by rw [Nat.zero_add]; exact rz_c.symm)) (splice_all _ _ (by rw [HQCL.out]; exact rz_c)) (HQC1.out) ?_
        intro V9 hB8 hF8
        replace H := hide (H.out.store 8 rfl hF8 hB8)
        clear hB8 hF8
        refine hK.out _ _ (⟨H.out.get 1 rfl, H.out.get 5 rfl⟩) (fun hHeld => ?_)
        clear hK K
        refine tkH 12 (v := ?v54) rfl ?hy54 ?rest54
        case hy54 => (intro w hSw; (try go_simp); try with_reducible rfl)
        try simp only [Act.put, PTs]
        refine wpAnyH_done (by kernel_rfl) ?_ _
        clear hHeld
        exact hend.out g20 g21 _ (H.out.perm (.cons _ (.cons _ (.cons _ (.cons _ (.cons _ (.cons _ (.cons _ (.cons _ (.swap _ _ _))))))))))
      refine AllReadyH.cons rfl (fun K hK => ?_) ?_
      · refine step_alloca rfl _ rfl _ zeroS ?_
        intro g20 V10 hB8 hs8 hF8
        replace H := hide (H.out.box hs8 hF8 hB8)
        clear hB8 hs8 hF8
        refine hK.out _ _ (⟨H.out.get 1 rfl, H.out.get 5 rfl⟩) (fun hHeld => ?_)
        clear hK K
        refine wpAnyH_ready (rs := [3, 9]) (by kernel_rfl) (by simp) ?_
        refine AllReadyH.cons rfl (fun K hK => ?_) ?_
        · go_simp
          refine (HRP.out _ H.out.tb).mono ?_
          rintro e V11 ⟨rfl, hbc⟩
          replace H := hide (H.out.call hbc)
          clear hbc
          refine hK.out _ _ (⟨H.out.get 1 rfl, H.out.get 5 rfl⟩) (fun hHeld => ?_)
          clear hK K
          refine tkH 4 (v := ?v55) rfl ?hy55 ?rest55
          case hy55 => (intro w hSw; (try go_simp); try with_reducible rfl)
          try simp only [Act.put, PTs]
          refine tkH 5 (v := ?v56) rfl ?hy56 ?rest56
          case hy56 => (intro w hSw; (try go_simp); try with_reducible rfl)
          try simp only [Act.put, PTs]
          refine tkH 6 (v := ?v57) rfl ?hy57 ?rest57
          case hy57 => (intro w hSw; (try go_simp); try with_reducible rfl)
          try simp only [Act.put, PTs]
          refine tkH 7 (v := ?v58) rfl ?hy58 ?rest58
          case hy58 => (intro w hSw; (try go_simp); try with_reducible rfl)
          try simp only [Act.put, PTs]
          refine rdH 9 rfl (by kernel_rfl) (fun K hK => ?_)
          refine step_alloca rfl _ rfl _ zeroR ?_
          intro g21 V12 hB8 hs8 hF8
          replace H := hide (H.out.box hs8 hF8 hB8)
          clear hB8 hs8 hF8
          refine hK.out _ _ (⟨H.out.get 1 rfl, H.out.get 5 rfl⟩) (fun hHeld => ?_)
          clear hK K
          refine rdH 10 rfl (by kernel_rfl) (fun K hK => ?_)
          refine step_storem aggS rfl (.tmp 20) (.tmp 83) rfl g20 0 (slotC PS) _ (slotC PS) rfl rfl _ (H.out.get 8 rfl) HSc.out (Nat.le_of_eq (by rw [Nat.zero_add]; exact slot0_c.symm)) (splice_all _ _ (by rw [HSc.out]; exact slot0_c)) (slotC_one _) ?_
          intro V13 hB8 hF8
          replace H := hide (H.out.store 8 rfl hF8 hB8)
          clear hB8 hF8
          refine hK.out _ _ (⟨H.out.get 1 rfl, H.out.get 5 rfl⟩) (fun hHeld => ?_)
          clear hK K
          refine rdH 11 rfl (by kernel_rfl) (fun K hK => ?_)
          refine step_storem aggR rfl (.tmp 21) (.tmp 84) rfl g21 0 (QC) _ (QC) rfl rfl _ (H.out.get 9 rfl) HQCL.out (Nat.le_of_eq (by rw [Nat.zero_add]; exact rz_c.symm)) (splice_all _ _ (by rw [HQCL.out]; exact rz_c)) (HQC1.out) ?_
          intro V14 hB8 hF8
          replace H := hide (H.out.store 9 rfl hF8 hB8)
          clear hB8 hF8
          refine hK.out _ _ (⟨H.out.get 1 rfl, H.out.get 5 rfl⟩) (fun hHeld => ?_)
          clear hK K
          refine tkH 12 (v := ?v59) rfl ?hy59 ?rest59
          case hy59 => (intro w hSw; (try go_simp); try with_reducible rfl)
          try simp only [Act.put, PTs]
          refine wpAnyH_done (by kernel_rfl) ?_ _
          clear hHeld
          exact hend.out g20 g21 _ (H.out)
        refine AllReadyH.cons rfl (fun K hK => ?_) AllReadyH.nil
        refine step_alloca rfl _ rfl _ zeroR ?_
        intro g21 V15 hB8 hs8 hF8
        replace H := hide (H.out.box hs8 hF8 hB8)
        clear hB8 hs8 hF8
        refine hK.out _ _ (⟨H.out.get 1 rfl, H.out.get 5 rfl⟩) (fun hHeld => ?_)
        clear hK K
        refine rdH 3 rfl (by kernel_rfl) (fun K hK => ?_)
        go_simp
        refine (HRP.out _ H.out.tb).mono ?_
        rintro e V16 ⟨rfl, hbc⟩
        replace H := hide (H.out.call hbc)
        clear hbc
        refine hK.out _ _ (⟨H.out.get 1 rfl, H.out.get 5 rfl⟩) (fun hHeld => ?_)
        clear hK K
        refine tkH 4 (v := ?v60) rfl ?hy60 ?rest60
        case hy60 => (intro w hSw; (try go_simp); try with_reducible rfl)
        try simp only [Act.put, PTs]
        refine tkH 5 (v := ?v61) rfl ?hy61 ?rest61
        case hy61 => (intro w hSw; (try go_simp); try with_reducible rfl)
        try simp only [Act.put, PTs]
        refine tkH 6 (v := ?v62) rfl ?hy62 ?rest62
        case hy62 => (intro w hSw; (try go_simp); try with_reducible rfl)
        try simp only [Act.put, PTs]
        refine tkH 7 (v := ?v63) rfl ?hy63 ?rest63
        case hy63 => (intro w hSw; (try go_simp); try with_reducible rfl)
        try simp only [Act.put, PTs]
        refine rdH 10 rfl (by kernel_rfl) (fun K hK => ?_)
        refine step_storem aggS rfl (.tmp 20) (.tmp 83) rfl g20 0 (slotC PS) _ (slotC PS) rfl rfl _ (H.out.get 8 rfl) HSc.out (Nat.le_of_eq (by rw [Nat.zero_add]; exact slot0_c.symm)) (splice_all _ _ (by rw [HSc.out]; exact slot0_c)) (slotC_one _) ?_
        intro V17 hB8 hF8
        replace H := hide (H.out.store 8 rfl hF8 hB8)
        clear hB8 hF8
        refine hK.out _ _ (⟨H.out.get 1 rfl, H.out.get 5 rfl⟩) (fun hHeld => ?_)
        clear hK K
        refine rdH 11 rfl (by kernel_rfl) (fun K hK => ?_)
        refine step_storem aggR rfl (.tmp 21) (.tmp 84) rfl g21 0 (QC) _ (QC) rfl rfl _ (H.out.get 9 rfl) HQCL.out (Nat.le_of_eq (by rw [Nat.zero_add]; exact rz_c.symm)) (splice_all _ _ (by rw [HQCL.out]; exact rz_c)) (HQC1.out) ?_
        intro V18 hB8 hF8
        replace H := hide (H.out.store 9 rfl hF8 hB8)
        clear hB8 hF8
        refine hK.out _ _ (⟨H.out.get 1 rfl, H.out.get 5 rfl⟩) (fun hHeld => ?_)
        clear hK K
        refine tkH 12 (v := ?v64) rfl ?hy64 ?rest64
        case hy64 => (intro w hSw; (try go_simp); try with_reducible rfl)
        try simp only [Act.put, PTs]
        refine wpAnyH_done (by kernel_rfl) ?_ _
        clear hHeld
        exact hend.out g20 g21 _ (H.out)
      refine AllReadyH.cons rfl (fun K hK => ?_) AllReadyH.nil
      refine step_alloca rfl _ rfl _ zeroR ?_
      intro g21 V19 hB8 hs8 hF8
      replace H := hide (H.out.box hs8 hF8 hB8)
      clear hB8 hs8 hF8
      refine hK.out _ _ (⟨H.out.get 1 rfl, H.out.get 5 rfl⟩) (fun hHeld => ?_)
      clear hK K
      refine wpAnyH_ready (rs := [3, 8]) (by kernel_rfl) (by simp) ?_
      refine AllReadyH.cons rfl (fun K hK => ?_) ?_
      · go_simp
        refine (HRP.out _ H.out.tb).mono ?_
        rintro e V20 ⟨rfl, hbc⟩
        replace H := hide (H.out.call hbc)
        clear hbc
        refine hK.out _ _ (⟨H.out.get 1 rfl, H.out.get 5 rfl⟩) (fun hHeld => ?_)
        clear hK K
        refine tkH 4 (v := ?v65) rfl ?hy65 ?rest65
        case hy65 => (intro w hSw; (try go_simp); try with_reducible rfl)
        try simp only [Act.put, PTs]
        refine tkH 5 (v := ?v66) rfl ?hy66 ?rest66
        case hy66 => (intro w hSw; (try go_simp); try with_reducible rfl)
        try simp only [Act.put, PTs]
        refine tkH 6 (v := ?v67) rfl ?hy67 ?rest67
        case hy67 => (intro w hSw; (try go_simp); try with_reducible rfl)
        try simp only [Act.put, PTs]
        refine tkH 7 (v := ?v68) rfl ?hy68 ?rest68
        case hy68 => (intro w hSw; (try go_simp); try with_reducible rfl)
        try simp only [Act.put, PTs]
        refine rdH 8 rfl (by kernel_rfl) (fun K hK => ?_)
        refine step_alloca rfl _ rfl _ zeroS ?_
        intro g20 V21 hB8 hs8 hF8
        replace H := hide (H.out.box hs8 hF8 hB8)
        clear hB8 hs8 hF8
        refine hK.out _ _ (⟨H.out.get 1 rfl, H.out.get 5 rfl⟩) (fun hHeld => ?_)
        clear hK K
        refine rdH 10 rfl (by kernel_rfl) (fun K hK => ?_)
        refine step_storem aggS rfl (.tmp 20) (.tmp 83) rfl g20 0 (slotC PS) _ (slotC PS) rfl rfl _ (H.out.get 9 rfl) HSc.out (Nat.le_of_eq (by rw [Nat.zero_add]; exact slot0_c.symm)) (splice_all _ _ (by rw [HSc.out]; exact slot0_c)) (slotC_one _) ?_
        intro V22 hB8 hF8
        replace H := hide (H.out.store 9 rfl hF8 hB8)
        clear hB8 hF8
        refine hK.out _ _ (⟨H.out.get 1 rfl, H.out.get 5 rfl⟩) (fun hHeld => ?_)
        clear hK K
        refine rdH 11 rfl (by kernel_rfl) (fun K hK => ?_)
        refine step_storem aggR rfl (.tmp 21) (.tmp 84) rfl g21 0 (QC) _ (QC) rfl rfl _ (H.out.get 8 rfl) HQCL.out (Nat.le_of_eq (by rw [Nat.zero_add]; exact rz_c.symm)) (splice_all _ _ (by rw [HQCL.out]; exact rz_c)) (HQC1.out) ?_
        intro V23 hB8 hF8
        replace H := hide (H.out.store 8 rfl hF8 hB8)
        clear hB8 hF8
        refine hK.out _ _ (⟨H.out.get 1 rfl, H.out.get 5 rfl⟩) (fun hHeld => ?_)
        clear hK K
        refine tkH 12 (v := ?v69) rfl ?hy69 ?rest69
        case hy69 => (intro w hSw; (try go_simp); try with_reducible rfl)
        try simp only [Act.put, PTs]
        refine wpAnyH_done (by kernel_rfl) ?_ _
        clear hHeld
        exact hend.out g20 g21 _ (H.out.perm (.cons _ (.cons _ (.cons _ (.cons _ (.cons _ (.cons _ (.cons _ (.cons _ (.swap _ _ _))))))))))
      refine AllReadyH.cons rfl (fun K hK => ?_) AllReadyH.nil
      refine step_alloca rfl _ rfl _ zeroS ?_
      intro g20 V24 hB8 hs8 hF8
      replace H := hide (H.out.box hs8 hF8 hB8)
      clear hB8 hs8 hF8
      refine hK.out _ _ (⟨H.out.get 1 rfl, H.out.get 5 rfl⟩) (fun hHeld => ?_)
      clear hK K
      refine rdH 3 rfl (by kernel_rfl) (fun K hK => ?_)
      go_simp
      refine (HRP.out _ H.out.tb).mono ?_
      rintro e V25 ⟨rfl, hbc⟩
      replace H := hide (H.out.call hbc)
      clear hbc
      refine hK.out _ _ (⟨H.out.get 1 rfl, H.out.get 5 rfl⟩) (fun hHeld => ?_)
      clear hK K
      refine tkH 4 (v := ?v70) rfl ?hy70 ?rest70
      case hy70 => (intro w hSw; (try go_simp); try with_reducible rfl)
      try simp only [Act.put, PTs]
      refine tkH 5 (v := ?v71) rfl ?hy71 ?rest71
      case hy71 => (intro w hSw; (try go_simp); try with_reducible rfl)
      try simp only [Act.put, PTs]
      refine tkH 6 (v := ?v72) rfl ?hy72 ?rest72
      case hy72 => (intro w hSw; (try go_simp); try with_reducible rfl)
      try simp only [Act.put, PTs]
      refine tkH 7 (v := ?v73) rfl ?hy73 ?rest73
      case hy73 => (intro w hSw; (try go_simp); try with_reducible rfl)
      try simp only [Act.put, PTs]
      refine rdH 10 rfl (by kernel_rfl) (fun K hK => ?_)
      refine step_storem aggS rfl (.tmp 20) (.tmp 83) rfl g20 0 (slotC PS) _ (slotC PS) rfl rfl _ (H.out.get 9 rfl) HSc.out (Nat.le_of_eq (by rw [Nat.zero_add]; exact slot0_c.symm)) (splice_all _ _ (by rw [HSc.out]; exact slot0_c)) (slotC_one _) ?_
      intro V26 hB8 hF8
      replace H := hide (H.out.store 9 rfl hF8 hB8)
      clear hB8 hF8
      refine hK.out _ _ (⟨H.out.get 1 rfl, H.out.get 5 rfl⟩) (fun hHeld => ?_)
      clear hK K
      refine rdH 11 rfl (by kernel_rfl) (fun K hK => ?_)
      refine step_storem aggR rfl (.tmp 21) (.tmp 84) rfl g21 0 (QC) _ (QC) rfl rfl _ (H.out.get 8 rfl) HQCL.out (Nat.le_of_eq (by rw [Nat.zero_add]; exact rz_c.symm)) (splice_all _ _ (by rw [HQCL.out]; exact rz_c)) (HQC1.out) ?_
      intro V27 hB8 hF8
      replace H := hide (H.out.store 8 rfl hF8 hB8)
      clear hB8 hF8
      refine hK.out _ _ (⟨H.out.get 1 rfl, H.out.get 5 rfl⟩) (fun hHeld => ?_)
      clear hK K
      refine tkH 12 (v := ?v74) rfl ?hy74 ?rest74
      case hy74 => (intro w hSw; (try go_simp); try with_reducible rfl)
      try simp only [Act.put, PTs]
      refine wpAnyH_done (by kernel_rfl) ?_ _
      clear hHeld
      exact hend.out g20 g21 _ (H.out.perm (.cons _ (.cons _ (.cons _ (.cons _ (.cons _ (.cons _ (.cons _ (.cons _ (.swap _ _ _))))))))))
    intro g20 g21 W17 hR2
    replace H := hide hR2
    clear hR2
    go_wp2_with fail
    by_cases hPE : PE = 0
    · have e4 := HQG.out hPE
      subst hPE
      have HEQ : Hid (∀ w, (Op.equalIn 10000 41 (.agg (rpktC PP).toArray) (.agg QC.toArray)).run Tryz.prog w = .ok true w) := by rw [e4]; exact eq_rp PP
      have HOPP := hide (HOQ.out PP HQO.out)
      clear e4 HQZ HQG
      clear HOQ
      obtain ⟨N, hN⟩ : ∃ N, N = W17.heap.size := ⟨_, rfl⟩
      have hq : Below N W17 W17 := hN ▸ Below.refl _ _
      have HA := hide (fun W' (h : Below N W17 W') => H.out.call (hN ▸ h))
      have HC := hide (fun W' (h : Below N W17 W') W'' (k : Below W'.heap.size W' W'') => h.trans (k.mono (by rw [hN]; exact h.size)))
      have hqp : ∀ W', Below N W17 W' → Calls Tryz.prog 8 #[.agg (pktC PP).toArray] W' (fun e w'' => e = .returned (.agg (rpktC PP).toArray) ∧ Below N W17 w'') := fun W' h => (HOPP.out W' (HA.out W' h).tb).mono (fun e w'' ⟨he, hb⟩ => ⟨he, HC.out W' h w'' hb⟩)
      clear hN
      refine wp_region_class (fun W' => Below N W17 W') (by kernel_rfl) (by kernel_rfl) (below_drewN hq 1) ?_
      iterate 4 (with_reducible refine wpQuiet_step ?_; intro K hK; go_simp; first | (refine hK _ ?_; clear hK K) | (refine ⟨_, fun w' hw' => rfl, hK _ ?_⟩; clear hK K))
      with_reducible refine wpQuiet_step ?_
      intro K hK
      refine quiet_val (.agg (slotC PS).toArray) (fun w' hw' => held_loadf aggS _ rfl g17 rfl _ (slotC PS) ((HA.out w' hw').get 6 rfl) HSc.out) ?_ rfl
      go_simp
      refine hK _ ?_
      clear hK K
      with_reducible refine wpQuiet_step ?_
      intro K hK
      refine quiet_val (.agg (slotC PS).toArray) (fun w' hw' => held_loadf aggS _ rfl g20 rfl _ (slotC PS) ((HA.out w' hw').get 8 rfl) HSc.out) ?_ rfl
      go_simp
      refine hK _ ?_
      clear hK K
      with_reducible refine wpQuiet_step ?_
      intro K hK
      refine quiet_val (.bool (!true)) (fun w' hw' => held_neq _ _ _ _ rfl (slotC PS) (slotC PS) rfl rfl (true) (HES.out w') Tryz.eqGuardType51) ?_ rfl
      go_simp
      refine hK _ ?_
      clear hK K
      iterate 5 (with_reducible refine wpQuiet_step ?_; intro K hK; go_simp; first | (refine hK _ ?_; clear hK K) | (refine ⟨_, fun w' hw' => rfl, hK _ ?_⟩; clear hK K))
      with_reducible refine wpQuiet_step ?_
      intro K hK
      refine quiet_val (.agg (pktC PP).toArray) (fun w' hw' => held_loadf aggP _ rfl g18 rfl _ (pktC PP) ((HA.out w' hw').get 7 rfl) HPPc.out) ?_ rfl
      go_simp
      refine hK _ ?_
      clear hK K
      with_reducible refine wpQuiet_step ?_
      intro K hK
      go_simp
      refine ⟨_, hqp, hK _ ?_⟩
      clear hK K
      with_reducible refine wpQuiet_step ?_
      intro K hK
      refine quiet_val (.agg (QC).toArray) (fun w' hw' => held_loadf aggR _ rfl g21 rfl _ (QC) ((HA.out w' hw').get 9 rfl) HQCL.out) ?_ rfl
      go_simp
      refine hK _ ?_
      clear hK K
      with_reducible refine wpQuiet_step ?_
      intro K hK
      refine quiet_val (.bool (!true)) (fun w' hw' => held_neq _ _ _ _ rfl (rpktC PP) (QC) rfl rfl (true) (HEQ.out w') Tryz.eqGuardType41) ?_ rfl
      go_simp
      refine hK _ ?_
      clear hK K
      iterate 11 (with_reducible refine wpQuiet_step ?_; intro K hK; go_simp; first | (refine hK _ ?_; clear hK K) | (refine ⟨_, fun w' hw' => rfl, hK _ ?_⟩; clear hK K))
      refine wpQuiet_nil ?_
      clear hq
      intro wq hwq
      replace H := hide (HA.out wq hwq)
      clear HA HC hwq
      go_wp2_with (first
        | (with_reducible refine at_op (op := ⟨some 113, _, _, _, _, _⟩) ?_; refine wpl_held (op := ⟨some 113, _, _, _, _, _⟩) (.agg (cellsB key).toArray) (held_loadf aggK _ rfl g8 rfl _ (cellsB key) (H.out.get 1 rfl) HKc.out) rfl ?_)
        | (with_reducible refine at_op (op := ⟨some 115, _, _, _, _, _⟩) ?_; refine wpl_held (op := ⟨some 115, _, _, _, _, _⟩) (.int .u32 (p.epoch : Int)) (held_load1 Tryz.underlying28 rfl one32 _ rfl g9 1 rfl _ _ (.int .u32 (p.epoch : Int)) (H.out.get 2 rfl) rfl) rfl ?_)
        | (with_reducible refine at_op (op := ⟨some 117, _, _, _, _, _⟩) ?_; refine wpl_held (op := ⟨some 117, _, _, _, _, _⟩) (.agg (cellsB p.nonce).toArray) (held_loada aggN _ rfl g9 2 rfl _ (pktC p) (cellsB p.nonce) (H.out.get 2 rfl) HPN.out (by rw [HPL.out]; decide)) rfl ?_)
        | (go_at_call 11; with_reducible refine (HTG.out _ H.out.tb).mono ?_; rintro e W20 ⟨rfl, hbc⟩; replace H := hide (H.out.call hbc); clear hbc)
        | (with_reducible refine at_op (op := ⟨some 23, _, _, _, _, _⟩) ?_; (with_reducible refine wpl_alloca (op := ⟨some 23, _, _, _, _, _⟩) rfl _ rfl _ zeroT ?_); intro g23 V23 hB1 hg1 hF1; go_simp; (with_reducible refine wpl_storea aggT rfl (.tmp 23) (.tmp 118) rfl g23 (cellsB tg) rfl rfl _ _ hB1 HTc.out Z16_len (cellsB_one _) ?_); intro W21 hB2 hF2; replace H := hide (H.out.var hg1 hF1 hF2 hB2); clear hB1 hg1 hF1 hB2 hF2)
        | (with_reducible refine at_op (op := ⟨some 119, _, _, _, _, _⟩) ?_; refine wpl_held (op := ⟨some 119, _, _, _, _, _⟩) (.agg (cellsB key).toArray) (held_loadf aggK _ rfl g8 rfl _ (cellsB key) (H.out.get 1 rfl) HKc.out) rfl ?_)
        | (with_reducible refine at_op (op := ⟨some 120, _, _, _, _, _⟩) ?_; refine wpl_held (op := ⟨some 120, _, _, _, _, _⟩) (.agg (pktC p).toArray) (held_loadf aggP _ rfl g9 rfl _ (pktC p) (H.out.get 2 rfl) HPL.out) rfl ?_)
        | (go_at_call 12; with_reducible refine (HMC.out _ H.out.tb).mono ?_; rintro e W22 ⟨rfl, hbc⟩; replace H := hide (H.out.call hbc); clear hbc)
        | (with_reducible refine at_op (op := ⟨some 24, _, _, _, _, _⟩) ?_; (with_reducible refine wpl_alloca (op := ⟨some 24, _, _, _, _, _⟩) rfl _ rfl _ zeroM ?_); intro g24 V24 hB1 hg1 hF1; go_simp; (with_reducible refine wpl_storea aggM rfl (.tmp 24) (.tmp 121) rfl g24 (cellsB mc) rfl rfl _ _ hB1 HMc.out Z16_len (cellsB_one _) ?_); intro W23 hB2 hF2; replace H := hide (H.out.var hg1 hF1 hF2 hB2); clear hB1 hg1 hF1 hB2 hF2))
      obtain ⟨N, hN⟩ : ∃ N, N = W23.heap.size := ⟨_, rfl⟩
      have hq : Below N W23 W23 := hN ▸ Below.refl _ _
      have HA := hide (fun W' (h : Below N W23 W') => H.out.call (hN ▸ h))
      have HC := hide (fun W' (h : Below N W23 W') W'' (k : Below W'.heap.size W' W'') => h.trans (k.mono (by rw [hN]; exact h.size)))
      have hqt : ∀ W', Below N W23 W' → Calls Tryz.prog 13 #[.string ⟨key.toArray⟩, .string ⟨(be 4 p.epoch).toArray⟩, .string ⟨p.nonce.toArray⟩] W' (fun e w'' => e = .returned (.string ⟨tg.toArray⟩) ∧ Below N W23 w'') := fun W' h => (HRT.out W' (HA.out W' h).tb).mono (fun e w'' ⟨he, hb⟩ => ⟨he, HC.out W' h w'' hb⟩)
      have hqm : ∀ W', Below N W23 W' → Calls Tryz.prog 14 #[.string ⟨key.toArray⟩, .agg (rpktC p).toArray] W' (fun e w'' => e = .returned (.string ⟨mc.toArray⟩) ∧ Below N W23 w'') := fun W' h => (HRM.out W' (HA.out W' h).tb).mono (fun e w'' ⟨he, hb⟩ => ⟨he, HC.out W' h w'' hb⟩)
      clear hN
      refine wp_region_class (fun W' => Below N W23 W') (by kernel_rfl) (by kernel_rfl) (below_drewN hq 1) ?_
      iterate 3 (with_reducible refine wpQuiet_step ?_; intro K hK; go_simp; first | (refine hK _ ?_; clear hK K) | (refine ⟨_, fun w' hw' => rfl, hK _ ?_⟩; clear hK K))
      with_reducible refine wpQuiet_step ?_
      intro K hK
      refine quiet_val (.string ⟨(tg).toArray⟩) (fun w' hw' => held_convR _ rfl (some ⟨g23, 0, none⟩) 16 16 rfl tg (((HA.out w' hw').get 10 rfl).rdsn HTl.out)) ?_ rfl
      go_simp
      refine hK _ ?_
      clear hK K
      with_reducible refine wpQuiet_step ?_; intro K hK; go_simp; first | (refine hK _ ?_; clear hK K) | (refine ⟨_, fun w' hw' => rfl, hK _ ?_⟩; clear hK K)
      with_reducible refine wpQuiet_step ?_
      intro K hK
      refine quiet_val (.string ⟨(key).toArray⟩) (fun w' hw' => held_convR _ rfl (some ⟨g8, 0, none⟩) 32 32 rfl key (((HA.out w' hw').get 1 rfl).rdsn HKl.out)) ?_ rfl
      go_simp
      refine hK _ ?_
      clear hK K
      with_reducible refine wpQuiet_step ?_; intro K hK; go_simp; first | (refine hK _ ?_; clear hK K) | (refine ⟨_, fun w' hw' => rfl, hK _ ?_⟩; clear hK K)
      with_reducible refine wpQuiet_step ?_
      intro K hK
      refine quiet_val (.string ⟨(be 4 p.epoch).toArray⟩) (fun w' hw' => held_load1 Tryz.underlying9 rfl oneStr _ rfl g16 1 rfl _ _ (.string ⟨(be 4 p.epoch).toArray⟩) ((HA.out w' hw').get 5 rfl) rfl) ?_ rfl
      go_simp
      refine hK _ ?_
      clear hK K
      with_reducible refine wpQuiet_step ?_; intro K hK; go_simp; first | (refine hK _ ?_; clear hK K) | (refine ⟨_, fun w' hw' => rfl, hK _ ?_⟩; clear hK K)
      with_reducible refine wpQuiet_step ?_
      intro K hK
      refine quiet_val (.string ⟨p.nonce.toArray⟩) (fun w' hw' => held_load1 Tryz.underlying9 rfl oneStr _ rfl g16 2 rfl _ _ (.string ⟨p.nonce.toArray⟩) ((HA.out w' hw').get 5 rfl) rfl) ?_ rfl
      go_simp
      refine hK _ ?_
      clear hK K
      with_reducible refine wpQuiet_step ?_
      intro K hK
      go_simp
      refine ⟨_, hqt, hK _ ?_⟩
      clear hK K
      iterate 4 (with_reducible refine wpQuiet_step ?_; intro K hK; go_simp; first | (refine hK _ ?_; clear hK K) | (refine ⟨_, fun w' hw' => rfl, hK _ ?_⟩; clear hK K))
      with_reducible refine wpQuiet_step ?_
      intro K hK
      refine quiet_val (.string ⟨(mc).toArray⟩) (fun w' hw' => held_convR _ rfl (some ⟨g24, 0, none⟩) 16 16 rfl mc (((HA.out w' hw').get 11 rfl).rdsn HMl.out)) ?_ rfl
      go_simp
      refine hK _ ?_
      clear hK K
      with_reducible refine wpQuiet_step ?_; intro K hK; go_simp; first | (refine hK _ ?_; clear hK K) | (refine ⟨_, fun w' hw' => rfl, hK _ ?_⟩; clear hK K)
      with_reducible refine wpQuiet_step ?_
      intro K hK
      refine quiet_val (.string ⟨(key).toArray⟩) (fun w' hw' => held_convR _ rfl (some ⟨g8, 0, none⟩) 32 32 rfl key (((HA.out w' hw').get 1 rfl).rdsn HKl.out)) ?_ rfl
      go_simp
      refine hK _ ?_
      clear hK K
      with_reducible refine wpQuiet_step ?_
      intro K hK
      refine quiet_val (.agg (rpktC p).toArray) (fun w' hw' => held_loadf aggR _ rfl g16 rfl _ (rpktC p) ((HA.out w' hw').get 5 rfl) (rpktC_len p)) ?_ rfl
      go_simp
      refine hK _ ?_
      clear hK K
      with_reducible refine wpQuiet_step ?_
      intro K hK
      go_simp
      refine ⟨_, hqm, hK _ ?_⟩
      clear hK K
      iterate 3 (with_reducible refine wpQuiet_step ?_; intro K hK; go_simp; first | (refine hK _ ?_; clear hK K) | (refine ⟨_, fun w' hw' => rfl, hK _ ?_⟩; clear hK K))
      refine wpQuiet_nil ?_
      clear hq
      intro wq hwq
      replace H := hide (HA.out wq hwq)
      clear HA HC hwq
      go_wp2_with fail
      go_ret
      exact ⟨rfl, H.out.bel⟩
    · obtain ⟨e5, e6⟩ := HQZ.out hPE
      have hq2 : (PE == 0) = false := beq_eq_false_iff_ne.2 hPE
      have hq3 : (PE != 0) = true := by rw [bne, hq2]; rfl
      have hq4 : decide (PE = 0) = false := decide_eq_false hPE
      have hbq : ∀ W, Sem.run Tryz.prog (Instr.build 34 #[]) W = .ok (.agg (pktC PP).toArray) W := by rw [e5]; exact build_pkt0
      have HEPP : Hid (∀ w, (Op.equalIn 10000 34 (.agg (pktC PP).toArray) (.agg (pktC PP).toArray)).run Tryz.prog w = .ok true w) := fun w => by
        have h := eq_pkt HQO.out HQO.out w
        rwa [show pktEq PP PP = true from pktEq_iff.2 rfl] at h
      clear e5 e6 HQZ HQG
      clear HOQ
      obtain ⟨N, hN⟩ : ∃ N, N = W17.heap.size := ⟨_, rfl⟩
      have hq : Below N W17 W17 := hN ▸ Below.refl _ _
      have HA := hide (fun W' (h : Below N W17 W') => H.out.call (hN ▸ h))
      have HC := hide (fun W' (h : Below N W17 W') W'' (k : Below W'.heap.size W' W'') => h.trans (k.mono (by rw [hN]; exact h.size)))
      clear hN
      refine wp_region_class (fun W' => Below N W17 W') (by kernel_rfl) (by kernel_rfl) (below_drewN hq 1) ?_
      iterate 4 (with_reducible refine wpQuiet_step ?_; intro K hK; go_simp; first | (refine hK _ ?_; clear hK K) | (refine ⟨_, fun w' hw' => rfl, hK _ ?_⟩; clear hK K))
      with_reducible refine wpQuiet_step ?_
      intro K hK
      refine quiet_val (.agg (slotC PS).toArray) (fun w' hw' => held_loadf aggS _ rfl g17 rfl _ (slotC PS) ((HA.out w' hw').get 6 rfl) HSc.out) ?_ rfl
      go_simp
      refine hK _ ?_
      clear hK K
      with_reducible refine wpQuiet_step ?_
      intro K hK
      refine quiet_val (.agg (slotC PS).toArray) (fun w' hw' => held_loadf aggS _ rfl g20 rfl _ (slotC PS) ((HA.out w' hw').get 8 rfl) HSc.out) ?_ rfl
      go_simp
      refine hK _ ?_
      clear hK K
      with_reducible refine wpQuiet_step ?_
      intro K hK
      refine quiet_val (.bool (!true)) (fun w' hw' => held_neq _ _ _ _ rfl (slotC PS) (slotC PS) rfl rfl (true) (HES.out w') Tryz.eqGuardType51) ?_ rfl
      go_simp
      refine hK _ ?_
      clear hK K
      iterate 15 (with_reducible refine wpQuiet_step ?_; intro K hK; go_simp; first | (refine hK _ ?_; clear hK K) | (refine ⟨_, fun w' hw' => rfl, hK _ ?_⟩; clear hK K))
      with_reducible refine wpQuiet_step ?_
      intro K hK
      refine quiet_val (.agg (pktC PP).toArray) (fun w' hw' => held_loadf aggP _ rfl g18 rfl _ (pktC PP) ((HA.out w' hw').get 7 rfl) HPPc.out) ?_ rfl
      go_simp
      refine hK _ ?_
      clear hK K
      with_reducible refine wpQuiet_step ?_
      intro K hK
      refine quiet_val (.agg (pktC PP).toArray) (fun w' hw' => held_build _ _ rfl _ _ (hbq w') rfl) ?_ rfl
      go_simp
      refine hK _ ?_
      clear hK K
      with_reducible refine wpQuiet_step ?_
      intro K hK
      refine quiet_val (.bool (!true)) (fun w' hw' => held_neq _ _ _ _ rfl (pktC PP) (pktC PP) rfl rfl (true) (HEPP.out w') Tryz.eqGuardType34) ?_ rfl
      go_simp
      refine hK _ ?_
      clear hK K
      iterate 2 (with_reducible refine wpQuiet_step ?_; intro K hK; go_simp; first | (refine hK _ ?_; clear hK K) | (refine ⟨_, fun w' hw' => rfl, hK _ ?_⟩; clear hK K))
      refine wpQuiet_nil ?_
      clear hq
      intro wq hwq
      replace H := hide (HA.out wq hwq)
      clear HA HC hwq
      go_wp2_with (first
        | (with_reducible refine at_op (op := ⟨some 113, _, _, _, _, _⟩) ?_; refine wpl_held (op := ⟨some 113, _, _, _, _, _⟩) (.agg (cellsB key).toArray) (held_loadf aggK _ rfl g8 rfl _ (cellsB key) (H.out.get 1 rfl) HKc.out) rfl ?_)
        | (with_reducible refine at_op (op := ⟨some 115, _, _, _, _, _⟩) ?_; refine wpl_held (op := ⟨some 115, _, _, _, _, _⟩) (.int .u32 (p.epoch : Int)) (held_load1 Tryz.underlying28 rfl one32 _ rfl g9 1 rfl _ _ (.int .u32 (p.epoch : Int)) (H.out.get 2 rfl) rfl) rfl ?_)
        | (with_reducible refine at_op (op := ⟨some 117, _, _, _, _, _⟩) ?_; refine wpl_held (op := ⟨some 117, _, _, _, _, _⟩) (.agg (cellsB p.nonce).toArray) (held_loada aggN _ rfl g9 2 rfl _ (pktC p) (cellsB p.nonce) (H.out.get 2 rfl) HPN.out (by rw [HPL.out]; decide)) rfl ?_)
        | (go_at_call 11; with_reducible refine (HTG.out _ H.out.tb).mono ?_; rintro e W20 ⟨rfl, hbc⟩; replace H := hide (H.out.call hbc); clear hbc)
        | (with_reducible refine at_op (op := ⟨some 23, _, _, _, _, _⟩) ?_; (with_reducible refine wpl_alloca (op := ⟨some 23, _, _, _, _, _⟩) rfl _ rfl _ zeroT ?_); intro g23 V23 hB1 hg1 hF1; go_simp; (with_reducible refine wpl_storea aggT rfl (.tmp 23) (.tmp 118) rfl g23 (cellsB tg) rfl rfl _ _ hB1 HTc.out Z16_len (cellsB_one _) ?_); intro W21 hB2 hF2; replace H := hide (H.out.var hg1 hF1 hF2 hB2); clear hB1 hg1 hF1 hB2 hF2)
        | (with_reducible refine at_op (op := ⟨some 119, _, _, _, _, _⟩) ?_; refine wpl_held (op := ⟨some 119, _, _, _, _, _⟩) (.agg (cellsB key).toArray) (held_loadf aggK _ rfl g8 rfl _ (cellsB key) (H.out.get 1 rfl) HKc.out) rfl ?_)
        | (with_reducible refine at_op (op := ⟨some 120, _, _, _, _, _⟩) ?_; refine wpl_held (op := ⟨some 120, _, _, _, _, _⟩) (.agg (pktC p).toArray) (held_loadf aggP _ rfl g9 rfl _ (pktC p) (H.out.get 2 rfl) HPL.out) rfl ?_)
        | (go_at_call 12; with_reducible refine (HMC.out _ H.out.tb).mono ?_; rintro e W22 ⟨rfl, hbc⟩; replace H := hide (H.out.call hbc); clear hbc)
        | (with_reducible refine at_op (op := ⟨some 24, _, _, _, _, _⟩) ?_; (with_reducible refine wpl_alloca (op := ⟨some 24, _, _, _, _, _⟩) rfl _ rfl _ zeroM ?_); intro g24 V24 hB1 hg1 hF1; go_simp; (with_reducible refine wpl_storea aggM rfl (.tmp 24) (.tmp 121) rfl g24 (cellsB mc) rfl rfl _ _ hB1 HMc.out Z16_len (cellsB_one _) ?_); intro W23 hB2 hF2; replace H := hide (H.out.var hg1 hF1 hF2 hB2); clear hB1 hg1 hF1 hB2 hF2))
      obtain ⟨N, hN⟩ : ∃ N, N = W23.heap.size := ⟨_, rfl⟩
      have hq : Below N W23 W23 := hN ▸ Below.refl _ _
      have HA := hide (fun W' (h : Below N W23 W') => H.out.call (hN ▸ h))
      have HC := hide (fun W' (h : Below N W23 W') W'' (k : Below W'.heap.size W' W'') => h.trans (k.mono (by rw [hN]; exact h.size)))
      have hqt : ∀ W', Below N W23 W' → Calls Tryz.prog 13 #[.string ⟨key.toArray⟩, .string ⟨(be 4 p.epoch).toArray⟩, .string ⟨p.nonce.toArray⟩] W' (fun e w'' => e = .returned (.string ⟨tg.toArray⟩) ∧ Below N W23 w'') := fun W' h => (HRT.out W' (HA.out W' h).tb).mono (fun e w'' ⟨he, hb⟩ => ⟨he, HC.out W' h w'' hb⟩)
      have hqm : ∀ W', Below N W23 W' → Calls Tryz.prog 14 #[.string ⟨key.toArray⟩, .agg (rpktC p).toArray] W' (fun e w'' => e = .returned (.string ⟨mc.toArray⟩) ∧ Below N W23 w'') := fun W' h => (HRM.out W' (HA.out W' h).tb).mono (fun e w'' ⟨he, hb⟩ => ⟨he, HC.out W' h w'' hb⟩)
      clear hN
      refine wp_region_class (fun W' => Below N W23 W') (by kernel_rfl) (by kernel_rfl) (below_drewN hq 1) ?_
      iterate 3 (with_reducible refine wpQuiet_step ?_; intro K hK; go_simp; first | (refine hK _ ?_; clear hK K) | (refine ⟨_, fun w' hw' => rfl, hK _ ?_⟩; clear hK K))
      with_reducible refine wpQuiet_step ?_
      intro K hK
      refine quiet_val (.string ⟨(tg).toArray⟩) (fun w' hw' => held_convR _ rfl (some ⟨g23, 0, none⟩) 16 16 rfl tg (((HA.out w' hw').get 10 rfl).rdsn HTl.out)) ?_ rfl
      go_simp
      refine hK _ ?_
      clear hK K
      with_reducible refine wpQuiet_step ?_; intro K hK; go_simp; first | (refine hK _ ?_; clear hK K) | (refine ⟨_, fun w' hw' => rfl, hK _ ?_⟩; clear hK K)
      with_reducible refine wpQuiet_step ?_
      intro K hK
      refine quiet_val (.string ⟨(key).toArray⟩) (fun w' hw' => held_convR _ rfl (some ⟨g8, 0, none⟩) 32 32 rfl key (((HA.out w' hw').get 1 rfl).rdsn HKl.out)) ?_ rfl
      go_simp
      refine hK _ ?_
      clear hK K
      with_reducible refine wpQuiet_step ?_; intro K hK; go_simp; first | (refine hK _ ?_; clear hK K) | (refine ⟨_, fun w' hw' => rfl, hK _ ?_⟩; clear hK K)
      with_reducible refine wpQuiet_step ?_
      intro K hK
      refine quiet_val (.string ⟨(be 4 p.epoch).toArray⟩) (fun w' hw' => held_load1 Tryz.underlying9 rfl oneStr _ rfl g16 1 rfl _ _ (.string ⟨(be 4 p.epoch).toArray⟩) ((HA.out w' hw').get 5 rfl) rfl) ?_ rfl
      go_simp
      refine hK _ ?_
      clear hK K
      with_reducible refine wpQuiet_step ?_; intro K hK; go_simp; first | (refine hK _ ?_; clear hK K) | (refine ⟨_, fun w' hw' => rfl, hK _ ?_⟩; clear hK K)
      with_reducible refine wpQuiet_step ?_
      intro K hK
      refine quiet_val (.string ⟨p.nonce.toArray⟩) (fun w' hw' => held_load1 Tryz.underlying9 rfl oneStr _ rfl g16 2 rfl _ _ (.string ⟨p.nonce.toArray⟩) ((HA.out w' hw').get 5 rfl) rfl) ?_ rfl
      go_simp
      refine hK _ ?_
      clear hK K
      with_reducible refine wpQuiet_step ?_
      intro K hK
      go_simp
      refine ⟨_, hqt, hK _ ?_⟩
      clear hK K
      iterate 4 (with_reducible refine wpQuiet_step ?_; intro K hK; go_simp; first | (refine hK _ ?_; clear hK K) | (refine ⟨_, fun w' hw' => rfl, hK _ ?_⟩; clear hK K))
      with_reducible refine wpQuiet_step ?_
      intro K hK
      refine quiet_val (.string ⟨(mc).toArray⟩) (fun w' hw' => held_convR _ rfl (some ⟨g24, 0, none⟩) 16 16 rfl mc (((HA.out w' hw').get 11 rfl).rdsn HMl.out)) ?_ rfl
      go_simp
      refine hK _ ?_
      clear hK K
      with_reducible refine wpQuiet_step ?_; intro K hK; go_simp; first | (refine hK _ ?_; clear hK K) | (refine ⟨_, fun w' hw' => rfl, hK _ ?_⟩; clear hK K)
      with_reducible refine wpQuiet_step ?_
      intro K hK
      refine quiet_val (.string ⟨(key).toArray⟩) (fun w' hw' => held_convR _ rfl (some ⟨g8, 0, none⟩) 32 32 rfl key (((HA.out w' hw').get 1 rfl).rdsn HKl.out)) ?_ rfl
      go_simp
      refine hK _ ?_
      clear hK K
      with_reducible refine wpQuiet_step ?_
      intro K hK
      refine quiet_val (.agg (rpktC p).toArray) (fun w' hw' => held_loadf aggR _ rfl g16 rfl _ (rpktC p) ((HA.out w' hw').get 5 rfl) (rpktC_len p)) ?_ rfl
      go_simp
      refine hK _ ?_
      clear hK K
      with_reducible refine wpQuiet_step ?_
      intro K hK
      go_simp
      refine ⟨_, hqm, hK _ ?_⟩
      clear hK K
      iterate 3 (with_reducible refine wpQuiet_step ?_; intro K hK; go_simp; first | (refine hK _ ?_; clear hK K) | (refine ⟨_, fun w' hw' => rfl, hK _ ?_⟩; clear hK K))
      refine wpQuiet_nil ?_
      clear hq
      intro wq hwq
      replace H := hide (HA.out wq hwq)
      clear HA HC hwq
      go_wp2_with fail
      go_ret
      exact ⟨rfl, H.out.bel⟩
end Go.Proofs.YtoiiiflnnhkjbaaGreatDoor
