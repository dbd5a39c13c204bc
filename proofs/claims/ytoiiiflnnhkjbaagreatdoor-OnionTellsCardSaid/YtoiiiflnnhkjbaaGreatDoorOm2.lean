/-
  The document's Of: a packet as texts.
-/
import Derived.Test.YtoiiiflnnhkjbaaGreatDoorHp
import Derived.Test.YtoiiiflnnhkjbaaGreatDoorOm1
import Derived.Test.YtoiiiflnnhkjbaaGreatDoorOnG
namespace Go.Proofs.YtoiiiflnnhkjbaaGreatDoor
set_option linter.unusedVariables false
set_option linter.unusedSimpArgs false
open Go.RowKit

def rz : List Value := List.replicate 6 (.string ⟨#[]⟩)
theorem aggR : Agg Tryz.prog 41 6 := Agg.of (by kernel_rfl) (by kernel_rfl)
theorem zeroR : (Tryz.prog.info? 41).map (fun i => i.zero) = some (some (.agg rz.toArray)) := by kernel_rfl
theorem rpktC_one (p : Pkt) : ∀ u ∈ rpktC p, u.oneCell' = true := by
  intro u hu
  simp only [rpktC, List.mem_cons, List.not_mem_nil, or_false] at hu
  rcases hu with rfl | rfl | rfl | rfl | rfl | rfl <;> rfl

set_option maxHeartbeats 16000000 in
set_option maxRecDepth 100000 in
theorem rof_any (p : Pkt) (w : World) (hT : Tb w) (hp : p.ok) :
    Calls Tryz.prog 8 #[.agg (pktC p).toArray] w fun e w' => e = .returned (.agg (rpktC p).toArray) ∧ Below w.heap.size w w' := by
  have H := hide (OAt.start hT)
  have hN := slN
  have hM := slM
  have h320 := sl320
  have h256 := sl256
  have HXN := hide (pktC_nonce hp)
  have HXM := hide (pktC_mac hp)
  have HXH := hide (pktC_head hp)
  have HXB := hide (pktC_body hp)
  have HLN := hide hp.nonce
  have HLM := hide hp.mac
  have HLH := hide hp.head
  have HLB := hide hp.body
  have HW := hide hp.who
  have HE := hide hp.epoch
  have HTW := hide (fun (W : World) => text11_any p.who 2 W (by decide) (by have := hp.who; omega))
  have HTE := hide (fun (W : World) => text11_any p.epoch 4 W (by decide) (by have := hp.epoch; omega))
  have hwi : (0 : Int) ≤ (p.who : Int) ∧ (p.who : Int) < 65536 := by have := hp.who; omega
  have hei : (0 : Int) ≤ (p.epoch : Int) ∧ (p.epoch : Int) < 4294967296 := by have := hp.epoch; omega
  have hww : IntKind.u64.wrap (p.who : Int) = (p.who : Int) := by rw [IntKind.wrap_u64] <;> omega
  have hwe : IntKind.u64.wrap (p.epoch : Int) = (p.epoch : Int) := by rw [IntKind.wrap_u64] <;> omega
  have HBD : Hid (∀ w, Sem.run Tryz.prog (Instr.build 41 #[(0, .string ⟨(be 2 p.who).toArray⟩), (1, .string ⟨(be 4 p.epoch).toArray⟩), (2, .string ⟨p.nonce.toArray⟩), (3, .string ⟨p.mac.toArray⟩), (4, .string ⟨p.head.toArray⟩), (5, .string ⟨p.body.toArray⟩)]) w = .ok (.agg (rpktC p).toArray) w) := fun w => run_build w _ _ _ (by kernel_rfl)
  have HRL : Hid ((rpktC p).length = 6) := rfl
  have HRZ : Hid (rz.length = 6) := rfl
  have HRO := hide (rpktC_one p)
  clear hT hp
  go_enter Tryz.func8, Tryz.ntmps8
  go_wp2_with (first
    | (with_reducible refine at_op (op := ⟨some 1, _, _, _, _, _⟩) ?_; (refine wpl_boxa (op := ⟨some 1, _, _, _, _, _⟩) rfl _ _ rfl (pktC p) rfl ?_); intro g1 W1 hB1 hg1 hF1; replace H := hide (H.out.box hg1 hF1 hB1); clear hB1 hg1 hF1)
    | ((with_reducible refine at_op (op := ⟨some 2, _, _, _, _, _⟩) ?_; (with_reducible refine wpl_alloca (op := ⟨some 2, _, _, _, _, _⟩) rfl _ rfl _ zeroR ?_); intro g2 W2 hB1 hg1 hF1; replace H := hide (H.out.box hg1 hF1 hB1); clear hB1 hg1 hF1)))
  refine wp_region_held_drew (S := fun W' => Blk W' g1 34 (pktC p).toArray) (by kernel_rfl) (H.out.drew.get 0 rfl) ?_
  intro hHeld
  obtain ⟨W3, hW3⟩ : ∃ W3, W3 = W2.drew := ⟨_, rfl⟩
  replace H := hide (by rw [hW3]; exact H.out.drew : OAt w _ W3)
  rw [← hW3] at hHeld ⊢
  clear hW3
  refine tkH 0 (v := ?v1) rfl ?hy1 ?rest1
  case hy1 => (intro w hSw; (try go_simp); try with_reducible rfl)
  try simp only [Act.put, PTs]
  refine tkH 1 (v := ?v2) rfl ?hy2 ?rest2
  case hy2 => (intro w hSw; refine held_load1 Tryz.underlying27 rfl one16w (.tmp 3) ?_ g1 0 ?_ _ _ (.int .u16 (p.who : Int)) hSw rfl <;> rfl)
  try simp only [Act.put, PTs]
  refine tkH 2 (v := ?v3) rfl ?hy3 ?rest3
  case hy3 => (intro w hSw; (try go_simp); try with_reducible rfl)
  try simp only [Act.put, PTs]
  refine tkH 4 (v := ?v4) rfl ?hy4 ?rest4
  case hy4 => (intro w hSw; (try go_simp); try with_reducible rfl)
  try simp only [Act.put, PTs]
  refine tkH 5 (v := ?v5) rfl ?hy5 ?rest5
  case hy5 => (intro w hSw; refine held_load1 Tryz.underlying28 rfl one32 (.tmp 7) ?_ g1 1 ?_ _ _ (.int .u32 (p.epoch : Int)) hSw rfl <;> rfl)
  try simp only [Act.put, PTs]
  refine tkH 6 (v := ?v6) rfl ?hy6 ?rest6
  case hy6 => (intro w hSw; (try go_simp); try with_reducible rfl)
  try simp only [Act.put, PTs]
  refine tkH 8 (v := ?v7) rfl ?hy7 ?rest7
  case hy7 => (intro w hSw; (try go_simp); try with_reducible rfl)
  try simp only [Act.put, PTs]
  refine tkH 9 (v := ?v8) rfl ?hy8 ?rest8
  case hy8 => (intro w hSw; (try go_simp); try with_reducible rfl)
  try simp only [Act.put, PTs]
  refine tkH 10 (v := ?v9) rfl ?hy9 ?rest9
  case hy9 => (intro w hSw; refine held_convR (.tmp 12) ?_ (some ⟨g1, 2, none⟩) 16 16 ?_ (p.nonce) ((hSw).mid 2 16 (p.nonce) HXN.out HLN.out) <;> rfl)
  try simp only [Act.put, PTs]
  refine tkH 11 (v := ?v10) rfl ?hy10 ?rest10
  case hy10 => (intro w hSw; (try go_simp); try with_reducible rfl)
  try simp only [Act.put, PTs]
  refine tkH 12 (v := ?v11) rfl ?hy11 ?rest11
  case hy11 => (intro w hSw; (try go_simp); try with_reducible rfl)
  try simp only [Act.put, PTs]
  refine tkH 13 (v := ?v12) rfl ?hy12 ?rest12
  case hy12 => (intro w hSw; refine held_convR (.tmp 15) ?_ (some ⟨g1, 18, none⟩) 16 16 ?_ (p.mac) ((hSw).mid 18 16 (p.mac) HXM.out HLM.out) <;> rfl)
  try simp only [Act.put, PTs]
  refine tkH 14 (v := ?v13) rfl ?hy13 ?rest13
  case hy13 => (intro w hSw; (try go_simp); try with_reducible rfl)
  try simp only [Act.put, PTs]
  refine tkH 15 (v := ?v14) rfl ?hy14 ?rest14
  case hy14 => (intro w hSw; (try go_simp); try with_reducible rfl)
  try simp only [Act.put, PTs]
  refine tkH 16 (v := ?v15) rfl ?hy15 ?rest15
  case hy15 => (intro w hSw; refine held_convR (.tmp 18) ?_ (some ⟨g1, 34, none⟩) 320 320 ?_ (p.head) ((hSw).mid 34 320 (p.head) HXH.out HLH.out) <;> rfl)
  try simp only [Act.put, PTs]
  refine tkH 17 (v := ?v16) rfl ?hy16 ?rest16
  case hy16 => (intro w hSw; (try go_simp); try with_reducible rfl)
  try simp only [Act.put, PTs]
  refine tkH 18 (v := ?v17) rfl ?hy17 ?rest17
  case hy17 => (intro w hSw; (try go_simp); try with_reducible rfl)
  try simp only [Act.put, PTs]
  refine tkH 19 (v := ?v18) rfl ?hy18 ?rest18
  case hy18 => (intro w hSw; refine held_convR (.tmp 21) ?_ (some ⟨g1, 354, none⟩) 256 256 ?_ (p.body) ((hSw).mid 354 256 (p.body) HXB.out HLB.out) <;> rfl)
  try simp only [Act.put, PTs]
  refine rdH 3 rfl (by kernel_rfl) (fun K hK => ?_)
  go_simp
  refine (HTW.out _).mono ?_
  rintro e W5 ⟨rfl, hbc⟩
  replace H := hide (H.out.call hbc)
  clear hbc
  refine hK.out _ _ (H.out.get 0 rfl) (fun hHeld => ?_)
  clear hK K
  refine rdH 7 rfl (by kernel_rfl) (fun K hK => ?_)
  go_simp
  refine (HTE.out _).mono ?_
  rintro e W6 ⟨rfl, hbc⟩
  replace H := hide (H.out.call hbc)
  clear hbc
  refine hK.out _ _ (H.out.get 0 rfl) (fun hHeld => ?_)
  clear hK K
  refine tkH 20 (v := ?v19) rfl ?hy19 ?rest19
  case hy19 => (intro w hSw; refine held_build 41 #[(0, .tmp 6), (1, .tmp 10), (2, .tmp 13), (3, .tmp 16), (4, .tmp 19), (5, .tmp 22)] ?_ _ (rpktC p) (HBD.out _) ?_ <;> rfl)
  try simp only [Act.put, PTs]
  refine rdH 21 rfl (by kernel_rfl) (fun K hK => ?_)
  refine step_storem aggR rfl (.tmp 2) (.tmp 23) rfl g2 0 (rpktC p) _ (rpktC p) rfl rfl _ (H.out.get 1 rfl) HRL.out (Nat.le_of_eq (by rw [Nat.zero_add]; exact HRZ.out.symm)) (splice_all _ _ (by rw [HRL.out]; exact HRZ.out)) HRO.out ?_
  intro W9 hB10 hF10
  replace H := hide (H.out.store 1 rfl hF10 hB10)
  clear hB10 hF10
  refine hK.out _ _ (H.out.get 0 rfl) (fun hHeld => ?_)
  clear hK K
  refine wpAnyH_done (by kernel_rfl) ?_ _
  clear hHeld
  go_wp2_with fail
  exact ret_agg aggR rfl rfl g2 _ _ rfl (H.out.get 1 rfl) HRL.out ⟨rfl, H.out.bel⟩
end Go.Proofs.YtoiiiflnnhkjbaaGreatDoor
