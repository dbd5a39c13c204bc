/-
  Records read from bytes.
-/
import Derived.Test.YtjicnfkodieaaaaDoorDrL
namespace Go.Proofs.YtjicnfkodieaaaaDoor
set_option linter.unusedVariables false
set_option linter.unusedSimpArgs false
open Go.RowKit

theorem rd_norm {w : World} {g : Nat} {d : Option Nat} {l : List UInt8} (h : Rd w g d l) : ∃ d', Rd w g d' l ∧ ∀ j, d' = some j → d = some j ∧ j < w.heap.size := by
  obtain ⟨v, hb, A, c, hv, h1, h2, hh⟩ := h
  rcases hh with ⟨rfl, rfl⟩ | ⟨g', off, cur, hA, hd, hg, hs, ht⟩
  · exact ⟨none, ⟨v, hb, none, 0, hv, h1, h2, .inl ⟨rfl, rfl⟩⟩, fun j hj => by cases hj⟩
  · exact ⟨some g', ⟨v, hb, A, c, hv, h1, h2, .inr ⟨g', off, cur, hA, rfl, hg, hs, ht⟩⟩, fun j hj => by injection hj with hj; subst hj; exact ⟨hd, hg.lt⟩⟩
theorem four_r {k1 k2 k3 k4 : IntKind} {p q r s : Int} : ∀ v ∈ [Value.int k1 p, Value.int k2 q, Value.int k3 r, Value.int k4 s], v.oneCell' = true := by
  intro v hv
  simp at hv
  rcases hv with rfl | rfl | rfl | rfl <;> rfl

set_option maxHeartbeats 2000000 in
set_option maxRecDepth 100000 in
theorem readRec_any (g : Nat) (d : Option Nat) (l : List UInt8) (w : World) (hr : Rd w g d l) (hl : 14 ≤ l.length) (hm : l.length ≤ 100000) (hd : ∀ j, d = some j → j < w.heap.size) :
    Calls Tryd.prog 55 #[.pointer (some ⟨g, 0, none⟩)] w fun e w' => e = .returned (recV (decR l)) ∧ Rd w' g d (l.drop 14) ∧ Frm (fun k => k = g) w w' := by
  have hgl := hr.lt
  obtain ⟨n0, h0⟩ : ∃ n, n = num (l.take 2) := ⟨_, rfl⟩
  obtain ⟨n1, h1⟩ : ∃ n, n = num ((l.drop 2).take 4) := ⟨_, rfl⟩
  obtain ⟨n2, h2⟩ : ∃ n, n = num ((l.drop 6).take 4) := ⟨_, rfl⟩
  obtain ⟨n3, h3⟩ : ∃ n, n = num ((l.drop 10).take 4) := ⟨_, rfl⟩
  have H0 := hide h0
  have H1 := hide h1
  have H2 := hide h2
  have H3 := hide h3
  have HR := hide hr
  clear h0 h1 h2 h3 hr
  go_enter Tryd.func55, Tryd.ntmps55
  go_wp2_with ((with_reducible refine wpl_alloca (op := ⟨some 2, _, _, _, _, _⟩) rfl _ rfl _ zeroR ?_); intro g2 w1 hB1 hs1 hF1)
  refine (u16_ok g d l w1 (HR.out.frm hF1 (fun h => h) (fun _ _ h => h)) (by omega) hm).mono ?_
  rintro e w2 ⟨rfl, hr2, hf2⟩
  rw [← H0.out]
  have hne : ¬ g2 = g := by omega
  have hB2 := hB1.frm hf2 hne
  clear hB1
  go_wp2_with fail
  refine (u32_ok g d (l.drop 2) w2 hr2 (by rw [List.length_drop]; omega) (by rw [List.length_drop]; omega)).mono ?_
  rintro e w3 ⟨rfl, hr3, hf3⟩
  rw [← H1.out]
  rw [List.drop_drop] at hr3
  have hB3 := hB2.frm hf3 hne
  clear hB2 hr2
  go_wp2_with fail
  refine (u32_ok g d (l.drop 6) w3 hr3 (by rw [List.length_drop]; omega) (by rw [List.length_drop]; omega)).mono ?_
  rintro e w4 ⟨rfl, hr4, hf4⟩
  rw [← H2.out]
  rw [List.drop_drop] at hr4
  have hB4 := hB3.frm hf4 hne
  clear hB3 hr3
  go_wp2_with fail
  refine (u32_ok g d (l.drop 10) w4 hr4 (by rw [List.length_drop]; omega) (by rw [List.length_drop]; omega)).mono ?_
  rintro e w5 ⟨rfl, hr5, hf5⟩
  rw [← H3.out]
  rw [List.drop_drop] at hr5
  have hB5 := hB4.frm hf5 hne
  have HR5 := hide hr5
  have HF : Hid (Frm (fun k => k = g) w w5) := ((((hF1.mono (T := fun k => k = g) (fun _ _ h => h.elim)).trans hf2 (fun _ _ h => h)).trans hf3 (fun _ _ h => h)).trans hf4 (fun _ _ h => h)).trans hf5 (fun _ _ h => h)
  clear hB4 hr4 hr5 hf2 hf3 hf4 hf5 hF1
  go_wp2_with ((refine wpl_storea aggR rfl (.tmp 2) (.tmp 35) rfl g2 [.int .u16 (n0 : Int), .int .u32 (n1 : Int), .int .u32 (n2 : Int), .int .u32 (n3 : Int)] rfl rfl _ _ hB5 rfl rfl four_r ?_); intro w6 hB6 hF6)
  refine ret_agg aggR rfl rfl g2 _ _ rfl hB6 rfl ⟨?_, HR5.out.frm hF6 (fun e => hne e.symm) (fun j hj e => ?_), ?_⟩
  · rw [show decR l = ⟨n0, n1, n2, n3⟩ by unfold decR; rw [H0.out, H1.out, H2.out, H3.out]]
    rfl
  · have := hd j hj; omega
  · exact HF.out.trans hF6 (fun i hi h => absurd h (by omega))
end Go.Proofs.YtjicnfkodieaaaaDoor
