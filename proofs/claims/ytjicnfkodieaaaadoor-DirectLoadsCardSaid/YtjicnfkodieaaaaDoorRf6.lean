/-
  The law's same: two rows of records side by side.
-/
import Derived.Test.YtjicnfkodieaaaaDoorRf1
import Derived.Test.YtjicnfkodieaaaaDoorDsT
import Derived.OrdersHeld
namespace Go.Proofs.YtjicnfkodieaaaaDoor
set_option linter.unusedVariables false
set_option linter.unusedSimpArgs false
open Go.RowKit

set_option maxHeartbeats 4000000 in
set_option maxRecDepth 100000 in
theorem same_any (A A' : Option Addr) (n n' c c' B B' : Nat) (V : List Rec) (w : World) (ha : ROwn w B A n c V) (hb : QOwn w B' A' n' c' V) (hV : V.length ≤ 64) :
    Calls Tryd.prog 21 #[.slice A n c, .slice A' n' c'] w fun e w' => e = .returned (.bool true) ∧ Frm (fun _ => False) w w' := by
  obtain rfl : n' = n := by have := ha.len; have := hb.len; omega
  have hn64 : n' ≤ 64 := by have := ha.len; omega
  have HA := hide ha
  have HB := hide hb
  clear ha hb hV
  go_enter Tryd.func21, Tryd.ntmps21
  go_wp2_with fail
  go_loopw [5] (fun i wr => ∃ k : Nat, k ≤ n' ∧ i = .int .i64 k ∧ Frm (fun _ => False) w wr) (fun i _ => n' - (intOf i).toNat)
  case atStart => exact ⟨0, by omega, rfl, Frm.refl _ _⟩
  case round =>
    obtain ⟨k, hk, rfl, hf⟩ := hrel
    have HF := hide hf
    clear hf
    by_cases hlt : k < n'
    · have hlt' : (k : Int) < (n' : Int) := by omega
      obtain ⟨gr, rfl, _, hgr, hcr⟩ := HA.out.cells (by omega)
      obtain ⟨gq, rfl, _, hgq, hcq⟩ := HB.out.cells (by omega)
      obtain ⟨x, hx⟩ : ∃ x, x = V.getD k default := ⟨_, rfl⟩
      have hcr2 := fun q hq => hcr k q hlt hq
      have hcq2 := fun q hq => hcq k q hlt hq
      rw [← hx] at hcr2 hcq2
      clear hx hcr hcq
      obtain ⟨xa, xf, xt, xl⟩ := x
      have HS : Hid (∀ W, Frm (fun _ => False) w W → ((W.cell? ⟨gr, k * 4, none⟩ = some (.int .u16 (xa : Int)) ∧ W.cell? ⟨gr, k * 4 + 1, none⟩ = some (.int .u32 (xf : Int)) ∧ W.cell? ⟨gr, k * 4 + 2, none⟩ = some (.int .u32 (xt : Int)) ∧ W.cell? ⟨gr, k * 4 + 3, none⟩ = some (.int .u32 (xl : Int))) ∧ (W.cell? ⟨gq, k * 4, none⟩ = some (.int .u16 (xa : Int)) ∧ W.cell? ⟨gq, k * 4 + 1, none⟩ = some (.int .u32 (xf : Int)) ∧ W.cell? ⟨gq, k * 4 + 2, none⟩ = some (.int .u32 (xt : Int)) ∧ W.cell? ⟨gq, k * 4 + 3, none⟩ = some (.int .u32 (xl : Int))))) := fun W f =>
        ⟨⟨cell_frm f (hcr2 0 (by decide)) (fun h => h), cell_frm f (hcr2 1 (by decide)) (fun h => h), cell_frm f (hcr2 2 (by decide)) (fun h => h), cell_frm f (hcr2 3 (by decide)) (fun h => h)⟩,
          cell_frm f (hcq2 0 (by decide)) (fun h => h), cell_frm f (hcq2 1 (by decide)) (fun h => h), cell_frm f (hcq2 2 (by decide)) (fun h => h), cell_frm f (hcq2 3 (by decide)) (fun h => h)⟩
      have hof := of_any ⟨xa, xf, xt, xl⟩
      simp only [recV, recC] at hof
      have HOF := hide hof
      clear hof hcr2 hcq2
      go_wp2_with fail
      refine wp_region_held_drew (S := fun W => (W.cell? ⟨gr, k * 4, none⟩ = some (.int .u16 (xa : Int)) ∧ W.cell? ⟨gr, k * 4 + 1, none⟩ = some (.int .u32 (xf : Int)) ∧ W.cell? ⟨gr, k * 4 + 2, none⟩ = some (.int .u32 (xt : Int)) ∧ W.cell? ⟨gr, k * 4 + 3, none⟩ = some (.int .u32 (xl : Int))) ∧ (W.cell? ⟨gq, k * 4, none⟩ = some (.int .u16 (xa : Int)) ∧ W.cell? ⟨gq, k * 4 + 1, none⟩ = some (.int .u32 (xf : Int)) ∧ W.cell? ⟨gq, k * 4 + 2, none⟩ = some (.int .u32 (xt : Int)) ∧ W.cell? ⟨gq, k * 4 + 3, none⟩ = some (.int .u32 (xl : Int)))) (by kernel_rfl) (HS.out _ HF.out.drew) ?_
      intro hHeld
      obtain ⟨W0, hW0⟩ : ∃ W', W' = wr.drew := ⟨_, rfl⟩
      have hF : Frm (fun _ => False) w W0 := by rw [hW0]; exact HF.out.drew
      rw [← hW0] at hHeld ⊢
      clear hW0
      refine wpAnyH_take (i := 0) (v := ?v1) rfl (by kernel_rfl) (by kernel_rfl) (by kernel_rfl) (fun _ _ _ h => h) (Or.inl ⟨by rfl, ?hy1⟩) (by assumption) ?rest1
      case hy1 => (intro w hSw; (try dsimp only at hSw); go_simp; try with_reducible rfl)
      try simp only [Act.put, List.getElem_toArray, List.getElem_cons_zero, List.setIfInBounds_toArray, List.set_cons_zero, List.set_cons_succ]
      refine wpAnyH_take (i := 1) (v := ?v2) rfl (by kernel_rfl) (by kernel_rfl) (by kernel_rfl) (fun _ _ _ h => h) (Or.inl ⟨by rfl, ?hy2⟩) (by assumption) ?rest2
      case hy2 => (intro w hSw; (try dsimp only at hSw); go_simp; try with_reducible rfl)
      try simp only [Act.put, List.getElem_toArray, List.getElem_cons_zero, List.getElem_cons_succ, List.setIfInBounds_toArray, List.set_cons_zero, List.set_cons_succ]
      refine wpAnyH_take (i := 2) (v := ?v3) rfl (by kernel_rfl) (by kernel_rfl) (by kernel_rfl) (fun _ _ _ h => h) (Or.inl ⟨by rfl, ?hy3⟩) (by assumption) ?rest3
      case hy3 => (intro w hSw; (try dsimp only at hSw); go_simp; try with_reducible rfl)
      try simp only [Act.put, List.getElem_toArray, List.getElem_cons_zero, List.getElem_cons_succ, List.setIfInBounds_toArray, List.set_cons_zero, List.set_cons_succ]
      refine wpAnyH_take (i := 3) (v := ?v4) rfl (by kernel_rfl) (by kernel_rfl) (by kernel_rfl) (fun _ _ _ h => h) (Or.inl ⟨by rfl, ?hy4⟩) (by assumption) ?rest4
      case hy4 => (intro w hSw; (try dsimp only at hSw); go_simp; try with_reducible rfl)
      try simp only [Act.put, List.getElem_toArray, List.getElem_cons_zero, List.getElem_cons_succ, List.setIfInBounds_toArray, List.set_cons_zero, List.set_cons_succ]
      refine wpAnyH_take (i := 5) (v := ?v5) rfl (by kernel_rfl) (by kernel_rfl) (by kernel_rfl) (fun _ _ _ h => h) (Or.inl ⟨by rfl, ?hy5⟩) (by assumption) ?rest5
      case hy5 => (intro w hSw; (try dsimp only at hSw); go_simp; try with_reducible rfl)
      try simp only [Act.put, List.getElem_toArray, List.getElem_cons_zero, List.getElem_cons_succ, List.setIfInBounds_toArray, List.set_cons_zero, List.set_cons_succ]
      refine wpAnyH_take (i := 6) (v := ?v6) rfl (by kernel_rfl) (by kernel_rfl) (by kernel_rfl) (fun _ _ _ h => h) (Or.inl ⟨by rfl, ?hy6⟩) (by assumption) ?rest6
      case hy6 => (intro w hSw; (try dsimp only at hSw); go_simp; try with_reducible rfl)
      try simp only [Act.put, List.getElem_toArray, List.getElem_cons_zero, List.getElem_cons_succ, List.setIfInBounds_toArray, List.set_cons_zero, List.set_cons_succ]
      refine wpAnyH_take (i := 7) (v := ?v7) rfl (by kernel_rfl) (by kernel_rfl) (by kernel_rfl) (fun _ _ _ h => h) (Or.inl ⟨by rfl, ?hy7⟩) (by assumption) ?rest7
      case hy7 => (intro w hSw; (try dsimp only at hSw); go_simp; try with_reducible rfl)
      try simp only [Act.put, List.getElem_toArray, List.getElem_cons_zero, List.getElem_cons_succ, List.setIfInBounds_toArray, List.set_cons_zero, List.set_cons_succ]
      refine wpAnyH_take (i := 8) (v := ?v8) rfl (by kernel_rfl) (by kernel_rfl) (by kernel_rfl) (fun _ _ _ h => h) (Or.inl ⟨by rfl, ?hy8⟩) (by assumption) ?rest8
      case hy8 => (intro w hSw; (try dsimp only at hSw); go_simp; try with_reducible rfl)
      try simp only [Act.put, List.getElem_toArray, List.getElem_cons_zero, List.getElem_cons_succ, List.setIfInBounds_toArray, List.set_cons_zero, List.set_cons_succ]
      refine wpAnyH_ready (rs := [4]) (by kernel_rfl) (by simp) ?_
      refine AllReadyH.cons rfl (fun K hK => ?_) AllReadyH.nil
      go_simp
      refine (HOF.out _).mono ?_
      rintro e_ Wn ⟨rfl, f⟩
      have hF := frm_false_trans hF f
      clear f
      refine hK.out _ _ (HS.out _ hF) (fun hHeld => ?_)
      clear hK K
      refine wpAnyH_take (i := 9) (v := ?v9) rfl (by kernel_rfl) (by kernel_rfl) (by kernel_rfl) (fun _ _ _ h => h) (Or.inl ⟨by rfl, ?hy9⟩) (by assumption) ?rest9
      case hy9 => (intro w hSw; (try dsimp only at hSw); go_simp; try with_reducible rfl)
      try simp only [Act.put, List.getElem_toArray, List.getElem_cons_zero, List.getElem_cons_succ, List.setIfInBounds_toArray, List.set_cons_zero, List.set_cons_succ]
      refine wpAnyH_done (by kernel_rfl) ?_ _
      have HFE := hide hF
      clear hF hHeld
      go_wp2_with fail
      go_roundw
      case rel => exact ⟨k + 1, by omega, by go_num, HFE.out⟩
      case measure => simp [intOf]; omega
    · obtain rfl : k = n' := by omega
      have hlt' : ¬ (k : Int) < (k : Int) := by omega
      go_wp2_with fail
      go_ret
      exact ⟨rfl, HF.out⟩
end Go.Proofs.YtjicnfkodieaaaaDoor
