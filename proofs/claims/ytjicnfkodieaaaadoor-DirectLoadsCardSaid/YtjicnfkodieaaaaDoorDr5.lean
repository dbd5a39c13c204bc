/-
  Add.
-/
import Derived.Test.YtjicnfkodieaaaaDoorDr4
namespace Go.Proofs.YtjicnfkodieaaaaDoor
set_option linter.unusedVariables false
set_option linter.unusedSimpArgs false
open Go.RowKit

theorem wpl_put {ops : Array Oper} {rest : List Oper} {op : Oper} {a : Act} {w : World} {Q : Exit → Act → World → Prop} (hgd : op.guard = none) (m k v : Operand) (ho : op.op = .mapUpdate 67 m k v) (b : Nat) (D : List Rec) (r : Rec)
    (hm : a.eval m = .map (some b)) (hk : a.eval k = keyV r) (hv : a.eval v = restV r) (h : MapAt w b D) (hD : ∀ x ∈ D, x.in32) (hr : r.in32) (hn : ∀ x ∈ D, ¬ (x.a = r.a ∧ x.f = r.f)) (D' : List Rec) (hD' : D'.Perm (r :: D))
    (hK : ∀ w', MapAt w' b D' → Frm (fun k => k = b) w w' → wpList Tryd.prog ops Q rest (a.put op.dst undef) w') : wpList Tryd.prog ops Q (op :: rest) a w := by
  refine wpList_plain hgd fun K' hK' => ?_
  obtain ⟨w', hrun, r1, r2⟩ := run_put w b D r h hD hr hn D' hD'
  unfold Oper.wp
  simp [execOp, ho, hm, hk, hv, hrun, Oper.upon, Result.andThen]
  exact hK' _ _ (hK w' r1 r2)

set_option maxHeartbeats 4000000 in
set_option maxRecDepth 100000 in
theorem add_any (g bm : Nat) (D : List Rec) (r : Rec) (w : World) (h : Dir w g bm D) (hr : r.in32) :
    Calls Tryd.prog 15 #[.pointer (some ⟨g, 0, none⟩), recV r] w fun e w' => e = .returned (.int .i64 (whyL D r : Nat)) ∧ Dir w' g bm (addL D r) ∧ Frm (fun k => k = bm) w w' := by
  have hadd := h.ok.add hr
  obtain ⟨W, hW⟩ : ∃ W, W = w.alloc (.cells #[.int .u16 (r.a : Int), .int .u32 (r.f : Int), .int .u32 (r.t : Int), .int .u32 (r.l : Int)] 37) := ⟨_, rfl⟩
  have hFW : Frm (fun _ => False) w W := by rw [hW]; exact Frm.alloc _ _ _
  have hBW : Blk W w.heap.size 37 #[.int .u16 (r.a : Int), .int .u32 (r.f : Int), .int .u32 (r.t : Int), .int .u32 (r.l : Int)] := by rw [hW]; exact Blk.new _ _ _
  have hDW := h.frm0 hFW
  have HWI : Hid (∀ w1, Frm (fun _ => False) W w1 → Calls Tryd.prog 29 #[.pointer (some ⟨g, 0, none⟩), .int .u16 (r.a : Int), .int .u32 (r.f : Int), .int .u32 (r.t : Int)] w1 (RowPost w1 (withinL D r.a r.f r.t))) := fun w1 f => within_any g bm r.a r.f r.t D w1 (hDW.frm0 f)
  have c0 : W.cell? ⟨w.heap.size, 0, none⟩ = some (.int .u16 (r.a : Int)) := hBW.cell 0
  have c1 : W.cell? ⟨w.heap.size, 1, none⟩ = some (.int .u32 (r.f : Int)) := hBW.cell 1
  have c2 : W.cell? ⟨w.heap.size, 2, none⟩ = some (.int .u32 (r.t : Int)) := hBW.cell 2
  have HB := hide hBW
  have HD := hide hDW
  have HF := hide hFW
  have HAD := hide hadd
  have HR := hide hr
  clear hadd hFW hBW hDW h hr
  simp only [recV, recC]
  have HW := hide hW
  clear hW
  have fin : ∀ k, whyL D r = k → k ≠ 0 → ∀ w1, Frm (fun _ => False) W w1 → (Value.int IntKind.i64 (k : Nat) = Value.int IntKind.i64 (whyL D r : Nat)) ∧ Dir w1 g bm (addL D r) ∧ Frm (fun k => k = bm) w w1 := fun k e hk w1 f =>
    ⟨by rw [e], by unfold addL; rw [if_neg (by omega)]; exact HD.out.frm0 f, (frm_false_trans HF.out f).mono (fun _ _ h => h.elim)⟩
  by_cases h1 : 16 ≤ r.a
  · have FIN := hide (fin 1 (by unfold whyL; rw [if_pos (.inl h1)]) (by decide))
    have h1' : (16 : Int) ≤ (r.a : Int) := by omega
    clear fin HWI
    go_enter Tryd.func15, Tryd.ntmps15
    go_wp2_with fail
    rw [← HW.out]
    go_ret
    obtain ⟨f1, f2, f3⟩ := FIN.out W (Frm.refl _ _)
    exact ⟨congrArg Ending.returned f1, f2, f3⟩
  · have h1' : ¬ (16 : Int) ≤ (r.a : Int) := by omega
    by_cases h2 : r.t < r.f
    · have FIN := hide (fin 1 (by unfold whyL; rw [if_pos (.inr h2)]) (by decide))
      have h2' : (r.t : Int) < (r.f : Int) := by omega
      clear fin HWI
      go_enter Tryd.func15, Tryd.ntmps15
      go_wp2_with fail
      rw [← HW.out]
      go_ret
      obtain ⟨f1, f2, f3⟩ := FIN.out W (Frm.refl _ _)
      exact ⟨congrArg Ending.returned f1, f2, f3⟩
    · have h2' : ¬ (r.t : Int) < (r.f : Int) := by omega
      have h12 : ¬ (16 ≤ r.a ∨ r.t < r.f) := by omega
      go_enter Tryd.func15, Tryd.ntmps15
      go_wp2_with fail
      rw [← HW.out]
      refine (HWI.out W (Frm.refl _ _)).mono ?_
      rintro e w2 ⟨A, n, c, rfl, ho, hf⟩
      have hlen := ho.len
      clear HWI ho
      by_cases h3 : 0 < n
      · have FIN := hide (fin 12 (by unfold whyL; rw [if_neg h12, if_pos (by omega)]) (by decide) w2 hf)
        have h3' : (0 : Int) < (n : Int) := by omega
        clear fin hf
        go_wp2_with fail
        go_ret
        obtain ⟨f1, f2, f3⟩ := FIN.out
        exact ⟨congrArg Ending.returned f1, f2, f3⟩
      · obtain rfl : n = 0 := by omega
        have HDL := hide (dlen_any g bm D w2 (HD.out.frm0 hf))
        obtain ⟨m, hm⟩ : ∃ m, m = D.length := ⟨_, rfl⟩
        rw [← hm] at HDL
        go_wp2_with fail
        refine HDL.out.mono ?_
        rintro e w3 ⟨rfl, rfl⟩
        clear HDL
        by_cases h4 : 64 ≤ m
        · have FIN := hide (fin 8 (by unfold whyL; rw [if_neg h12, if_neg (by omega), if_pos (by omega)]) (by decide) w3 hf)
          have h4' : (64 : Int) ≤ (m : Int) := by omega
          clear fin hf hm hlen
          go_wp2_with fail
          go_ret
          obtain ⟨f1, f2, f3⟩ := FIN.out
          exact ⟨congrArg Ending.returned f1, f2, f3⟩
        · have h4' : ¬ (64 : Int) ≤ (m : Int) := by omega
          have e0 : whyL D r = 0 := by unfold whyL; rw [if_neg h12, if_neg (by omega), if_neg (by omega)]
          have e1 : addL D r = insL r D := by unfold addL; rw [if_pos e0]
          have hz := whyL_zero e0
          have HD3 := hide (HD.out.frm0 hf)
          have d0 : w3.drew.cell? ⟨g, 0, none⟩ = some (.map (some bm)) := HD3.out.blk.cell 0
          have HB3 := HB.out.frm hf (fun h => h)
          have d1 : w3.drew.cell? ⟨w.heap.size, 0, none⟩ = some (.int .u16 (r.a : Int)) := HB3.cell 0
          have d2 : w3.drew.cell? ⟨w.heap.size, 1, none⟩ = some (.int .u32 (r.f : Int)) := HB3.cell 1
          have d3 : w3.drew.cell? ⟨w.heap.size, 2, none⟩ = some (.int .u32 (r.t : Int)) := HB3.cell 2
          have d4 : w3.drew.cell? ⟨w.heap.size, 3, none⟩ = some (.int .u32 (r.l : Int)) := HB3.cell 3
          have HF3 := hide (frm_false_trans HF.out hf)
          have HE := hide e0
          have HE1 := hide e1
          have HZ := hide hz
          clear fin hf hm hlen e0 e1 hz HB3 c0 c1 c2
          go_wp2_with fail
          refine wp_region_still_tail 14 (by kernel_rfl) (by kernel_rfl) ?_
          simp only [List.take_succ_cons, List.take_zero, List.drop_succ_cons, List.drop_zero]
          change wpStill _ _ w3.drew (fun a' => wpList _ _ _ _ a' w3.drew) _ _
          iterate 14 still_step
          refine wpStill_nil ?_
          clear d0 d1 d2 d3 d4
          have hmm := HD3.out.map.frm ((Frm.refl (fun _ => False) w3).drew) (fun h => h)
          have hin : ∀ x ∈ D, x.in32 := fun x hx => (HD3.out.ok.ok x hx).in32
          have hab : ∀ x ∈ D, ¬ (x.a = r.a ∧ x.f = r.f) := fun x hx hk => by have h5 := (HD3.out.ok.ok x hx).ft; have h6 := HZ.out.2.2.1 x hx hk.1; have h7 := HZ.out.2.1; omega
          go_wp2_with (refine wpl_put rfl (.tmp 34) (.tmp 39) (.tmp 44) rfl bm D r rfl rfl rfl hmm hin HR.out hab (insL r D) (insL_perm r D) ?_; intro w4 hm4 hf4)
          go_ret
          have f4 : Frm (fun k => k = bm) w3 w4 := ⟨hf4.os, hf4.tape, hf4.output, hf4.size, hf4.block⟩
          have hne : g ≠ bm := fun e => HD3.out.map.ne HD3.out.blk e.symm
          refine ⟨by rw [HE.out]; rfl, ⟨HD3.out.blk.frm f4 hne, by rw [HE1.out]; exact hm4, HAD.out⟩, (HF3.out.mono (T := fun k => k = bm) (fun _ _ h => h.elim)).trans f4 (fun _ _ h => h)⟩
end Go.Proofs.YtjicnfkodieaaaaDoor
