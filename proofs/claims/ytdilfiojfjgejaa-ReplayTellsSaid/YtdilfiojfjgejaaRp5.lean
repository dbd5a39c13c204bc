/-
  shown: what must be in any case.
-/
import Derived.Test.YtdilfiojfjgejaaRp4
namespace Go.Proofs.Ytdilfiojfjgejaa
set_option linter.unusedVariables false
set_option linter.unusedSimpArgs false
open Go.RowKit

def tg2 (a b : UInt8) : Tg := ⟨[a, b, 0, 0, 0, 0, 0, 0, 0, 0, 0, 0, 0, 0, 0, 0], rfl⟩
theorem zeroX : (Try.prog.info? 30).map (fun i => i.zero) = some (some (.agg (tgC tg0).toArray)) := by kernel_rfl
theorem tgC_size (x : Tg) : (tgC x).toArray.size = 16 := by rw [List.size_toArray, tgC_length]
theorem build_tag2 (a b : UInt8) (w : World) : Sem.run Try.prog (Instr.build 30 #[(0, .int .u8 (a.toNat : Int)), (1, .int .u8 (b.toNat : Int))]) w = .ok (.agg (tgC (tg2 a b)).toArray) w := run_build w _ _ _ (by kernel_rfl)
theorem build_tag1 (n : UInt8) (w : World) : Sem.run Try.prog (Instr.build 30 #[(0, .int .u8 (n.toNat : Int))]) w = .ok (.agg (tgC (tg2 n 0)).toArray) w := run_build w _ _ _ (by kernel_rfl)

set_option maxHeartbeats 16000000 in
set_option maxRecDepth 100000 in
theorem shown_any (w : World) : Calls Try.prog 8 #[] w fun r w' => r = .returned (.bool true) ∧ Frm (fun _ => False) w w' := by
  go_enter Try.func8, Try.ntmps8
  go_wp2_with (first
    | (go_at_call 9; refine (new_any 2 (by decide) w).mono ?_; rintro r w1 ⟨g, bs, bc, rfl, h1, f1⟩; have HB0 := hide h1.base; have HL0 := hide h1.lt; have H1 := hide h1; have F1 := hide f1; clear h1 f1)
    | (with_reducible refine wpl_held (op := ⟨some 13, _, _, _, _, _⟩) (.agg (tgC (tg2 1 0)).toArray) (held_build _ _ rfl [(0, .int .u8 1)] _ (build_tag1 1 _) rfl) rfl ?_)
    | ((with_reducible refine wpl_alloca (op := ⟨some 2, _, _, _, _, _⟩) rfl _ rfl _ zeroX ?_); intro gx w2 hx hgx f2; have HGX : Hid (¬ Of g bs bc gx) := (by show ¬ _; have := HL0.out; unfold Of; omega); have HGB : Hid (w.heap.size ≤ gx) := (by show _ ≤ _; have := F1.out.size; omega); have HX2 := hide hx; have H2 := hide (H1.out.frm0 f2); have F2 := hide (frm_ft F1.out f2); clear H1 F1 hx hgx f2)
    | ((with_reducible refine wpl_storea aggX (op := ⟨none, _, _, _, _, _⟩) rfl (.tmp 2) (.tmp 13) rfl gx (tgC (tg2 1 0)) rfl rfl _ _ HX2.out (tgC_length _) (tgC_size _) (tgC_one _) ?_); intro w3 hx f3; have HOF : Hid (∀ i, ¬ Of g bs bc i → ¬ Of g bs bc i) := (fun _ h => h); have HOB : Hid (∀ i, Of g bs bc i → w.heap.size ≤ i) := (by intro i h; have := HB0.out; unfold Of at h; omega); have HX3 := hide hx; have H3 := hide (H2.out.frm f3 (fun e => HGX.out (by unfold Of; omega)) (fun e => HGX.out (by unfold Of; omega)) (fun e => HGX.out (by unfold Of; omega))); have F3 := hide (frm_fs w F2.out f3 (fun i e => by rw [e]; exact HGB.out)); clear H2 F2 HX2 hx f3)
    | (with_reducible refine wpl_held (op := ⟨some 24, _, _, _, _, _⟩) (.agg (tgC (tg2 2 0)).toArray) (held_build _ _ rfl [(0, .int .u8 2)] _ (build_tag1 2 _) rfl) rfl ?_)
    | (with_reducible refine wpl_held (op := ⟨some 27, _, _, _, _, _⟩) (.agg (tgC (tg2 3 0)).toArray) (held_build _ _ rfl [(0, .int .u8 3)] _ (build_tag1 3 _) rfl) rfl ?_)
    | (with_reducible refine wpl_held (op := ⟨some 32, _, _, _, _, _⟩) (.agg (tgC (tg2 4 0)).toArray) (held_build _ _ rfl [(0, .int .u8 4)] _ (build_tag1 4 _) rfl) rfl ?_)
    | (with_reducible refine wpl_loada aggX (op := ⟨some 15, _, _, _, _, _⟩) rfl (.tmp 2) rfl gx 0 rfl _ _ (tgC (tg2 1 0)) HX3.out (tag_whole _) (tag_room _) ?_)
    | (go_at_call 11; refine (add_any w.heap.size g bs bc ⟨2, 0, []⟩ 1 (tg2 1 0) (by decide) w3 H3.out).mono ?_; rintro r w4 ⟨rfl, h4, f4⟩; rw [show T.why ⟨2, 0, []⟩ 1 (tg2 1 0) = 0 from by decide]; rw [show T.add ⟨2, 0, []⟩ 1 (tg2 1 0) = ⟨2, 0, [⟨1, tg2 1 0⟩]⟩ from by rfl] at h4; have HX4 := hide (HX3.out.frm f4 (HOF.out gx (fun e => HGX.out e))); have H4 := hide h4; have F4 := hide (frm_fs w F3.out f4 HOB.out); clear H3 HX3 F3 h4 f4)
    | (with_reducible refine wpl_loada aggX (op := ⟨some 18, _, _, _, _, _⟩) rfl (.tmp 2) rfl gx 0 rfl _ _ (tgC (tg2 1 0)) HX4.out (tag_whole _) (tag_room _) ?_)
    | (go_at_call 11; refine (add_any w.heap.size g bs bc ⟨2, 0, [⟨1, tg2 1 0⟩]⟩ 1 (tg2 1 0) (by decide) w4 H4.out).mono ?_; rintro r w5 ⟨rfl, h5, f5⟩; rw [show T.why ⟨2, 0, [⟨1, tg2 1 0⟩]⟩ 1 (tg2 1 0) = 7 from by decide]; rw [show T.add ⟨2, 0, [⟨1, tg2 1 0⟩]⟩ 1 (tg2 1 0) = ⟨2, 0, [⟨1, tg2 1 0⟩]⟩ from by rfl] at h5; have HX5 := hide (HX4.out.frm f5 (HOF.out gx (fun e => HGX.out e))); have H5 := hide h5; have F5 := hide (frm_fs w F4.out f5 HOB.out); clear H4 HX4 F4 h5 f5)
    | (with_reducible refine wpl_loada aggX (op := ⟨some 21, _, _, _, _, _⟩) rfl (.tmp 2) rfl gx 0 rfl _ _ (tgC (tg2 1 0)) HX5.out (tag_whole _) (tag_room _) ?_)
    | (go_at_call 11; refine (add_any w.heap.size g bs bc ⟨2, 0, [⟨1, tg2 1 0⟩]⟩ 2 (tg2 1 0) (by decide) w5 H5.out).mono ?_; rintro r w6 ⟨rfl, h6, f6⟩; rw [show T.why ⟨2, 0, [⟨1, tg2 1 0⟩]⟩ 2 (tg2 1 0) = 0 from by decide]; rw [show T.add ⟨2, 0, [⟨1, tg2 1 0⟩]⟩ 2 (tg2 1 0) = ⟨2, 0, [⟨1, tg2 1 0⟩, ⟨2, tg2 1 0⟩]⟩ from by rfl] at h6; have HX6 := hide (HX5.out.frm f6 (HOF.out gx (fun e => HGX.out e))); have H6 := hide h6; have F6 := hide (frm_fs w F5.out f6 HOB.out); clear H5 HX5 F5 h6 f6)
    | (go_at_call 11; refine (add_any w.heap.size g bs bc ⟨2, 0, [⟨1, tg2 1 0⟩, ⟨2, tg2 1 0⟩]⟩ 1 (tg2 2 0) (by decide) w6 H6.out).mono ?_; rintro r w7 ⟨rfl, h7, f7⟩; rw [show T.why ⟨2, 0, [⟨1, tg2 1 0⟩, ⟨2, tg2 1 0⟩]⟩ 1 (tg2 2 0) = 0 from by decide]; rw [show T.add ⟨2, 0, [⟨1, tg2 1 0⟩, ⟨2, tg2 1 0⟩]⟩ 1 (tg2 2 0) = ⟨2, 0, [⟨1, tg2 1 0⟩, ⟨2, tg2 1 0⟩, ⟨1, tg2 2 0⟩]⟩ from by rfl] at h7; have HX7 := hide (HX6.out.frm f7 (HOF.out gx (fun e => HGX.out e))); have H7 := hide h7; have F7 := hide (frm_fs w F6.out f7 HOB.out); clear H6 HX6 F6 h7 f7)
    | (go_at_call 11; refine (add_any w.heap.size g bs bc ⟨2, 0, [⟨1, tg2 1 0⟩, ⟨2, tg2 1 0⟩, ⟨1, tg2 2 0⟩]⟩ 1 (tg2 3 0) (by decide) w7 H7.out).mono ?_; rintro r w8 ⟨rfl, h8, f8⟩; rw [show T.why ⟨2, 0, [⟨1, tg2 1 0⟩, ⟨2, tg2 1 0⟩, ⟨1, tg2 2 0⟩]⟩ 1 (tg2 3 0) = 8 from by decide]; rw [show T.add ⟨2, 0, [⟨1, tg2 1 0⟩, ⟨2, tg2 1 0⟩, ⟨1, tg2 2 0⟩]⟩ 1 (tg2 3 0) = ⟨2, 0, [⟨1, tg2 1 0⟩, ⟨2, tg2 1 0⟩, ⟨1, tg2 2 0⟩]⟩ from by rfl] at h8; have HX8 := hide (HX7.out.frm f8 (HOF.out gx (fun e => HGX.out e))); have H8 := hide h8; have F8 := hide (frm_fs w F7.out f8 HOB.out); clear H7 HX7 F7 h8 f8)
    | (go_at_call 13; refine (exp_any w.heap.size g bs bc ⟨2, 0, [⟨1, tg2 1 0⟩, ⟨2, tg2 1 0⟩, ⟨1, tg2 2 0⟩]⟩ 2 (by decide) (by decide) w8 H8.out).mono ?_; rintro r w9 ⟨rfl, h9, f9⟩; rw [show T.gone ⟨2, 0, [⟨1, tg2 1 0⟩, ⟨2, tg2 1 0⟩, ⟨1, tg2 2 0⟩]⟩ 2 = 2 from by decide]; rw [show T.exp ⟨2, 0, [⟨1, tg2 1 0⟩, ⟨2, tg2 1 0⟩, ⟨1, tg2 2 0⟩]⟩ 2 = ⟨2, 2, [⟨2, tg2 1 0⟩]⟩ from by rfl] at h9; have HX9 := hide (HX8.out.frm f9 (HOF.out gx (fun e => HGX.out e))); have H9 := hide h9; have F9 := hide (frm_fs w F8.out f9 HOB.out); clear H8 HX8 F8 h9 f9)
    | (go_at_call 11; refine (add_any w.heap.size g bs bc ⟨2, 2, [⟨2, tg2 1 0⟩]⟩ 1 (tg2 4 0) (by decide) w9 H9.out).mono ?_; rintro r w10 ⟨rfl, h10, f10⟩; rw [show T.why ⟨2, 2, [⟨2, tg2 1 0⟩]⟩ 1 (tg2 4 0) = 11 from by decide]; rw [show T.add ⟨2, 2, [⟨2, tg2 1 0⟩]⟩ 1 (tg2 4 0) = ⟨2, 2, [⟨2, tg2 1 0⟩]⟩ from by rfl] at h10; have HX10 := hide (HX9.out.frm f10 (HOF.out gx (fun e => HGX.out e))); have H10 := hide h10; have F10 := hide (frm_fs w F9.out f10 HOB.out); clear H9 HX9 F9 h10 f10)
    | (go_at_call 17; refine (len_any w.heap.size g bs bc ⟨2, 2, [⟨2, tg2 1 0⟩]⟩ 2 (by decide) w10 H10.out).mono ?_; rintro r w' ⟨rfl, hw⟩; rw [hw]; clear hw; rw [show T.len ⟨2, 2, [⟨2, tg2 1 0⟩]⟩ 2 = 1 from by decide])
    | (with_reducible refine wpl_held (op := ⟨some 67, _, _, _, _, _⟩) (.agg (tgC (tg2 1 0)).toArray) (held_loada aggX (.tmp 2) rfl gx 0 rfl _ _ (tgC (tg2 1 0)) HX10.out (tag_whole _) (tag_room _)) rfl ?_)
    | (go_at_call 15; refine (has_any w.heap.size g bs bc ⟨2, 2, [⟨2, tg2 1 0⟩]⟩ 2 (tg2 1 0) (by decide) w10 H10.out).mono ?_; rintro r w11 ⟨rfl, f11⟩; rw [show T.has ⟨2, 2, [⟨2, tg2 1 0⟩]⟩ 2 (tg2 1 0) = true from by decide]; have H11 := hide (H10.out.frm0 f11); have HX11 := hide (HX10.out.frm f11 (fun h => h)); have F11 := hide (frm_ft F10.out f11); clear H10 HX10 F10 f11)
    | (with_reducible refine wpl_held (op := ⟨some 72, _, _, _, _, _⟩) (.agg (tgC (tg2 1 0)).toArray) (held_loada aggX (.tmp 2) rfl gx 0 rfl _ _ (tgC (tg2 1 0)) HX11.out (tag_whole _) (tag_room _)) rfl ?_)
    | (go_at_call 15; refine (has_any w.heap.size g bs bc ⟨2, 2, [⟨2, tg2 1 0⟩]⟩ 1 (tg2 1 0) (by decide) w11 H11.out).mono ?_; rintro r w12 ⟨rfl, f12⟩; rw [show T.has ⟨2, 2, [⟨2, tg2 1 0⟩]⟩ 1 (tg2 1 0) = false from by decide]; have H12 := hide (H11.out.frm0 f12); have F12 := hide (frm_ft F11.out f12); clear H11 HX11 F11 f12)
    | (go_at_call 19; refine (floor_any w.heap.size g bs bc ⟨2, 2, [⟨2, tg2 1 0⟩]⟩ w12 H12.out).mono ?_; rintro r w' ⟨rfl, hw⟩; rw [hw]; clear hw))
  go_ret
  exact ⟨rfl, F12.out⟩
end Go.Proofs.Ytdilfiojfjgejaa
