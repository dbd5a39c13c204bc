/-
  The tests that 'those' is handed, and 'those' with each of them: the records that are wanted, in order.
-/
import Derived.Test.YtjicnfkodieaaaaDoorDr2
namespace Go.Proofs.YtjicnfkodieaaaaDoor
set_option linter.unusedVariables false
set_option linter.unusedSimpArgs false
open Go.RowKit

theorem frm_false_trans {w w1 w2 : World} (h : Frm (fun _ => False) w w1) (k : Frm (fun _ => False) w1 w2) : Frm (fun _ => False) w w2 := h.trans k (fun _ _ h => h)

set_option maxHeartbeats 1000000 in
theorem test_all (r : Rec) (W : World) : Calls Tryd.prog 34 #[recV r] W fun e w' => e = .returned (.bool true) ∧ Frm (fun _ => False) W w' := by
  obtain ⟨a, f, t, l⟩ := r
  simp only [recV, recC]
  go_enter Tryd.func34, Tryd.ntmps34
  go_wp2
  go_ret
  exact ⟨rfl, Frm.alloc _ _ _⟩

set_option maxHeartbeats 1000000 in
theorem test_valid (r : Rec) (B i : Nat) (W : World) (hc : W.cell? ⟨B, 0, none⟩ = some (.int .u32 (i : Int))) : Calls Tryd.prog 32 #[recV r, .pointer (some ⟨B, 0, none⟩)] W fun e w' => e = .returned (.bool (r.meets i i)) ∧ Frm (fun _ => False) W w' := by
  have hm := fun w => meets_any r i i w
  obtain ⟨b, hbb⟩ : ∃ b, b = r.meets i i := ⟨_, rfl⟩
  rw [← hbb] at hm ⊢
  clear hbb
  obtain ⟨a, f, t, l⟩ := r
  simp only [recV, recC] at hm ⊢
  have hlt := World.block_lt_of_cell? W _ hc
  have hc' : ∀ o, (W.alloc o).cell? ⟨B, 0, none⟩ = some (.int .u32 (i : Int)) := fun o => by rw [← hc]; exact cell_frm (Frm.alloc W o (fun _ => False)) hc (fun h => h) |>.trans hc.symm
  clear hc
  go_enter Tryd.func32, Tryd.ntmps32
  go_wp2_with (go_at_call 33; refine (hm _).mono ?_; rintro e w' ⟨rfl, o, rfl⟩)
  go_ret
  exact ⟨rfl, (Frm.alloc _ _ _).trans (Frm.alloc _ _ _) (fun _ _ h => h)⟩

set_option maxHeartbeats 1000000 in
theorem test_within (r : Rec) (B1 B2 B3 a i j : Nat) (W : World) (hc1 : W.cell? ⟨B1, 0, none⟩ = some (.int .u16 (a : Int))) (hc2 : W.cell? ⟨B2, 0, none⟩ = some (.int .u32 (i : Int))) (hc3 : W.cell? ⟨B3, 0, none⟩ = some (.int .u32 (j : Int))) :
    Calls Tryd.prog 45 #[recV r, .pointer (some ⟨B1, 0, none⟩), .pointer (some ⟨B2, 0, none⟩), .pointer (some ⟨B3, 0, none⟩)] W fun e w' => e = .returned (.bool (decide (r.a = a) && r.meets i j)) ∧ Frm (fun _ => False) W w' := by
  have hm := fun w => meets_any r i j w
  obtain ⟨b, hbb⟩ : ∃ b, b = r.meets i j := ⟨_, rfl⟩
  rw [← hbb] at hm ⊢
  clear hbb
  obtain ⟨a', f, t, l⟩ := r
  simp only [recV, recC] at hm ⊢
  have l1 := World.block_lt_of_cell? W _ hc1
  have l2 := World.block_lt_of_cell? W _ hc2
  have l3 := World.block_lt_of_cell? W _ hc3
  have d1 : ∀ o, (W.alloc o).cell? ⟨B1, 0, none⟩ = some (.int .u16 (a : Int)) := fun o => cell_frm (Frm.alloc W o (fun _ => False)) hc1 (fun h => h)
  have d2 : ∀ o, (W.alloc o).cell? ⟨B2, 0, none⟩ = some (.int .u32 (i : Int)) := fun o => cell_frm (Frm.alloc W o (fun _ => False)) hc2 (fun h => h)
  have d3 : ∀ o, (W.alloc o).cell? ⟨B3, 0, none⟩ = some (.int .u32 (j : Int)) := fun o => cell_frm (Frm.alloc W o (fun _ => False)) hc3 (fun h => h)
  clear hc1 hc2 hc3
  by_cases h : a' = a
  · have hd : ((a' : Int) == (a : Int)) = true := by simp [h]
    have hda : decide (a' = a) = true := decide_eq_true h
    rw [hda]
    subst h
    go_enter Tryd.func45, Tryd.ntmps45
    go_wp2_with (go_at_call 33; refine (hm _).mono ?_; rintro e w' ⟨rfl, o, rfl⟩)
    go_ret
    exact ⟨by simp, (Frm.alloc _ _ _).trans (Frm.alloc _ _ _) (fun _ _ h => h)⟩
  · have hd : ((a' : Int) == (a : Int)) = false := by simp; omega
    have hn : ¬ (a' : Int) = (a : Int) := by omega
    have hda : decide (a' = a) = false := decide_eq_false h
    rw [hda]
    go_enter Tryd.func45, Tryd.ntmps45
    go_wp2_with (go_at_call 33; refine (hm _).mono ?_; rintro e w' ⟨rfl, o, rfl⟩)
    go_ret
    exact ⟨by simp, Frm.alloc _ _ _⟩

theorem frm_join {S : Nat → Prop} (w : World) {w1 w2 : World} (h : Frm (fun _ => False) w w1) (k : Frm S w1 w2) (hS : ∀ i, S i → w.heap.size ≤ i) : Hid (Frm (fun _ => False) w w2) :=
  h.trans k (fun i hi s => absurd (hS i s) (by omega))

theorem frm_four {w2 w6 w7 w8 w9 : World} {g6 g7 : Nat} (h6 : Frm (fun _ => False) w2 w6) (h7 : Frm (fun _ => False) w6 w7) (h8 : Frm (fun k => k = g6) w7 w8) (h9 : Frm (fun k => k = g7) w8 w9) (e6 : ∀ k, k = g6 → w2.heap.size ≤ k) (e7 : ∀ k, k = g7 → w2.heap.size ≤ k) : Hid (Frm (fun _ => False) w2 w9) :=
  frm_join w2 (frm_join w2 (frm_false_trans h6 h7) h8 e6).out h9 e7
theorem two_b {k1 k2 : IntKind} {p q : Int} : ∀ v ∈ [Value.int k1 p, Value.int k2 q], v.oneCell' = true := by
  intro v hv
  simp at hv
  rcases hv with rfl | rfl <;> rfl

/-- Where the loop of 'those' stands. -/
structure ThoseInv (w : World) (g bm rr : Nat) (D : List Rec) (p : Rec → Bool) (A : Option Addr) (n c : Nat) (left : List Rec) (wr : World) : Prop where
  rng : Ranging wr bm rr D left
  row : ∃ col, ROwn wr w.heap.size A n c col ∧ (col ++ left.filter p).Perm (D.filter p) ∧ col.length ≤ D.length
  frm : Frm (fun _ => False) w wr

set_option maxHeartbeats 4000000 in
set_option maxRecDepth 100000 in
theorem those_any (g bm k : Nat) (cb : Array Value) (p : Rec → Bool) (D : List Rec) (w : World) (hD : DirOk D) (hb : Blk w g 69 #[.map (some bm)]) (hm : MapAt w bm D)
    (eg : ∀ args w, (callFunc k args).run Tryd.prog w = .ok (.enter k args) w) (htest : ∀ r W, Frm (fun _ => False) w W → Calls Tryd.prog k (#[recV r] ++ cb) W fun e w' => e = .returned (.bool (p r)) ∧ Frm (fun _ => False) W w') :
    Calls Tryd.prog 31 #[.pointer (some ⟨g, 0, none⟩), .func (.func k) #[] cb] w fun e w' => ∃ A n c, e = .returned (.slice A n c) ∧ ROwn w' w.heap.size A n c (D.filter p) ∧ Frm (fun _ => False) w w' := by
  have c0 : w.cell? ⟨g, 0, none⟩ = some (.map (some bm)) := hb.cell 0
  have hDl := hD.len
  go_enter Tryd.func31, Tryd.ntmps31
  go_wp2_with (refine wpl_range_dir (op := ⟨some 13, _, _, _, _, _⟩) rfl _ rfl bm D rfl hm ?_; intro w1 hr1 hf1)
  try go_frame
  have hst : ThoseInv w g bm w.heap.size D p none 0 0 D w1 := ⟨hr1, ⟨[], ROwn.nil _ _, .refl _, by simp⟩, hf1⟩
  clear hr1 hf1
  go_loopw [5] (fun v wr => ∃ A n c left, v = .slice A n c ∧ ThoseInv w g bm w.heap.size D p A n c left wr) (fun _ wr => wr.rangeLeft bm w.heap.size)
  case atStart => exact ⟨none, 0, 0, D, rfl, hst⟩
  case round =>
    clear hst
    obtain ⟨A, n, c, left, rfl, hi⟩ := hrel
    have HI := hide hi
    have hrg := hi.rng
    clear hi
    go_wp2_with (refine wpl_next_dir (op := ⟨some 14, _, _, _, _, _⟩) rfl _ rfl bm w.heap.size D left rfl hrg ?_ ?_)
    · intro h0
      subst h0
      clear hrg
      go_wp2_with fail
      obtain ⟨col, ho, hp, hcl⟩ := HI.out.row
      have hfr := HI.out.frm
      have HP := hide hp
      clear hp HI
      refine (sort_any A n c w.heap.size col wr ho (by have := ho.len; omega)).mono ?_
      rintro e w2 ⟨rfl, l2, ho2, hp2, hs2, hf2⟩
      have he : l2 = D.filter p := by
        refine sorted_of (hD.sorted.filter _) (hp2.trans ?_) hs2
        have := HP.out
        simpa using this
      subst he
      have HO := hide ho2
      have HF : Hid (Frm (fun _ => False) w w2) := frm_join w hfr hf2 (fun k hk => (ho.ge k hk.symm).1)
      clear ho ho2 hp2 hs2 hf2 hfr
      go_wp2
      go_ret
      exact ⟨A, n, c, rfl, HO.out, HF.out⟩
    · intro x l' w2 hpx hr2 hf2 hen
      obtain ⟨col, ho, hp, hcl⟩ := HI.out.row
      have HX := hide hpx
      have HP := hide hp
      have HCL := hide hcl
      have hlt : l'.length < left.length := by have := hpx.length_eq; simp at this; omega
      have HCNT : Hid (∀ w', Ranging w' bm w.heap.size D l' → w'.rangeLeft bm w.heap.size < wr.rangeLeft bm w.heap.size) := fun w' h => by rw [h.count, hrg.count]; exact hlt
      have hrl := hrg.lt
      have HO2 := hide (ho.frm hf2 (fun k hk e => by subst e; exact ho.neIter hrg hk))
      have HF2 : Hid (Frm (fun _ => False) w w2) := frm_join w HI.out.frm hf2 (fun k hk => by omega)
      have HR := hide hr2
      have hg0 : w.heap.size ≤ w2.heap.size := HF2.out.size
      clear hpx hr2 hf2 hrg hp hcl hlt ho HI hrl
      go_wp2_with (first
        | ((refine wpl_alloca (op := ⟨some 6, _, _, _, _, _⟩) rfl _ rfl _ zeroB ?_); intro g6 w6 hB6 hs6 hF6)
        | ((refine wpl_alloca (op := ⟨some 7, _, _, _, _, _⟩) rfl _ rfl _ zeroT ?_); intro g7 w7 hB7 hs7 hF7; have hne : g6 ≠ g7 := (by have := hB6.lt; omega))
        | ((refine wpl_storea aggB rfl (.tmp 6) (.tmp 17) rfl g6 [.int .u16 (x.a : Int), .int .u32 (x.f : Int)] rfl rfl _ _ (hB6.frm hF7 (fun h => h)) rfl rfl two_b ?_); intro w8 hB8 hF8)
        | ((refine wpl_storea aggT rfl (.tmp 7) (.tmp 18) rfl g7 [.int .u32 (x.t : Int), .int .u32 (x.l : Int)] rfl rfl _ _ (hB7.frm hF8 (fun h => hne h.symm)) rfl rfl two_b ?_); intro w9 hB9 hF9; have HF9 := frm_four hF6 hF7 hF8 hF9 (fun k hk => (by omega)) (fun k hk => (by have := hF6.size; omega)); have hB8' := hB8.frm hF9 hne; have c60 : w9.cell? ⟨g6, 0, none⟩ = some (.int .u16 (x.a : Int)) := hB8'.cell 0; have c61 : w9.cell? ⟨g6, 1, none⟩ = some (.int .u32 (x.f : Int)) := hB8'.cell 1; have c70 : w9.cell? ⟨g7, 0, none⟩ = some (.int .u32 (x.t : Int)) := hB9.cell 0; have c71 : w9.cell? ⟨g7, 1, none⟩ = some (.int .u32 (x.l : Int)) := hB9.cell 1; clear hB6 hB7 hB8 hB9 hB8' hF6 hF7 hF8 hF9 hs6 hs7 hne)
        | ((refine wpl_alloca (op := ⟨some 8, _, _, _, _, _⟩) rfl _ rfl _ zeroR ?_); intro g8 w10 hB10 hs10 hF10)
        | ((refine wpl_storea aggR rfl (.tmp 8) (.tmp 27) rfl g8 (recC x) rfl rfl _ _ hB10 rfl rfl (recC_one x) ?_); intro w11 hB11 hF11; have HF11 := frm_join w9 hF10 hF11 (fun k hk => (by omega)); clear hB10 hF10 hF11 c60 c61 c70 c71)
        | (refine wpl_loada (op := ⟨some 29, _, _, _, _, _⟩) aggR rfl (.tmp 8) rfl g8 0 rfl _ (recC x) (recC x) hB11 rfl (by simp [recC]) ?_))
      have HA : Hid (Frm (fun _ => False) w2 w11) := frm_false_trans HF9.out HF11.out
      have HTE := htest x w11 (frm_false_trans HF2.out HA.out)
      obtain ⟨b, hbx⟩ : ∃ b, b = p x := ⟨_, rfl⟩
      rw [← hbx] at HTE
      have HBX := hide hbx
      clear hbx
      refine HTE.mono ?_
      rintro e w12 ⟨rfl, hf12⟩
      have HF12 : Hid (Frm (fun _ => False) w2 w12) := frm_false_trans HA.out hf12
      have hB12 := hB11.frm hf12 (fun h => h)
      have HR12 := hide (HR.out.frm HF12.out (fun h => h) (fun h => h))
      have HO12 := hide (HO2.out.frm0 HF12.out)
      have HF012 := hide (frm_false_trans HF2.out HF12.out)
      clear hB11 HF11 HF9 hf12 HTE HA HR HO2 hen hs10
      rcases b with _ | _
      · go_wp2
        go_roundw
        case rel =>
          refine ⟨A, n, c, l', rfl, HR12.out, ⟨col, HO12.out, ?_, HCL.out⟩, HF012.out⟩
          have h1 := HP.out
          have h2 := HX.out.filter p
          rw [List.filter_cons_of_neg (by rw [← HBX.out]; decide)] at h2
          exact (h2.append_left col).trans h1
        case measure => exact HCNT.out _ HR12.out
      · go_wp2_with (first
          | (refine wpl_loada (op := ⟨some 32, _, _, _, _, _⟩) aggR rfl (.tmp 8) rfl g8 0 rfl _ (recC x) [.int .u16 (x.a : Int), .int .u32 (x.f : Int), .int .u32 (x.t : Int), .int .u32 (x.l : Int)] hB12 rfl (by simp [recC]) ?_)
          | (refine wpl_appR (op := ⟨some 34, _, _, _, _, _⟩) rfl (.tmp 31) (.tmp 33) rfl _ w.heap.size A n c col rfl (HO12.out.frm0 (Frm.alloc _ _ _)) w12.heap.size x rfl (Blk.new w12 37 (recC x).toArray) (n + 1) rfl (by have := HO12.out.len; have := HCL.out; omega) (by simp; have := HF012.out.size; omega) ?_; intro A' c' w13 ho13 hf13; have HO13 := hide ho13; have HF13 := hide hf13; clear ho13 hf13))
        have hne12 := HO12.out.neMap HR12.out.map
        have hni12 := HO12.out.neIter HR12.out
        have hge12 := HO12.out.ge
        have HR13 := hide ((HR12.out.frm (Frm.alloc w12 _ (fun _ => False)) (fun h => h) (fun h => h)).frm HF13.out (fun e => hne12 e.symm) (fun e => hni12 e.symm))
        have HF013 := frm_join w (frm_false_trans HF012.out (Frm.alloc w12 _ _)) HF13.out (fun k hk => (hge12 k hk.symm).1)
        have HL : Hid ((col ++ [x]).length ≤ D.length) := by
          have h1 := HP.out.length_eq
          have h2 := HX.out.filter p
          rw [List.filter_cons_of_pos (by rw [← HBX.out])] at h2
          have h3 := h2.length_eq
          have h4 := List.length_filter_le p D
          simp only [List.length_append, List.length_cons, List.length_nil] at h1 h3 ⊢
          show _ ≤ _
          omega
        clear hne12 hni12 hge12 HF13
        go_roundw
        case rel =>
          refine ⟨A', n + 1, c', l', rfl, HR13.out, ⟨col ++ [x], HO13.out, ?_, HL.out⟩, HF013.out⟩
          have h1 := HP.out
          have h2 := HX.out.filter p
          rw [List.filter_cons_of_pos (by rw [← HBX.out])] at h2
          rw [List.append_assoc]
          exact (h2.append_left col).trans h1
        case measure => exact HCNT.out _ HR13.out
end Go.Proofs.YtjicnfkodieaaaaDoor
