/-
  The document's own tags: Add.
-/
import Derived.Test.YtdilfiojfjgejaaRpR1
import Derived.BigQuiet
namespace Go.Proofs.Ytdilfiojfjgejaa
set_option linter.unusedVariables false
set_option linter.unusedSimpArgs false
open Go.RowKit

theorem build_ent (e : Nat) (x : Tg) (w : World) : Sem.run Try.prog (Instr.build 53 #[(0, .int .u32 (e : Int)), (1, .agg (tgC x).toArray)]) w = .ok (.agg (entC ⟨e, x⟩).toArray) w :=
  match x with
  | ⟨[_, _, _, _, _, _, _, _, _, _, _, _, _, _, _, _], _⟩ => run_build w _ _ _ (by kernel_rfl)
/-- The new row, as far as it is made; nothing that lay is turned. -/
structure TSt (wr W : World) (A : Option Addr) (m c : Nat) (L : List Ent) : Prop where
  fr : Frm (fun _ => False) wr W
  row : TOwn W 53 entK wr.heap.size A m c L
/-- The one that comes behind lies in a block of its own. -/
structure OneT (W : World) (g : Nat) (x : Ent) (A : Option Addr) : Prop where
  blk : Blk W g 53 (entK.C x).toArray
  ne : ∀ k, rowOf A = some k → k ≠ g
theorem TOwn.made (w : World) : TOwn (w.alloc (.cells #[] 53)) 53 entK w.heap.size (some ⟨w.heap.size, 0, none⟩) 0 0 [] :=
  RowB.own ⟨[], Blk.new w _ _, rfl, Nat.le_refl _, by simp [maxLen]⟩ (Nat.le_refl _) rfl
theorem TSt.made {wr W : World} (f : Frm (fun _ => False) wr W) : TSt wr (W.alloc (.cells #[] 53)) (some ⟨W.heap.size, 0, none⟩) 0 0 [] :=
  ⟨frm_ft f (Frm.alloc _ _ _), (TOwn.made W).base f.size⟩
theorem OneT.made {W : World} {g : Nat} {x : Ent} (h : Blk W g 53 (entK.C x).toArray) : OneT (W.alloc (.cells #[] 53)) g x (some ⟨W.heap.size, 0, none⟩) :=
  ⟨h.frm (Frm.alloc _ _ (fun _ => False)) (fun h => h), fun k hk e => by
    have h1 := h.lt
    have h2 : W.heap.size = k := by simpa [rowOf] using hk
    omega⟩
theorem TSt.one {wr W : World} {A : Option Addr} {m c : Nat} {L : List Ent} {x : Ent} (h : TSt wr W A m c L) : TSt wr (W.alloc (.cells (entK.C x).toArray 53)) A m c L :=
  ⟨frm_ft h.fr (Frm.alloc _ _ _), h.row.frm0 (Frm.alloc _ _ _)⟩
theorem OneT.one {wr W : World} {A : Option Addr} {m c : Nat} {L : List Ent} {x : Ent} (h : TSt wr W A m c L) : OneT (W.alloc (.cells (entK.C x).toArray 53)) W.heap.size x A :=
  ⟨Blk.new _ _ _, fun k hk e => by have := (h.row.ge k hk).2; omega⟩
theorem TSt.app {wr W W2 : World} {A A2 : Option Addr} {m c m2 c2 : Nat} {L L2 : List Ent} (h : TSt wr W A m c L) (q : TOwn W2 53 entK wr.heap.size A2 m2 c2 L2) (f : Frm (fun k => some k = rowOf A) W W2) : TSt wr W2 A2 m2 c2 L2 :=
  ⟨frm_fs wr h.fr f (fun k hk => (h.row.ge k hk.symm).1), q⟩
theorem OneT.app {W W2 : World} {g : Nat} {x : Ent} {A A2 : Option Addr} (h : OneT W g x A) (f : Frm (fun k => some k = rowOf A) W W2) (o : rowOf A2 = rowOf A ∨ rowOf A2 = some W.heap.size) : OneT W2 g x A2 := by
  refine ⟨h.blk.frm f (fun e => h.ne g e.symm rfl), fun k hk e => ?_⟩
  rcases o with o | o
  · exact h.ne k (by rw [← o]; exact hk) e
  · rw [o] at hk
    have h1 := h.blk.lt
    injection hk with hk
    omega

set_option maxHeartbeats 8000000 in
set_option maxRecDepth 100000 in
theorem radd_any (B g : Nat) (t : T) (e : Nat) (x : Tg) (he : e < 4294967296) (hs : t.l.length ≤ 900000) (w : World) (h : RAt w B g t) :
    Calls Try.prog 12 #[.pointer (some ⟨g, 0, none⟩), .int .u32 (e : Int), .agg (tgC x).toArray] w fun r w' => r = .returned (.int .i64 (t.why e x : Int)) ∧ RAt w' B g (t.add e x) ∧ Frm (fun k => k = g) w w' := by
  have HH := hide h
  have HE := hide he
  have hs1 : t.l.length ≤ 1000000 := by omega
  have HS1 := hide hs1
  have hgl := h.lt
  obtain ⟨hBg, A, n, c, hb, ho⟩ := h
  have h0 : w.cell? ⟨g, 0, none⟩ = some (.int .i64 (t.most : Int)) := hb.cell 0
  have h2 : w.cell? ⟨g, 2, none⟩ = some (.int .u32 (t.floor : Int)) := hb.cell 2
  obtain ⟨most, hm⟩ : ∃ m, m = t.most := ⟨_, rfl⟩
  obtain ⟨flo, hfl⟩ : ∃ m, m = t.floor := ⟨_, rfl⟩
  rw [← hm] at h0
  rw [← hfl] at h2
  by_cases hlo : e < flo
  · have hlo' : (e : Int) < (flo : Int) := by omega
    have e1 : t.why e x = 11 := if_pos (by omega)
    have e2 : t.add e x = t := add_not (by rw [e1]; decide)
    rw [e1, e2]
    clear e1 e2 hm hfl hb ho
    go_enter Try.func12, Try.ntmps12
    go_wp2_with ((refine wpl_boxa (op := ⟨some 5, _, _, _, _, _⟩) rfl _ (.tmp 2) rfl (tgC x) rfl ?_); intro gx wx hX hgx fx; have d2 : wx.cell? ⟨g, 2, none⟩ = some (.int .u32 (flo : Int)) := cell_frm fx h2 (fun h => h); have HFX := hide fx; clear hX hgx fx h2 h0)
    go_ret
    exact ⟨rfl, HH.out.frm0 HFX.out, frm_any HFX.out⟩
  · have hlo' : ¬ (e : Int) < (flo : Int) := by omega
    have hlo2 : ¬ e < t.floor := by omega
    have HHAS : Hid (∀ W, Frm (fun _ => False) w W → Calls Try.prog 16 #[.pointer (some ⟨g, 0, none⟩), .int .u32 (e : Int), .agg (tgC x).toArray] W fun r w' => r = .returned (.bool (t.has e x)) ∧ Frm (fun _ => False) W w') := fun W f => rhas_any B g t ⟨e, x⟩ HE.out HS1.out W (HH.out.frm0 f)
    cases hha : t.has e x with
    | true =>
      have e1 : t.why e x = 7 := by unfold T.why; rw [if_neg hlo2, if_pos hha]
      have e2 : t.add e x = t := add_not (by rw [e1]; decide)
      rw [e1, e2]
      rw [hha] at HHAS
      clear e1 e2 hm hfl hb ho hha
      go_enter Try.func12, Try.ntmps12
      go_wp2_with (first
        | ((refine wpl_boxa (op := ⟨some 5, _, _, _, _, _⟩) rfl _ (.tmp 2) rfl (tgC x) rfl ?_); intro gx wx hX hgx fx; have d2 : wx.cell? ⟨g, 2, none⟩ = some (.int .u32 (flo : Int)) := cell_frm fx h2 (fun h => h); have HFX := hide fx; have HX := hide hX; clear hX hgx fx h2 h0)
        | (with_reducible refine wpl_loada aggX (op := ⟨some 16, _, _, _, _, _⟩) rfl (.tmp 5) rfl gx 0 rfl _ _ (tgC x) HX.out (tag_whole x) (tag_room x) ?_)
        | (go_at_call 16; refine (HHAS.out wx HFX.out).mono ?_; rintro r w2 ⟨rfl, f2⟩; have HF2 := hide (frm_ft HFX.out f2); clear f2))
      go_ret
      exact ⟨rfl, HH.out.frm0 HF2.out, frm_any HF2.out⟩
    | false =>
      have hha2 : ¬ t.has e x = true := by rw [hha]; decide
      have HLEN : Hid (∀ W, Frm (fun _ => False) w W → Calls Try.prog 18 #[.pointer (some ⟨g, 0, none⟩), .int .u32 (e : Int)] W fun r w' => r = .returned (.int .i64 (t.len e : Int)) ∧ w' = W) := fun W f => rlen_any B g t e HE.out HS1.out W (HH.out.frm0 f)
      obtain ⟨ln, hln⟩ : ∃ k, k = t.len e := ⟨_, rfl⟩
      rw [← hln] at HLEN
      rw [hha] at HHAS
      by_cases hfu : most ≤ ln
      · have hfu' : (most : Int) ≤ (ln : Int) := by omega
        have e1 : t.why e x = 8 := by unfold T.why; rw [if_neg hlo2, if_neg hha2, if_pos (by omega)]
        have e2 : t.add e x = t := add_not (by rw [e1]; decide)
        rw [e1, e2]
        clear e1 e2 hm hfl hb ho hha hln hha2 hfu
        go_enter Try.func12, Try.ntmps12
        go_wp2_with (first
          | ((refine wpl_boxa (op := ⟨some 5, _, _, _, _, _⟩) rfl _ (.tmp 2) rfl (tgC x) rfl ?_); intro gx wx hX hgx fx; have d2 : wx.cell? ⟨g, 2, none⟩ = some (.int .u32 (flo : Int)) := cell_frm fx h2 (fun h => h); have HFX := hide fx; have HX := hide hX; clear hX hgx fx h2)
          | (with_reducible refine wpl_loada aggX (op := ⟨some 16, _, _, _, _, _⟩) rfl (.tmp 5) rfl gx 0 rfl _ _ (tgC x) HX.out (tag_whole x) (tag_room x) ?_)
          | (go_at_call 16; refine (HHAS.out wx HFX.out).mono ?_; rintro r w2 ⟨rfl, f2⟩; have hf2 := frm_ft HFX.out f2; have d0 : w2.cell? ⟨g, 0, none⟩ = some (.int .i64 (most : Int)) := cell_frm hf2 h0 (fun h => h); have HF2 := hide hf2; clear f2 hf2 h0 d2))
        go_quiet (exact Calls.quiet_of_same (HLEN.out _ (HF2.out.drewN _)))
        go_wp2_with fail
        go_ret
        exact ⟨rfl, HH.out.frm0 (HF2.out.drewN _), frm_any (HF2.out.drewN _)⟩
      · have hfu' : ¬ (most : Int) ≤ (ln : Int) := by omega
        have e1 : t.why e x = 0 := by unfold T.why; rw [if_neg hlo2, if_neg hha2, if_neg (by omega)]
        have e2 : t.add e x = ⟨t.most, t.floor, t.l ++ [⟨e, x⟩]⟩ := by unfold T.add; rw [if_pos e1]
        rw [e1, e2]
        have hn := ho.len
        obtain ⟨R, hR⟩ : ∃ R, R = t.l := ⟨_, rfl⟩
        rw [← hR] at hn ho hs ⊢
        rw [hn] at hs
        rw [← hm, ← hfl] at hb ⊢
        have FIN : Hid (∀ (wr : World), Frm (fun _ => False) w wr → ∀ A' c' W, Frm (fun _ => False) wr W → TOwn W 53 entK wr.heap.size A' (n + 1) c' (R ++ [⟨e, x⟩]) →
            W.cell? ⟨g, 1, none⟩ = some (.slice A n c) ∧ W.frozen? ⟨g, 1, none⟩ = false ∧
            RAt (W.setCell ⟨g, 1, none⟩ (.slice A' (n + 1) c')) B g ⟨most, flo, R ++ [⟨e, x⟩]⟩ ∧
            Frm (fun k => k = g) w (W.setCell ⟨g, 1, none⟩ (.slice A' (n + 1) c'))) := by
          intro wr fw A' c' W f o
          have b1 := hb.frm (frm_ft fw f) (fun h => h)
          have b2 := b1.set 1 (.slice A' (n + 1) c')
          have f2 : Frm (fun k => k = g) W (W.setCell ⟨g, 1, none⟩ (.slice A' (n + 1) c')) := Frm.setCell _ _ _ _ rfl
          have hsz := fw.size
          refine ⟨b1.cell 1, b1.frozen 1, ⟨hBg, A', n + 1, c', b2, (o.frm f2 (fun k hk e => ?_)).base (by omega)⟩, (frm_any (frm_ft fw f)).trans f2 (fun _ _ h => h)⟩
          have := (o.ge k hk).1
          omega
        have HB := hide hb
        have HO := hide ho
        clear e1 e2 hm hfl hb ho hha hln hha2 hR hn
        go_enter Try.func12, Try.ntmps12
        go_wp2_with (first
          | ((refine wpl_boxa (op := ⟨some 5, _, _, _, _, _⟩) rfl _ (.tmp 2) rfl (tgC x) rfl ?_); intro gx wx hX hgx fx; have d2 : wx.cell? ⟨g, 2, none⟩ = some (.int .u32 (flo : Int)) := cell_frm fx h2 (fun h => h); have HFX := hide fx; have HX := hide hX; clear hX hgx fx h2)
          | (with_reducible refine wpl_loada aggX (op := ⟨some 16, _, _, _, _, _⟩) rfl (.tmp 5) rfl gx 0 rfl _ _ (tgC x) HX.out (tag_whole x) (tag_room x) ?_)
          | (go_at_call 16; refine (HHAS.out wx HFX.out).mono ?_; rintro r w2 ⟨rfl, f2⟩; have hf2 := frm_ft HFX.out f2; have d0 : w2.cell? ⟨g, 0, none⟩ = some (.int .i64 (most : Int)) := cell_frm hf2 h0 (fun h => h); have HF2 := hide hf2; have HX2 := hide (HX.out.frm f2 (fun h => h)); clear f2 hf2 h0 d2 HX))
        go_quiet (exact Calls.quiet_of_same (HLEN.out _ (HF2.out.drewN _)))
        rename_i nq
        have hfr : Frm (fun _ => False) w (w2.drewN nq) := HF2.out.drewN _
        have hxr : Blk (w2.drewN nq) gx 30 (tgC x).toArray := HX2.out.frm (S := fun _ => False) ((Frm.refl _ _).drewN _) (fun h => h)
        generalize hwr : w2.drewN nq = wr at hfr hxr ⊢
        have HF := hide hfr
        have HX3 := hide hxr
        have FIN := hide (FIN.out wr HF.out)
        clear hwr hfr hxr d0 HF2 HX2
        have HS : Hid (∀ W', Frm (fun _ => False) wr W' → W'.cell? ⟨g, 1, none⟩ = some (.slice A n c) ∧ Blk W' gx 30 (tgC x).toArray) := fun W' f =>
          ⟨(HB.out.frm (frm_ft HF.out f) (fun h => h)).cell 1, HX3.out.frm f (fun h => h)⟩
        go_wp2_with fail
        refine wp_region_x (S := fun W => W.cell? ⟨g, 1, none⟩ = some (.slice A n c) ∧ Blk W gx 30 (tgC x).toArray) [14] (by kernel_rfl) (HS.out _ ((Frm.refl _ _).drew)) ?_
        intro hHeld
        obtain ⟨W0, hW0⟩ : ∃ W', W' = wr.drew := ⟨_, rfl⟩
        have fr_W0 : Frm (fun _ => False) wr W0 := by rw [hW0]; exact (Frm.refl _ _).drew
        rw [← hW0] at hHeld ⊢
        clear hW0
        refine anyX_take [14, 13, 12, 0] (i := 0) (v := ?vx7) rfl (by kernel_rfl) (by kernel_rfl) (by kernel_rfl) (by kernel_rfl) (by kernel_rfl) (by kernel_rfl) (by kernel_rfl) (fun _ _ _ h => h) (Or.inl ⟨by rfl, ?hz7⟩) (by assumption) ?restx7
        case hz7 => (intro w hSw; (try dsimp only at hSw); go_simp; try with_reducible rfl)
        try simp only [Act.put, List.getElem_toArray, List.getElem_cons_zero, List.getElem_cons_succ, List.setIfInBounds_toArray, List.set_cons_zero, List.set_cons_succ]
        refine anyX_take [14, 13, 12, 2] (i := 2) (v := ?vx8) rfl (by kernel_rfl) (by kernel_rfl) (by kernel_rfl) (by kernel_rfl) (by kernel_rfl) (by kernel_rfl) (by kernel_rfl) (fun _ _ _ h => h) (Or.inl ⟨by rfl, ?hz8⟩) (by assumption) ?restx8
        case hz8 => (intro w hSw; (try dsimp only at hSw); go_simp; try with_reducible rfl)
        try simp only [Act.put, List.getElem_toArray, List.getElem_cons_zero, List.getElem_cons_succ, List.setIfInBounds_toArray, List.set_cons_zero, List.set_cons_succ]
        refine anyX_take [14, 13, 12, 3] (i := 3) (v := ?vx9) rfl (by kernel_rfl) (by kernel_rfl) (by kernel_rfl) (by kernel_rfl) (by kernel_rfl) (by kernel_rfl) (by kernel_rfl) (fun _ _ _ h => h) (Or.inl ⟨by rfl, ?hz9⟩) (by assumption) ?restx9
        case hz9 => (intro w hSw; (try dsimp only at hSw); go_simp; try with_reducible rfl)
        try simp only [Act.put, List.getElem_toArray, List.getElem_cons_zero, List.getElem_cons_succ, List.setIfInBounds_toArray, List.set_cons_zero, List.set_cons_succ]
        refine anyX_take [14, 13, 12, 4] (i := 4) (v := ?vx10) rfl (by kernel_rfl) (by kernel_rfl) (by kernel_rfl) (by kernel_rfl) (by kernel_rfl) (by kernel_rfl) (by kernel_rfl) (fun _ _ _ h => h) (Or.inl ⟨by rfl, ?hz10⟩) (by assumption) ?restx10
        case hz10 => (intro w hSw; (try dsimp only at hSw); go_simp; try with_reducible rfl)
        try simp only [Act.put, List.getElem_toArray, List.getElem_cons_zero, List.getElem_cons_succ, List.setIfInBounds_toArray, List.set_cons_zero, List.set_cons_succ]
        refine anyX_take [14, 13, 12, 5] (i := 5) (v := ?vx11) rfl (by kernel_rfl) (by kernel_rfl) (by kernel_rfl) (by kernel_rfl) (by kernel_rfl) (by kernel_rfl) (by kernel_rfl) (fun _ _ _ h => h) (Or.inl ⟨by rfl, ?hz11⟩) (by assumption) ?restx11
        case hz11 => (intro w hSw; (try dsimp only at hSw); go_simp; try with_reducible rfl)
        try simp only [Act.put, List.getElem_toArray, List.getElem_cons_zero, List.getElem_cons_succ, List.setIfInBounds_toArray, List.set_cons_zero, List.set_cons_succ]
        refine anyX_take [14, 13, 12, 7] (i := 7) (v := ?vx12) rfl (by kernel_rfl) (by kernel_rfl) (by kernel_rfl) (by kernel_rfl) (by kernel_rfl) (by kernel_rfl) (by kernel_rfl) (fun _ _ _ h => h) (Or.inl ⟨by rfl, ?hz12⟩) (by assumption) ?restx12
        case hz12 => (intro w hSw; (try dsimp only at hSw); go_simp; try with_reducible rfl)
        try simp only [Act.put, List.getElem_toArray, List.getElem_cons_zero, List.getElem_cons_succ, List.setIfInBounds_toArray, List.set_cons_zero, List.set_cons_succ]
        refine anyX_take [14, 13, 12, 8] (i := 8) (v := .agg (tgC x).toArray) rfl (by kernel_rfl) (by kernel_rfl) (by kernel_rfl) (by kernel_rfl) (by kernel_rfl) (by kernel_rfl) (by kernel_rfl) (fun _ _ _ h => h) (Or.inl ⟨by rfl, ?hz13⟩) (by assumption) ?restx13
        case hz13 => (intro w hSw; refine held_loada aggX (.tmp 5) ?_ gx 0 ?_ _ _ (tgC x) hSw.2 (tag_whole x) (tag_room x) <;> rfl)
        try simp only [Act.put, List.getElem_toArray, List.getElem_cons_zero, List.getElem_cons_succ, List.setIfInBounds_toArray, List.set_cons_zero, List.set_cons_succ]
        refine anyX_take [14, 13, 12, 9] (i := 9) (v := .agg (entC ⟨e, x⟩).toArray) rfl (by kernel_rfl) (by kernel_rfl) (by kernel_rfl) (by kernel_rfl) (by kernel_rfl) (by kernel_rfl) (by kernel_rfl) (fun _ _ _ h => h) (Or.inl ⟨by rfl, ?hz14⟩) (by assumption) ?restx14
        case hz14 => (intro w hSw; refine held_build 53 #[(0, .tmp 34), (1, .tmp 35)] ?_ [(0, .int .u32 (e : Int)), (1, .agg (tgC x).toArray)] (entC ⟨e, x⟩) (build_ent e x w) ?_ <;> rfl)
        try simp only [Act.put, List.getElem_toArray, List.getElem_cons_zero, List.getElem_cons_succ, List.setIfInBounds_toArray, List.set_cons_zero, List.set_cons_succ]
        refine anyX_ready (rs := [1, 10]) (by kernel_rfl) (by simp) ?_
        refine AllX.cons rfl rfl (fun K hK => ?_) ?_
        · refine ite_wanted rfl ?_
          refine wp_made0 isE rfl ?_
          have r1 := TSt.made fr_W0
          generalize hW : W0.alloc (.cells #[] 53) = W1 at r1 ⊢
          refine hK.out _ _ (HS.out _ r1.fr) (fun hHeld => ?_)
          clear hK K
          refine anyX_ready (rs := [6, 10]) (by kernel_rfl) (by simp) ?_
          refine AllX.cons rfl rfl (fun K hK => ?_) ?_
          · refine step_appT isE rfl (.tmp 28) (.tmp 32) rfl _ _ _ 0 _ [] rfl r1.row A n c R rfl ((HO.out.frm0 (frm_ft HF.out r1.fr)).src) (n) (by omega) (by omega) r1.fr.size ?_
            intro A2 c2 W2 q2 f2 o2
            have r2 := r1.app q2 f2
            clear q2 f2 o2
            refine hK.out _ _ (HS.out _ r2.fr) (fun hHeld => ?_)
            clear hK K
            refine anyX_ready (rs := [10]) (by kernel_rfl) (by simp) ?_
            refine AllX.cons rfl rfl (fun K hK => ?_) AllX.nil
            refine ite_wanted rfl ?_
            refine wp_made1 isE (.tmp 36) rfl ⟨e, x⟩ rfl ?_
            have rr := TSt.one (x := ⟨e, x⟩) r2
            have uu := OneT.one (x := ⟨e, x⟩) r2
            generalize hW : W2.alloc (.cells (entK.C ⟨e, x⟩).toArray 53) = W2b at rr uu ⊢
            obtain ⟨g10, hg10⟩ : ∃ g, g = W2.heap.size := ⟨_, rfl⟩
            rw [← hg10] at uu ⊢
            clear hg10 hW
            refine hK.out _ _ (HS.out _ rr.fr) (fun hHeld => ?_)
            clear hK K
            refine anyX_ready (rs := [11]) (by kernel_rfl) (by simp) ?_
            refine AllX.cons rfl rfl (fun K hK => ?_) AllX.nil
            refine step_appT isE rfl (.tmp 33) (.tmp 37) rfl _ _ A2 n c2 R rfl rr.row (some ⟨g10, 0, none⟩) 1 1 [⟨e, x⟩] rfl (SrcT.one uu.blk) (n + 1) (by omega) (by omega) rr.fr.size ?_
            intro A3 c3 W3 q2 f2 o2
            have r3 := rr.app q2 f2
            clear q2 f2 o2
            obtain ⟨k1, z1, hfin, hfrm⟩ := FIN.out A3 c3 W3 r3.fr r3.row
            refine hK.out _ _ (HS.out _ r3.fr) (fun hHeld => ?_)
            clear hK K
            refine anyX_take [14, 13, 12] (i := 12) (v := ?vx1) rfl (by kernel_rfl) (by kernel_rfl) (by kernel_rfl) (by kernel_rfl) (by kernel_rfl) (by kernel_rfl) (by kernel_rfl) (fun _ _ _ h => h) (Or.inl ⟨by rfl, ?hz1⟩) (by assumption) ?restx1
            case hz1 => (intro w hSw; (try dsimp only at hSw); go_simp; try with_reducible rfl)
            try simp only [Act.put, List.getElem_toArray, List.getElem_cons_zero, List.getElem_cons_succ, List.setIfInBounds_toArray, List.set_cons_zero, List.set_cons_succ]
            refine anyX_take [14, 13] (i := 13) (v := ?vx2) rfl (by kernel_rfl) (by kernel_rfl) (by kernel_rfl) (by kernel_rfl) (by kernel_rfl) (by kernel_rfl) (by kernel_rfl) (fun _ _ _ h => h) (Or.inl ⟨by rfl, ?hz2⟩) (by assumption) ?restx2
            case hz2 => (intro w hSw; (try dsimp only at hSw); go_simp; try with_reducible rfl)
            try simp only [Act.put, List.getElem_toArray, List.getElem_cons_zero, List.getElem_cons_succ, List.setIfInBounds_toArray, List.set_cons_zero, List.set_cons_succ]
            refine anyX_ready (rs := [14]) (by kernel_rfl) (by simp) ?_
            refine AllX.last rfl rfl (fun K hK => ?_)
            go_simp
            refine hK.out _ _ ?_
            clear hK K
            refine anyX_done (by kernel_rfl) ?_ _
            clear hHeld
            go_wp2_with fail
            go_ret
            exact ⟨rfl, hfin, hfrm⟩
          refine AllX.cons rfl rfl (fun K hK => ?_) AllX.nil
          refine ite_wanted rfl ?_
          refine wp_made1 isE (.tmp 36) rfl ⟨e, x⟩ rfl ?_
          have rr := TSt.one (x := ⟨e, x⟩) r1
          have uu := OneT.one (x := ⟨e, x⟩) r1
          generalize hW : W1.alloc (.cells (entK.C ⟨e, x⟩).toArray 53) = W1b at rr uu ⊢
          obtain ⟨g10, hg10⟩ : ∃ g, g = W1.heap.size := ⟨_, rfl⟩
          rw [← hg10] at uu ⊢
          clear hg10 hW
          refine hK.out _ _ (HS.out _ rr.fr) (fun hHeld => ?_)
          clear hK K
          refine anyX_ready (rs := [6]) (by kernel_rfl) (by simp) ?_
          refine AllX.cons rfl rfl (fun K hK => ?_) AllX.nil
          refine step_appT isE rfl (.tmp 28) (.tmp 32) rfl _ _ _ 0 _ [] rfl rr.row A n c R rfl ((HO.out.frm0 (frm_ft HF.out rr.fr)).src) (n) (by omega) (by omega) rr.fr.size ?_
          intro A2 c2 W2 q2 f2 o2
          have r2 := rr.app q2 f2
          have u2 := uu.app f2 o2
          clear q2 f2 o2
          refine hK.out _ _ (HS.out _ r2.fr) (fun hHeld => ?_)
          clear hK K
          refine anyX_ready (rs := [11]) (by kernel_rfl) (by simp) ?_
          refine AllX.cons rfl rfl (fun K hK => ?_) AllX.nil
          refine step_appT isE rfl (.tmp 33) (.tmp 37) rfl _ _ A2 n c2 R rfl r2.row (some ⟨g10, 0, none⟩) 1 1 [⟨e, x⟩] rfl (SrcT.one u2.blk) (n + 1) (by omega) (by omega) r2.fr.size ?_
          intro A3 c3 W3 q2 f2 o2
          have r3 := r2.app q2 f2
          clear q2 f2 o2
          obtain ⟨k1, z1, hfin, hfrm⟩ := FIN.out A3 c3 W3 r3.fr r3.row
          refine hK.out _ _ (HS.out _ r3.fr) (fun hHeld => ?_)
          clear hK K
          refine anyX_take [14, 13, 12] (i := 12) (v := ?vx3) rfl (by kernel_rfl) (by kernel_rfl) (by kernel_rfl) (by kernel_rfl) (by kernel_rfl) (by kernel_rfl) (by kernel_rfl) (fun _ _ _ h => h) (Or.inl ⟨by rfl, ?hz3⟩) (by assumption) ?restx3
          case hz3 => (intro w hSw; (try dsimp only at hSw); go_simp; try with_reducible rfl)
          try simp only [Act.put, List.getElem_toArray, List.getElem_cons_zero, List.getElem_cons_succ, List.setIfInBounds_toArray, List.set_cons_zero, List.set_cons_succ]
          refine anyX_take [14, 13] (i := 13) (v := ?vx4) rfl (by kernel_rfl) (by kernel_rfl) (by kernel_rfl) (by kernel_rfl) (by kernel_rfl) (by kernel_rfl) (by kernel_rfl) (fun _ _ _ h => h) (Or.inl ⟨by rfl, ?hz4⟩) (by assumption) ?restx4
          case hz4 => (intro w hSw; (try dsimp only at hSw); go_simp; try with_reducible rfl)
          try simp only [Act.put, List.getElem_toArray, List.getElem_cons_zero, List.getElem_cons_succ, List.setIfInBounds_toArray, List.set_cons_zero, List.set_cons_succ]
          refine anyX_ready (rs := [14]) (by kernel_rfl) (by simp) ?_
          refine AllX.last rfl rfl (fun K hK => ?_)
          go_simp
          refine hK.out _ _ ?_
          clear hK K
          refine anyX_done (by kernel_rfl) ?_ _
          clear hHeld
          go_wp2_with fail
          go_ret
          exact ⟨rfl, hfin, hfrm⟩
        refine AllX.cons rfl rfl (fun K hK => ?_) AllX.nil
        refine ite_wanted rfl ?_
        refine wp_made1 isE (.tmp 36) rfl ⟨e, x⟩ rfl ?_
        have u0 := Blk.new W0 53 (entK.C ⟨e, x⟩).toArray
        have fr_V0 : Frm (fun _ => False) wr (W0.alloc (.cells (entK.C ⟨e, x⟩).toArray 53)) := frm_ft fr_W0 (Frm.alloc _ _ _)
        generalize hW : W0.alloc (.cells (entK.C ⟨e, x⟩).toArray 53) = V0 at u0 fr_V0 ⊢
        obtain ⟨g10, hg10⟩ : ∃ g, g = W0.heap.size := ⟨_, rfl⟩
        rw [← hg10] at u0 ⊢
        clear hg10 hW
        refine hK.out _ _ (HS.out _ fr_V0) (fun hHeld => ?_)
        clear hK K
        refine anyX_ready (rs := [1]) (by kernel_rfl) (by simp) ?_
        refine AllX.cons rfl rfl (fun K hK => ?_) AllX.nil
        refine ite_wanted rfl ?_
        refine wp_made0 isE rfl ?_
        have r1 := TSt.made fr_V0
        have u1 := OneT.made (x := ⟨e, x⟩) u0
        generalize hW : V0.alloc (.cells #[] 53) = V1 at r1 u1 ⊢
        refine hK.out _ _ (HS.out _ r1.fr) (fun hHeld => ?_)
        clear hK K
        refine anyX_ready (rs := [6]) (by kernel_rfl) (by simp) ?_
        refine AllX.cons rfl rfl (fun K hK => ?_) AllX.nil
        refine step_appT isE rfl (.tmp 28) (.tmp 32) rfl _ _ _ 0 _ [] rfl r1.row A n c R rfl ((HO.out.frm0 (frm_ft HF.out r1.fr)).src) (n) (by omega) (by omega) r1.fr.size ?_
        intro A2 c2 W2 q2 f2 o2
        have r2 := r1.app q2 f2
        have u2 := u1.app f2 o2
        clear q2 f2 o2
        refine hK.out _ _ (HS.out _ r2.fr) (fun hHeld => ?_)
        clear hK K
        refine anyX_ready (rs := [11]) (by kernel_rfl) (by simp) ?_
        refine AllX.cons rfl rfl (fun K hK => ?_) AllX.nil
        refine step_appT isE rfl (.tmp 33) (.tmp 37) rfl _ _ A2 n c2 R rfl r2.row (some ⟨g10, 0, none⟩) 1 1 [⟨e, x⟩] rfl (SrcT.one u2.blk) (n + 1) (by omega) (by omega) r2.fr.size ?_
        intro A3 c3 W3 q2 f2 o2
        have r3 := r2.app q2 f2
        clear q2 f2 o2
        obtain ⟨k1, z1, hfin, hfrm⟩ := FIN.out A3 c3 W3 r3.fr r3.row
        refine hK.out _ _ (HS.out _ r3.fr) (fun hHeld => ?_)
        clear hK K
        refine anyX_take [14, 13, 12] (i := 12) (v := ?vx5) rfl (by kernel_rfl) (by kernel_rfl) (by kernel_rfl) (by kernel_rfl) (by kernel_rfl) (by kernel_rfl) (by kernel_rfl) (fun _ _ _ h => h) (Or.inl ⟨by rfl, ?hz5⟩) (by assumption) ?restx5
        case hz5 => (intro w hSw; (try dsimp only at hSw); go_simp; try with_reducible rfl)
        try simp only [Act.put, List.getElem_toArray, List.getElem_cons_zero, List.getElem_cons_succ, List.setIfInBounds_toArray, List.set_cons_zero, List.set_cons_succ]
        refine anyX_take [14, 13] (i := 13) (v := ?vx6) rfl (by kernel_rfl) (by kernel_rfl) (by kernel_rfl) (by kernel_rfl) (by kernel_rfl) (by kernel_rfl) (by kernel_rfl) (fun _ _ _ h => h) (Or.inl ⟨by rfl, ?hz6⟩) (by assumption) ?restx6
        case hz6 => (intro w hSw; (try dsimp only at hSw); go_simp; try with_reducible rfl)
        try simp only [Act.put, List.getElem_toArray, List.getElem_cons_zero, List.getElem_cons_succ, List.setIfInBounds_toArray, List.set_cons_zero, List.set_cons_succ]
        refine anyX_ready (rs := [14]) (by kernel_rfl) (by simp) ?_
        refine AllX.last rfl rfl (fun K hK => ?_)
        go_simp
        refine hK.out _ _ ?_
        clear hK K
        refine anyX_done (by kernel_rfl) ?_ _
        clear hHeld
        go_wp2_with fail
        go_ret
        exact ⟨rfl, hfin, hfrm⟩
end Go.Proofs.Ytdilfiojfjgejaa
