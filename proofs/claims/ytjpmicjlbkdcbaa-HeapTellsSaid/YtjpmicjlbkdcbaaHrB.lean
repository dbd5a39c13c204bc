/-
  The document's own heap: Push and Pop.
-/
import Derived.Test.YtjpmicjlbkdcbaaHrA
namespace Go.Proofs.Ytjpmicjlbkdcbaa
set_option linter.unusedVariables false
set_option linter.unusedSimpArgs false
open Go.RowKit

theorem frm_ft {w w1 w2 : World} (h : Frm (fun _ => False) w w1) (k : Frm (fun _ => False) w1 w2) : Frm (fun _ => False) w w2 := h.trans k (fun _ _ h => h)
theorem frm_fs {S : Nat → Prop} (w : World) {w1 w2 : World} (h : Frm (fun _ => False) w w1) (k : Frm S w1 w2) (hS : ∀ i, S i → w.heap.size ≤ i) : Frm (fun _ => False) w w2 := h.trans k (fun i hi e => by have := hS i e; omega)
/-- An empty row that was made just now. -/
theorem ROw.made (w : World) : ROw (w.alloc (.cells #[] 43)) w.heap.size (some ⟨w.heap.size, 0, none⟩) 0 0 [] :=
  ⟨rfl, .inr ⟨w.heap.size, 0, #[], rfl, Nat.le_refl _, Blk.new w _ _, Nat.le_refl _, by simp [maxLen], rfl, rfl⟩⟩
theorem TOwn.src {w : World} {E : TypeId} {κ : IntKind} {B n c : Nat} {A : Option Addr} {L : List Th} (h : TOwn w E κ B A n c L) : SrcT w κ A n c L := by
  have := h.src0 n (Nat.le_refl _)
  rwa [List.take_of_length_le (by rw [h.len]; exact Nat.le_refl _)] at this
/-- The new row, as far as it is made; nothing that lay is turned. -/
structure TSt (wr W : World) (A : Option Addr) (m c : Nat) (L : List Th) : Prop where
  fr : Frm (fun _ => False) wr W
  row : ROw W wr.heap.size A m c L
/-- The thing that comes behind lies in a block of its own. -/
structure OneT (W : World) (g : Nat) (x : Th) (A : Option Addr) : Prop where
  blk : Blk W g 43 (thC .i64 x).toArray
  ne : ∀ k, rowOf A = some k → k ≠ g
theorem TSt.made {wr W : World} (f : Frm (fun _ => False) wr W) : TSt wr (W.alloc (.cells #[] 43)) (some ⟨W.heap.size, 0, none⟩) 0 0 [] :=
  ⟨frm_ft f (Frm.alloc _ _ _), (ROw.made W).base f.size⟩
theorem OneT.made {W : World} {g : Nat} {x : Th} (h : Blk W g 43 (thC .i64 x).toArray) : OneT (W.alloc (.cells #[] 43)) g x (some ⟨W.heap.size, 0, none⟩) :=
  ⟨h.frm (Frm.alloc _ _ (fun _ => False)) (fun h => h), fun k hk e => by
    have h1 := h.lt
    have h2 : W.heap.size = k := by simpa [rowOf] using hk
    omega⟩
theorem TSt.one {wr W : World} {A : Option Addr} {m c : Nat} {L : List Th} {x : Th} (h : TSt wr W A m c L) : TSt wr (W.alloc (.cells (thC .i64 x).toArray 43)) A m c L :=
  ⟨frm_ft h.fr (Frm.alloc _ _ _), h.row.frm0 (Frm.alloc _ _ _)⟩
theorem OneT.one {wr W : World} {A : Option Addr} {m c : Nat} {L : List Th} {x : Th} (h : TSt wr W A m c L) : OneT (W.alloc (.cells (thC .i64 x).toArray 43)) W.heap.size x A :=
  ⟨Blk.new _ _ _, fun k hk e => by have := (h.row.ge k hk).2; omega⟩
theorem TSt.app {wr W W2 : World} {A A2 : Option Addr} {m c m2 c2 : Nat} {L L2 : List Th} (h : TSt wr W A m c L) (q : ROw W2 wr.heap.size A2 m2 c2 L2) (f : Frm (fun k => some k = rowOf A) W W2) : TSt wr W2 A2 m2 c2 L2 :=
  ⟨frm_fs wr h.fr f (fun k hk => (h.row.ge k hk.symm).1), q⟩
theorem OneT.app {W W2 : World} {g : Nat} {x : Th} {A A2 : Option Addr} (h : OneT W g x A) (f : Frm (fun k => some k = rowOf A) W W2) (o : rowOf A2 = rowOf A ∨ rowOf A2 = some W.heap.size) : OneT W2 g x A2 := by
  refine ⟨h.blk.frm f (fun e => h.ne g e.symm rfl), fun k hk e => ?_⟩
  rcases o with o | o
  · exact h.ne k (by rw [← o]; exact hk) e
  · rw [o] at hk
    have h1 := h.blk.lt
    injection hk with hk
    omega

set_option maxHeartbeats 8000000 in
set_option maxRecDepth 100000 in
theorem rpush_any (B g : Nat) (R : List Th) (q : Qu) (t : Nat) (x : Int) (w : World) (h : RAt w B g R q) (ht : t < 18446744073709551616) (hs : R.length ≤ 50000) (hnum : q.num ≤ 50000) :
    Calls Try.prog 13 #[.pointer (some ⟨g, 0, none⟩), .int .u64 (t : Int), .int .i64 x] w fun e w' => e = .returned (.tuple (hI.pushV q)) ∧ ∃ R', RAt w' B g R' (q.push t x) ∧ Frm (fun k => k = g) w w' := by
  have HH := hide h
  obtain ⟨hBg, A, n, c, hb, ho, hl, hok⟩ := h
  have h0 : w.cell? ⟨g, 0, none⟩ = some (.int .i64 q.most) := hb.cell 0
  have h1 : w.cell? ⟨g, 1, none⟩ = some (.slice A n c) := hb.cell 1
  have hln := ho.len
  rw [hln] at hs
  rw [hl.length] at hln
  obtain ⟨most, hm⟩ : ∃ m, m = q.most := ⟨_, rfl⟩
  obtain ⟨num, hu⟩ : ∃ m, m = q.num := ⟨_, rfl⟩
  rw [← hm] at h0
  rw [← hu] at hnum
  by_cases hf : q.full
  · have hf' : most ≤ (n : Int) := by rw [hm, ← hln]; exact hf
    have e1 : hI.pushV q = #[.int .u64 0, .int .i64 8] := if_pos hf
    have e2 : q.push t x = q := if_pos hf
    rw [e1, e2]
    clear e1 e2 hf hm hu hln hb ho hl hok
    go_enter Try.func13, Try.ntmps13
    go_wp2_with fail
    go_quiet (fail)
    go_wp2_with fail
    go_ret2
    exact ⟨rfl, R, HH.out.frm0 ((Frm.refl _ _).drewN _), (Frm.refl _ _).drewN _⟩
  · have hf' : decide (most ≤ (n : Int)) = false := decide_eq_false (by rw [hm, ← hln]; exact hf)
    have e1 : hI.pushV q = #[.int .u64 (num : Int), .int .i64 0] := by rw [hu]; exact if_neg hf
    have e2 : q.push t x = ⟨most, num + 1, insT ⟨t, num, x⟩ q.S⟩ := by rw [hu, hm]; exact if_neg hf
    have hok2 := hok.push x ht
    rw [e2] at hok2
    rw [e1, e2]
    have hl2 : LikeR (R ++ [⟨t, num, x⟩]) (insT ⟨t, num, x⟩ q.S) := hl.push (x := ⟨t, num, x⟩) (fun y hy => by rw [hu]; exact hok.below y hy)
    rw [← hm, ← hu] at hb
    have FIN : Hid (∀ A' c' W, Frm (fun _ => False) w W → ROw W w.heap.size A' (n + 1) c' (R ++ [⟨t, num, x⟩]) →
        W.cell? ⟨g, 1, none⟩ = some (.slice A n c) ∧ W.frozen? ⟨g, 1, none⟩ = false ∧ (W.setCell ⟨g, 1, none⟩ (.slice A' (n + 1) c')).cell? ⟨g, 2, none⟩ = some (.int .u64 (num : Int)) ∧ (W.setCell ⟨g, 1, none⟩ (.slice A' (n + 1) c')).frozen? ⟨g, 2, none⟩ = false ∧
        ((W.setCell ⟨g, 1, none⟩ (.slice A' (n + 1) c')).setCell ⟨g, 2, none⟩ (.int .u64 ((num : Int) + 1))).cell? ⟨g, 2, none⟩ = some (.int .u64 ((num : Int) + 1)) ∧
        RAt ((W.setCell ⟨g, 1, none⟩ (.slice A' (n + 1) c')).setCell ⟨g, 2, none⟩ (.int .u64 ((num : Int) + 1))) B g (R ++ [⟨t, num, x⟩]) ⟨most, num + 1, insT ⟨t, num, x⟩ q.S⟩ ∧
        Frm (fun k => k = g) w ((W.setCell ⟨g, 1, none⟩ (.slice A' (n + 1) c')).setCell ⟨g, 2, none⟩ (.int .u64 ((num : Int) + 1)))) := by
      intro A' c' W f o
      have b1 := hb.frm f (fun h => h)
      have b2 := b1.set 1 (.slice A' (n + 1) c')
      have b3 := b2.set 2 (.int .u64 ((num : Int) + 1))
      have f2 : Frm (fun k => k = g) W (W.setCell ⟨g, 1, none⟩ (.slice A' (n + 1) c')) := Frm.setCell _ _ _ _ rfl
      have f3 : Frm (fun k => k = g) (W.setCell ⟨g, 1, none⟩ (.slice A' (n + 1) c')) ((W.setCell ⟨g, 1, none⟩ (.slice A' (n + 1) c')).setCell ⟨g, 2, none⟩ (.int .u64 ((num : Int) + 1))) := Frm.setCell _ _ _ _ rfl
      have f23 := f2.trans f3 (fun _ _ h => h)
      have hgl := hb.lt
      refine ⟨b1.cell 1, b1.frozen 1, b2.cell 2, b2.frozen 2, b3.cell 2, ⟨hBg, A', n + 1, c', b3, (o.frm f23 (fun k hk e => ?_)).base (by omega), hl2, hok2⟩, (f.mono (T := fun k => k = g) (fun _ _ h => h.elim)).trans f23 (fun _ _ h => h)⟩
      have := (o.ge k hk).1
      omega
    have HB := hide hb
    have HO := hide ho
    clear e1 e2 hf hm hu hln hb ho hl hok hok2 hl2
    go_enter Try.func13, Try.ntmps13
    go_wp2_with fail
    go_quiet (fail)
    rename_i nq
    have hfr : Frm (fun _ => False) w (w.drewN nq) := (Frm.refl _ _).drewN _
    generalize hwr : w.drewN nq = wr at hfr ⊢
    have HF := hide hfr
    clear hwr hfr h0 h1
    have HS : Hid (∀ W', Frm (fun _ => False) wr W' → W'.cell? ⟨g, 1, none⟩ = some (.slice A n c) ∧ W'.cell? ⟨g, 2, none⟩ = some (.int .u64 (num : Int))) := fun W' f =>
      ⟨(HB.out.frm (frm_ft HF.out f) (fun h => h)).cell 1, (HB.out.frm (frm_ft HF.out f) (fun h => h)).cell 2⟩
    go_wp2_with fail
    refine wp_region_x (S := fun W => W.cell? ⟨g, 1, none⟩ = some (.slice A n c) ∧ W.cell? ⟨g, 2, none⟩ = some (.int .u64 (num : Int))) [18] (by kernel_rfl) (HS.out _ ((Frm.refl _ _).drew)) ?_
    intro hHeld
    obtain ⟨W0, hW0⟩ : ∃ W', W' = wr.drew := ⟨_, rfl⟩
    have fr_W0 : Frm (fun _ => False) wr W0 := by rw [hW0]; exact (Frm.refl _ _).drew
    rw [← hW0] at hHeld ⊢
    clear hW0
    refine anyX_take [18, 17, 16, 0] (i := 0) (v := ?v1) rfl (by kernel_rfl) (by kernel_rfl) (by kernel_rfl) (by kernel_rfl) (by kernel_rfl) (by kernel_rfl) (by kernel_rfl) (fun _ _ _ h => h) (Or.inl ⟨by rfl, ?hy1⟩) (by assumption) ?rest1
    case hy1 => (intro w hSw; (try dsimp only at hSw); go_simp; try with_reducible rfl)
    try simp only [Act.put, List.getElem_toArray, List.getElem_cons_zero, List.getElem_cons_succ, List.setIfInBounds_toArray, List.set_cons_zero, List.set_cons_succ]
    refine anyX_take [18, 15, 6, 5, 4, 3, 2] (i := 2) (v := ?v2) rfl (by kernel_rfl) (by kernel_rfl) (by kernel_rfl) (by kernel_rfl) (by kernel_rfl) (by kernel_rfl) (by kernel_rfl) (fun _ _ _ h => h) (Or.inl ⟨by rfl, ?hy2⟩) (by assumption) ?rest2
    case hy2 => (intro w hSw; (try dsimp only at hSw); go_simp; try with_reducible rfl)
    try simp only [Act.put, List.getElem_toArray, List.getElem_cons_zero, List.getElem_cons_succ, List.setIfInBounds_toArray, List.set_cons_zero, List.set_cons_succ]
    refine anyX_take [18, 15, 6, 5, 4, 3] (i := 3) (v := ?v3) rfl (by kernel_rfl) (by kernel_rfl) (by kernel_rfl) (by kernel_rfl) (by kernel_rfl) (by kernel_rfl) (by kernel_rfl) (fun _ _ _ h => h) (Or.inl ⟨by rfl, ?hy3⟩) (by assumption) ?rest3
    case hy3 => (intro w hSw; (try dsimp only at hSw); go_simp; try with_reducible rfl)
    try simp only [Act.put, List.getElem_toArray, List.getElem_cons_zero, List.getElem_cons_succ, List.setIfInBounds_toArray, List.set_cons_zero, List.set_cons_succ]
    refine anyX_take [18, 15, 6, 5, 4] (i := 4) (v := ?v4) rfl (by kernel_rfl) (by kernel_rfl) (by kernel_rfl) (by kernel_rfl) (by kernel_rfl) (by kernel_rfl) (by kernel_rfl) (fun _ _ _ h => h) (Or.inl ⟨by rfl, ?hy4⟩) (by assumption) ?rest4
    case hy4 => (intro w hSw; (try dsimp only at hSw); go_simp; try with_reducible rfl)
    try simp only [Act.put, List.getElem_toArray, List.getElem_cons_zero, List.getElem_cons_succ, List.setIfInBounds_toArray, List.set_cons_zero, List.set_cons_succ]
    refine anyX_take [18, 15, 6, 5] (i := 5) (v := ?v5) rfl (by kernel_rfl) (by kernel_rfl) (by kernel_rfl) (by kernel_rfl) (by kernel_rfl) (by kernel_rfl) (by kernel_rfl) (fun _ _ _ h => h) (Or.inl ⟨by rfl, ?hy5⟩) (by assumption) ?rest5
    case hy5 => (intro w hSw; (try dsimp only at hSw); go_simp; try with_reducible rfl)
    try simp only [Act.put, List.getElem_toArray, List.getElem_cons_zero, List.getElem_cons_succ, List.setIfInBounds_toArray, List.set_cons_zero, List.set_cons_succ]
    refine anyX_take [18, 15, 14, 13, 7] (i := 7) (v := ?v6) rfl (by kernel_rfl) (by kernel_rfl) (by kernel_rfl) (by kernel_rfl) (by kernel_rfl) (by kernel_rfl) (by kernel_rfl) (fun _ _ _ h => h) (Or.inl ⟨by rfl, ?hy6⟩) (by assumption) ?rest6
    case hy6 => (intro w hSw; (try dsimp only at hSw); go_simp; try with_reducible rfl)
    try simp only [Act.put, List.getElem_toArray, List.getElem_cons_zero, List.getElem_cons_succ, List.setIfInBounds_toArray, List.set_cons_zero, List.set_cons_succ]
    refine anyX_take [18, 15, 14, 13, 11, 10, 9, 8] (i := 8) (v := ?v7) rfl (by kernel_rfl) (by kernel_rfl) (by kernel_rfl) (by kernel_rfl) (by kernel_rfl) (by kernel_rfl) (by kernel_rfl) (fun _ _ _ h => h) (Or.inl ⟨by rfl, ?hy7⟩) (by assumption) ?rest7
    case hy7 => (intro w hSw; (try dsimp only at hSw); go_simp; try with_reducible rfl)
    try simp only [Act.put, List.getElem_toArray, List.getElem_cons_zero, List.getElem_cons_succ, List.setIfInBounds_toArray, List.set_cons_zero, List.set_cons_succ]
    refine anyX_take [18, 15, 14, 13, 11, 10, 9] (i := 9) (v := ?v8) rfl (by kernel_rfl) (by kernel_rfl) (by kernel_rfl) (by kernel_rfl) (by kernel_rfl) (by kernel_rfl) (by kernel_rfl) (fun _ _ _ h => h) (Or.inl ⟨by rfl, ?hy8⟩) (by assumption) ?rest8
    case hy8 => (intro w hSw; (try dsimp only at hSw); go_simp; try with_reducible rfl)
    try simp only [Act.put, List.getElem_toArray, List.getElem_cons_zero, List.getElem_cons_succ, List.setIfInBounds_toArray, List.set_cons_zero, List.set_cons_succ]
    refine anyX_take [18, 15, 14, 13, 11, 10] (i := 10) (v := ?v9) rfl (by kernel_rfl) (by kernel_rfl) (by kernel_rfl) (by kernel_rfl) (by kernel_rfl) (by kernel_rfl) (by kernel_rfl) (fun _ _ _ h => h) (Or.inl ⟨by rfl, ?hy9⟩) (by assumption) ?rest9
    case hy9 => (intro w hSw; (try dsimp only at hSw); go_simp; try with_reducible rfl)
    try simp only [Act.put, List.getElem_toArray, List.getElem_cons_zero, List.getElem_cons_succ, List.setIfInBounds_toArray, List.set_cons_zero, List.set_cons_succ]
    refine anyX_take [18, 15, 14, 13, 11] (i := 11) (v := ?v10) rfl (by kernel_rfl) (by kernel_rfl) (by kernel_rfl) (by kernel_rfl) (by kernel_rfl) (by kernel_rfl) (by kernel_rfl) (fun _ _ _ h => h) (Or.inl ⟨by rfl, ?hy10⟩) (by assumption) ?rest10
    case hy10 => (intro w hSw; (try dsimp only at hSw); go_simp; try with_reducible rfl)
    try simp only [Act.put, List.getElem_toArray, List.getElem_cons_zero, List.getElem_cons_succ, List.setIfInBounds_toArray, List.set_cons_zero, List.set_cons_succ]
    refine anyX_take [18, 15, 14, 13, 12] (i := 12) (v := ?v11) rfl (by kernel_rfl) (by kernel_rfl) (by kernel_rfl) (by kernel_rfl) (by kernel_rfl) (by kernel_rfl) (by kernel_rfl) (fun _ _ _ h => h) (Or.inl ⟨by rfl, ?hy11⟩) (by assumption) ?rest11
    case hy11 => (intro w hSw; (try dsimp only at hSw); go_simp; try with_reducible rfl)
    try simp only [Act.put, List.getElem_toArray, List.getElem_cons_zero, List.getElem_cons_succ, List.setIfInBounds_toArray, List.set_cons_zero, List.set_cons_succ]
    refine anyX_take [18, 15, 14, 13] (i := 13) (v := ?v12) rfl (by kernel_rfl) (by kernel_rfl) (by kernel_rfl) (by kernel_rfl) (by kernel_rfl) (by kernel_rfl) (by kernel_rfl) (fun _ _ _ h => h) (Or.inl ⟨by rfl, ?hy12⟩) (by assumption) ?rest12
    case hy12 => (intro w hSw; (try dsimp only at hSw); go_simp; try with_reducible rfl)
    try simp only [Act.put, List.getElem_toArray, List.getElem_cons_zero, List.getElem_cons_succ, List.setIfInBounds_toArray, List.set_cons_zero, List.set_cons_succ]
    refine anyX_ready (rs := [1, 14]) (by kernel_rfl) (by simp) ?_
    refine AllX.cons rfl rfl (fun K hK => ?_) ?_
    · go_simp
      have r1 := TSt.made fr_W0
      generalize hW : W0.alloc (.cells #[] 43) = W1 at r1 ⊢
      refine hK.out _ _ (HS.out _ r1.fr) (fun hHeld => ?_)
      clear hK K
      refine anyX_ready (rs := [6, 14]) (by kernel_rfl) (by simp) ?_
      refine AllX.cons rfl rfl (fun K hK => ?_) ?_
      · refine step_appT isR rfl (.tmp 19) (.tmp 23) rfl _ _ _ 0 _ [] rfl r1.row A n c R rfl ((HO.out.frm0 (frm_ft HF.out r1.fr)).src) (n) (by omega) (by omega) r1.fr.size ?_
        intro A2 c2 W2 q2 f2 o2
        have r2 := r1.app q2 f2
        clear q2 f2 o2
        refine hK.out _ _ (HS.out _ r2.fr) (fun hHeld => ?_)
        clear hK K
        refine anyX_ready (rs := [14]) (by kernel_rfl) (by simp) ?_
        refine AllX.cons rfl rfl (fun K hK => ?_) AllX.nil
        go_simp
        have rr := TSt.one (x := ⟨t, num, x⟩) r2
        have uu := OneT.one (x := ⟨t, num, x⟩) r2
        simp only [thC] at rr uu
        generalize hW : W2.alloc (.cells #[.int .u64 (t : Int), .int .u64 (num : Int), .int .i64 x] 43) = W2b at rr uu ⊢
        obtain ⟨g10, hg10⟩ : ∃ g, g = W2.heap.size := ⟨_, rfl⟩
        rw [← hg10] at uu ⊢
        clear hg10 hW
        refine hK.out _ _ (HS.out _ rr.fr) (fun hHeld => ?_)
        clear hK K
        refine anyX_ready (rs := [15]) (by kernel_rfl) (by simp) ?_
        refine AllX.cons rfl rfl (fun K hK => ?_) AllX.nil
        refine step_appT isR rfl (.tmp 24) (.tmp 32) rfl _ _ A2 n c2 R rfl rr.row (some ⟨g10, 0, none⟩) 1 1 [⟨t, num, x⟩] rfl (SrcT.one uu.blk) (n + 1) (by omega) (by omega) rr.fr.size ?_
        intro A3 c3 W3 q2 f2 o2
        have r3 := rr.app q2 f2
        clear q2 f2 o2
        obtain ⟨k1, z1, k2, z2, k3, hfin, hfrm⟩ := FIN.out A3 c3 W3 (frm_ft HF.out r3.fr) (r3.row.base HF.out.size)
        refine hK.out _ _ (HS.out _ r3.fr) (fun hHeld => ?_)
        clear hK K
        refine anyX_take [18, 17, 16] (i := 16) (v := ?v13) rfl (by kernel_rfl) (by kernel_rfl) (by kernel_rfl) (by kernel_rfl) (by kernel_rfl) (by kernel_rfl) (by kernel_rfl) (fun _ _ _ h => h) (Or.inl ⟨by rfl, ?hy13⟩) (by assumption) ?rest13
        case hy13 => (intro w hSw; (try dsimp only at hSw); go_simp; try with_reducible rfl)
        try simp only [Act.put, List.getElem_toArray, List.getElem_cons_zero, List.getElem_cons_succ, List.setIfInBounds_toArray, List.set_cons_zero, List.set_cons_succ]
        refine anyX_take [18, 17] (i := 17) (v := ?v14) rfl (by kernel_rfl) (by kernel_rfl) (by kernel_rfl) (by kernel_rfl) (by kernel_rfl) (by kernel_rfl) (by kernel_rfl) (fun _ _ _ h => h) (Or.inl ⟨by rfl, ?hy14⟩) (by assumption) ?rest14
        case hy14 => (intro w hSw; (try dsimp only at hSw); go_simp; try with_reducible rfl)
        try simp only [Act.put, List.getElem_toArray, List.getElem_cons_zero, List.getElem_cons_succ, List.setIfInBounds_toArray, List.set_cons_zero, List.set_cons_succ]
        refine anyX_ready (rs := [18]) (by kernel_rfl) (by simp) ?_
        refine AllX.last rfl rfl (fun K hK => ?_)
        go_simp
        refine hK.out _ _ ?_
        clear hK K
        refine anyX_done (by kernel_rfl) ?_ _
        clear hHeld
        go_wp2_with fail
        go_ret2
        exact ⟨rfl, _, hfin, hfrm⟩
      refine AllX.cons rfl rfl (fun K hK => ?_) AllX.nil
      go_simp
      have rr := TSt.one (x := ⟨t, num, x⟩) r1
      have uu := OneT.one (x := ⟨t, num, x⟩) r1
      simp only [thC] at rr uu
      generalize hW : W1.alloc (.cells #[.int .u64 (t : Int), .int .u64 (num : Int), .int .i64 x] 43) = W1b at rr uu ⊢
      obtain ⟨g10, hg10⟩ : ∃ g, g = W1.heap.size := ⟨_, rfl⟩
      rw [← hg10] at uu ⊢
      clear hg10 hW
      refine hK.out _ _ (HS.out _ rr.fr) (fun hHeld => ?_)
      clear hK K
      refine anyX_ready (rs := [6]) (by kernel_rfl) (by simp) ?_
      refine AllX.cons rfl rfl (fun K hK => ?_) AllX.nil
      refine step_appT isR rfl (.tmp 19) (.tmp 23) rfl _ _ _ 0 _ [] rfl rr.row A n c R rfl ((HO.out.frm0 (frm_ft HF.out rr.fr)).src) (n) (by omega) (by omega) rr.fr.size ?_
      intro A2 c2 W2 q2 f2 o2
      have r2 := rr.app q2 f2
      have u2 := uu.app f2 o2
      clear q2 f2 o2
      refine hK.out _ _ (HS.out _ r2.fr) (fun hHeld => ?_)
      clear hK K
      refine anyX_ready (rs := [15]) (by kernel_rfl) (by simp) ?_
      refine AllX.cons rfl rfl (fun K hK => ?_) AllX.nil
      refine step_appT isR rfl (.tmp 24) (.tmp 32) rfl _ _ A2 n c2 R rfl r2.row (some ⟨g10, 0, none⟩) 1 1 [⟨t, num, x⟩] rfl (SrcT.one u2.blk) (n + 1) (by omega) (by omega) r2.fr.size ?_
      intro A3 c3 W3 q2 f2 o2
      have r3 := r2.app q2 f2
      clear q2 f2 o2
      obtain ⟨k1, z1, k2, z2, k3, hfin, hfrm⟩ := FIN.out A3 c3 W3 (frm_ft HF.out r3.fr) (r3.row.base HF.out.size)
      refine hK.out _ _ (HS.out _ r3.fr) (fun hHeld => ?_)
      clear hK K
      refine anyX_take [18, 17, 16] (i := 16) (v := ?v15) rfl (by kernel_rfl) (by kernel_rfl) (by kernel_rfl) (by kernel_rfl) (by kernel_rfl) (by kernel_rfl) (by kernel_rfl) (fun _ _ _ h => h) (Or.inl ⟨by rfl, ?hy15⟩) (by assumption) ?rest15
      case hy15 => (intro w hSw; (try dsimp only at hSw); go_simp; try with_reducible rfl)
      try simp only [Act.put, List.getElem_toArray, List.getElem_cons_zero, List.getElem_cons_succ, List.setIfInBounds_toArray, List.set_cons_zero, List.set_cons_succ]
      refine anyX_take [18, 17] (i := 17) (v := ?v16) rfl (by kernel_rfl) (by kernel_rfl) (by kernel_rfl) (by kernel_rfl) (by kernel_rfl) (by kernel_rfl) (by kernel_rfl) (fun _ _ _ h => h) (Or.inl ⟨by rfl, ?hy16⟩) (by assumption) ?rest16
      case hy16 => (intro w hSw; (try dsimp only at hSw); go_simp; try with_reducible rfl)
      try simp only [Act.put, List.getElem_toArray, List.getElem_cons_zero, List.getElem_cons_succ, List.setIfInBounds_toArray, List.set_cons_zero, List.set_cons_succ]
      refine anyX_ready (rs := [18]) (by kernel_rfl) (by simp) ?_
      refine AllX.last rfl rfl (fun K hK => ?_)
      go_simp
      refine hK.out _ _ ?_
      clear hK K
      refine anyX_done (by kernel_rfl) ?_ _
      clear hHeld
      go_wp2_with fail
      go_ret2
      exact ⟨rfl, _, hfin, hfrm⟩
    refine AllX.cons rfl rfl (fun K hK => ?_) AllX.nil
    go_simp
    have u0 := Blk.new W0 43 #[.int .u64 (t : Int), .int .u64 (num : Int), .int .i64 x]
    have fr_V0 : Frm (fun _ => False) wr (W0.alloc (.cells #[.int .u64 (t : Int), .int .u64 (num : Int), .int .i64 x] 43)) := frm_ft fr_W0 (Frm.alloc _ _ _)
    generalize hW : W0.alloc (.cells #[.int .u64 (t : Int), .int .u64 (num : Int), .int .i64 x] 43) = V0 at u0 fr_V0 ⊢
    obtain ⟨g10, hg10⟩ : ∃ g, g = W0.heap.size := ⟨_, rfl⟩
    rw [← hg10] at u0 ⊢
    clear hg10 hW
    refine hK.out _ _ (HS.out _ fr_V0) (fun hHeld => ?_)
    clear hK K
    refine anyX_ready (rs := [1]) (by kernel_rfl) (by simp) ?_
    refine AllX.cons rfl rfl (fun K hK => ?_) AllX.nil
    go_simp
    have r1 := TSt.made fr_V0
    have u1 := OneT.made (x := ⟨t, num, x⟩) u0
    generalize hW : V0.alloc (.cells #[] 43) = V1 at r1 u1 ⊢
    refine hK.out _ _ (HS.out _ r1.fr) (fun hHeld => ?_)
    clear hK K
    refine anyX_ready (rs := [6]) (by kernel_rfl) (by simp) ?_
    refine AllX.cons rfl rfl (fun K hK => ?_) AllX.nil
    refine step_appT isR rfl (.tmp 19) (.tmp 23) rfl _ _ _ 0 _ [] rfl r1.row A n c R rfl ((HO.out.frm0 (frm_ft HF.out r1.fr)).src) (n) (by omega) (by omega) r1.fr.size ?_
    intro A2 c2 W2 q2 f2 o2
    have r2 := r1.app q2 f2
    have u2 := u1.app f2 o2
    clear q2 f2 o2
    refine hK.out _ _ (HS.out _ r2.fr) (fun hHeld => ?_)
    clear hK K
    refine anyX_ready (rs := [15]) (by kernel_rfl) (by simp) ?_
    refine AllX.cons rfl rfl (fun K hK => ?_) AllX.nil
    refine step_appT isR rfl (.tmp 24) (.tmp 32) rfl _ _ A2 n c2 R rfl r2.row (some ⟨g10, 0, none⟩) 1 1 [⟨t, num, x⟩] rfl (SrcT.one u2.blk) (n + 1) (by omega) (by omega) r2.fr.size ?_
    intro A3 c3 W3 q2 f2 o2
    have r3 := r2.app q2 f2
    clear q2 f2 o2
    obtain ⟨k1, z1, k2, z2, k3, hfin, hfrm⟩ := FIN.out A3 c3 W3 (frm_ft HF.out r3.fr) (r3.row.base HF.out.size)
    refine hK.out _ _ (HS.out _ r3.fr) (fun hHeld => ?_)
    clear hK K
    refine anyX_take [18, 17, 16] (i := 16) (v := ?v17) rfl (by kernel_rfl) (by kernel_rfl) (by kernel_rfl) (by kernel_rfl) (by kernel_rfl) (by kernel_rfl) (by kernel_rfl) (fun _ _ _ h => h) (Or.inl ⟨by rfl, ?hy17⟩) (by assumption) ?rest17
    case hy17 => (intro w hSw; (try dsimp only at hSw); go_simp; try with_reducible rfl)
    try simp only [Act.put, List.getElem_toArray, List.getElem_cons_zero, List.getElem_cons_succ, List.setIfInBounds_toArray, List.set_cons_zero, List.set_cons_succ]
    refine anyX_take [18, 17] (i := 17) (v := ?v18) rfl (by kernel_rfl) (by kernel_rfl) (by kernel_rfl) (by kernel_rfl) (by kernel_rfl) (by kernel_rfl) (by kernel_rfl) (fun _ _ _ h => h) (Or.inl ⟨by rfl, ?hy18⟩) (by assumption) ?rest18
    case hy18 => (intro w hSw; (try dsimp only at hSw); go_simp; try with_reducible rfl)
    try simp only [Act.put, List.getElem_toArray, List.getElem_cons_zero, List.getElem_cons_succ, List.setIfInBounds_toArray, List.set_cons_zero, List.set_cons_succ]
    refine anyX_ready (rs := [18]) (by kernel_rfl) (by simp) ?_
    refine AllX.last rfl rfl (fun K hK => ?_)
    go_simp
    refine hK.out _ _ ?_
    clear hK K
    refine anyX_done (by kernel_rfl) ?_ _
    clear hHeld
    go_wp2_with fail
    go_ret2
    exact ⟨rfl, _, hfin, hfrm⟩
theorem aggT : Agg Try.prog 43 3 := Agg.of (by kernel_rfl) (by kernel_rfl)
theorem zeroT : (Try.prog.info? 43).map (fun i => i.zero) = some (some (.agg (thC .i64 default).toArray)) := by kernel_rfl
set_option maxHeartbeats 8000000 in
set_option maxRecDepth 100000 in
theorem rpop_any (B g : Nat) (R : List Th) (q : Qu) (now : Nat) (w : World) (h : RAt w B g R q) (hs : R.length ≤ 50000) :
    Calls Try.prog 15 #[.pointer (some ⟨g, 0, none⟩), .int .u64 (now : Int)] w fun e w' => e = .returned (.tuple (hI.popV q now)) ∧ ∃ R', RAt w' B g R' (q.pop now) ∧ Frm (fun k => k = g) w w' := by
  have HFI := hide (rfirst_any B g R q w h hs)
  have HH := hide h
  obtain ⟨hBg, A, n, c, hb, ho, hl, hok⟩ := h
  have hn := ho.len
  cases hS : q.S with
  | nil =>
    have hd : q.due now = none := by unfold Qu.due; rw [hS]; rfl
    rw [hS] at hl
    obtain rfl := hl.none
    unfold hI.popV
    rw [Qu.due_none hd, hd]
    simp only [List.length_nil, minAt, minV] at HFI
    simp only
    have hm1 : (-1 : Int) < 0 := by decide
    clear hd hS hs hb ho hl hok hn
    go_enter Try.func15, Try.ntmps15
    go_wp2_with (go_at_call 17; refine HFI.out.mono ?_; rintro e w2 ⟨rfl, hF2⟩)
    go_ret3
    exact ⟨rfl, _, HH.out.frm0 hF2, hF2.mono (fun _ _ h => h.elim)⟩
  | cons s S =>
    rw [hS] at hl
    obtain ⟨k, hk, hkR, hks⟩ := hl.some
    rw [hk] at HFI
    simp only [minV] at HFI
    rcases ho.row with ⟨_, h0, _, _⟩ | ⟨r, rfl, hBr, hr⟩
    · omega
    · have hkn : (k : Int) < (n : Int) := by omega
      have hk0 : ¬ (k : Int) < 0 := by omega
      have HC : Hid (∀ W, Frm (fun _ => False) w W → W.cell? ⟨g, 1, none⟩ = some (.slice (some ⟨r, 0, none⟩) n c) ∧ W.cell? ⟨r, k * 3, none⟩ = some (.int .u64 (s.t : Int))) := fun W f =>
        ⟨(hb.frm f (fun h => h)).cell 1, by have := ((hr.frm0 f).cells k hkR).1; rwa [hks] at this⟩
      by_cases ht : now < s.t
      · have ht' : (now : Int) < (s.t : Int) := by omega
        have hd : q.due now = none := by unfold Qu.due; rw [hS]; simp [ht]
        unfold hI.popV
        rw [Qu.due_none hd, hd]
        simp only
        clear hd hS hs hb ho hl hok hn hk hr hkR hks
        go_enter Try.func15, Try.ntmps15
        go_wp2_with (go_at_call 17; refine HFI.out.mono ?_; rintro e w2 ⟨rfl, hF2⟩; obtain ⟨c1, c2⟩ := HC.out w2 hF2)
        go_ret3
        exact ⟨rfl, _, HH.out.frm0 hF2, hF2.mono (fun _ _ h => h.elim)⟩
      · have ht' : ¬ (now : Int) < (s.t : Int) := by omega
        have hd : q.due now = some s := by unfold Qu.due; rw [hS]; simp [ht]
        have hq := (Qu.due_cons hd).2.2
        have hok2 := hok.pop now
        unfold hI.popV
        rw [hq, hd]
        rw [hq] at hok2
        simp only
        rw [hS] at hok2 ⊢
        obtain ⟨m, rfl⟩ : ∃ m, n = m + 1 := ⟨n - 1, by omega⟩
        have hkm : k ≤ m := by omega
        have hkle : k ≤ m + 1 := by omega
        have hm5 : m ≤ 50000 := by omega
        have hl2 := hl.pop hkR hks
        obtain ⟨most, hmo⟩ : ∃ m, m = q.most := ⟨_, rfl⟩
        obtain ⟨num, hu⟩ : ∃ m, m = q.num := ⟨_, rfl⟩
        rw [← hmo, ← hu] at hb hok2 ⊢
        have hcap : m + 1 ≤ c := by have := hr.cap.1; omega
        have hcut0 : ∀ w, (Instr.sliceAt 39 (.slice (some ⟨r, 0, none⟩) (m + 1) c) none (some (.int .i64 (k : Int))) none).run Try.prog w = .ok (.slice (some ⟨r, 0, none⟩) k c) w := tcut0 isR (some ⟨r, 0, none⟩) (m + 1) c k (by omega)
        obtain ⟨X1, hX1⟩ : ∃ X1, X1 = (if c = k + 1 then some (⟨r, 0, none⟩ : Addr) else (some (⟨r, 0, none⟩ : Addr)).map (·.add ((k + 1) * 3))) := ⟨_, rfl⟩
        have hcut1 : ∀ w, (Instr.sliceAt 39 (.slice (some ⟨r, 0, none⟩) (m + 1) c) (some (.int .i64 (IntKind.i64.wrap ((k : Int) + 1)))) none none).run Try.prog w = .ok (.slice X1 (m - k) (c - (k + 1))) w := by
          intro w
          have := tcut1 isR (some ⟨r, 0, none⟩) (m + 1) c (k + 1) (by omega) w
          rw [hX1, show IntKind.i64.wrap ((k : Int) + 1) = ((k + 1 : Nat) : Int) by rw [IntKind.wrap_i64]; omega]
          rw [show m + 1 - (k + 1) = m - k by omega] at this
          exact this
        have HX1 : Hid (∀ W, Frm (fun _ => False) w W → SrcT W .i64 X1 (m - k) (c - (k + 1)) (R.drop (k + 1))) := fun W f => by
          have := (ho.frm0 f).src1 (k + 1) (by omega)
          rw [hX1]
          rwa [show m + 1 - (k + 1) = m - k by omega] at this
        clear hX1
        have HRW : Hid (∀ W, Frm (fun _ => False) w W → RowB W 43 .i64 r c R) := fun W f => hr.frm0 f
        have HB := hide hb
        have HO := hide ho
        have HKR := hide hkR
        have HKS := hide hks
        have HOK := hide hok2
        have HL2 := hide hl2
        clear hd hq hS hs hb ho hl hok hn hk hr hkR hks hok2 hl2 hmo hu HH
        go_enter Try.func15, Try.ntmps15
        go_wp2_with (first
          | (go_at_call 17; refine HFI.out.mono ?_; rintro e w2 ⟨rfl, hF2⟩; obtain ⟨c1, c2⟩ := HC.out w2 hF2; have HR2 := hide (HRW.out w2 hF2); have HF2 := hide hF2; clear hF2)
          | (with_reducible refine wpl_loadT isR (op := ⟨some 31, _, _, _, _, _⟩) rfl (.tmp 30) rfl r k c R rfl HR2.out HKR.out ?_; rw [HKS.out])
          | ((with_reducible refine wpl_alloca (op := ⟨some 8, _, _, _, _, _⟩) rfl _ rfl _ zeroT ?_); intro gx w5 hB5 hs5 hF5)
          | ((refine wpl_storea aggT rfl (.tmp 8) (.tmp 31) rfl gx (thC .i64 s) rfl rfl _ _ hB5 (thC_length s) rfl (thC_one s) ?_); intro wr hB6 hF6; have HF := hide (frm_ft HF2.out (frm_fs w2 hF5 hF6 (fun i e => e ▸ hs5))); have HBX := hide hB6; have HGX := hide hs5; clear c1 c2 hB5 hF5 hF6 hB6))
        have HS : Hid (∀ W', Frm (fun _ => False) wr W' → W'.cell? ⟨g, 1, none⟩ = some (.slice (some ⟨r, 0, none⟩) (m + 1) c)) := fun W' f => (HC.out W' (frm_ft HF.out f)).1
        have hgx : gx ≠ g := by have := HB.out.lt; have := HF2.out.size; have := HGX.out; omega
        have FIN : Hid (∀ A' c' W, Frm (fun _ => False) wr W → ROw W wr.heap.size A' m c' (R.take k ++ R.drop (k + 1)) →
            W.cell? ⟨g, 1, none⟩ = some (.slice (some ⟨r, 0, none⟩) (m + 1) c) ∧ W.frozen? ⟨g, 1, none⟩ = false ∧ (W.setCell ⟨g, 1, none⟩ (.slice A' m c')).cell? ⟨gx, 0, none⟩ = some (.int .u64 (s.t : Int)) ∧ (W.setCell ⟨g, 1, none⟩ (.slice A' m c')).cell? ⟨gx, 2, none⟩ = some (.int .i64 s.x) ∧
            RAt (W.setCell ⟨g, 1, none⟩ (.slice A' m c')) B g (R.take k ++ R.drop (k + 1)) ⟨most, num, S⟩ ∧ Frm (fun k => k = g) w (W.setCell ⟨g, 1, none⟩ (.slice A' m c'))) := by
          intro A' c' W f o
          have b1 := HB.out.frm (frm_ft HF.out f) (fun h => h)
          have b2 := b1.set 1 (.slice A' m c')
          have f2 : Frm (fun k => k = g) W (W.setCell ⟨g, 1, none⟩ (.slice A' m c')) := Frm.setCell _ _ _ _ rfl
          have hgl := HB.out.lt
          have hsz := HF.out.size
          have bx := (HBX.out.frm f (fun h => h)).frm f2 hgx
          refine ⟨b1.cell 1, b1.frozen 1, bx.cell 0, bx.cell 2, ⟨hBg, A', m, c', b2, (o.frm f2 (fun k hk e => ?_)).base (by omega), HL2.out, HOK.out⟩, ((frm_ft HF.out f).mono (T := fun k => k = g) (fun _ _ h => h.elim)).trans f2 (fun _ _ h => h)⟩
          have := (o.ge k hk).1
          omega
        clear HRW HR2 HB HBX HGX HL2 HOK HFI
        refine wp_region_x (S := fun W => W.cell? ⟨g, 1, none⟩ = some (.slice (some ⟨r, 0, none⟩) (m + 1) c)) [19] (by kernel_rfl) (HS.out _ ((Frm.refl _ _).drew)) ?_
        intro hHeld
        obtain ⟨W0, hW0⟩ : ∃ W', W' = wr.drew := ⟨_, rfl⟩
        have fr_W0 : Frm (fun _ => False) wr W0 := by rw [hW0]; exact (Frm.refl _ _).drew
        rw [← hW0] at hHeld ⊢
        clear hW0
        refine anyX_take [19, 18, 17, 0] (i := 0) (v := ?v19) rfl (by kernel_rfl) (by kernel_rfl) (by kernel_rfl) (by kernel_rfl) (by kernel_rfl) (by kernel_rfl) (by kernel_rfl) (fun _ _ _ h => h) (Or.inl ⟨by rfl, ?hy19⟩) (by assumption) ?rest19
        case hy19 => (intro w hSw; (try dsimp only at hSw); go_simp; try with_reducible rfl)
        try simp only [Act.put, List.getElem_toArray, List.getElem_cons_zero, List.getElem_cons_succ, List.setIfInBounds_toArray, List.set_cons_zero, List.set_cons_succ]
        refine anyX_take [19, 16, 8, 7, 5, 4, 3, 2] (i := 2) (v := ?v20) rfl (by kernel_rfl) (by kernel_rfl) (by kernel_rfl) (by kernel_rfl) (by kernel_rfl) (by kernel_rfl) (by kernel_rfl) (fun _ _ _ h => h) (Or.inl ⟨by rfl, ?hy20⟩) (by assumption) ?rest20
        case hy20 => (intro w hSw; (try dsimp only at hSw); go_simp; try with_reducible rfl)
        try simp only [Act.put, List.getElem_toArray, List.getElem_cons_zero, List.getElem_cons_succ, List.setIfInBounds_toArray, List.set_cons_zero, List.set_cons_succ]
        refine anyX_take [19, 16, 8, 7, 5, 4, 3] (i := 3) (v := ?v21) rfl (by kernel_rfl) (by kernel_rfl) (by kernel_rfl) (by kernel_rfl) (by kernel_rfl) (by kernel_rfl) (by kernel_rfl) (fun _ _ _ h => h) (Or.inl ⟨by rfl, ?hy21⟩) (by assumption) ?rest21
        case hy21 => (intro w hSw; (try dsimp only at hSw); go_simp; try with_reducible rfl)
        try simp only [Act.put, List.getElem_toArray, List.getElem_cons_zero, List.getElem_cons_succ, List.setIfInBounds_toArray, List.set_cons_zero, List.set_cons_succ]
        refine anyX_take [19, 16, 8, 7, 5, 4] (i := 4) (v := ?v22) rfl (by kernel_rfl) (by kernel_rfl) (by kernel_rfl) (by kernel_rfl) (by kernel_rfl) (by kernel_rfl) (by kernel_rfl) (fun _ _ _ h => h) (Or.inl ⟨by rfl, ?hy22⟩) (by assumption) ?rest22
        case hy22 => (intro w hSw; (try dsimp only at hSw); go_simp; try with_reducible rfl)
        try simp only [Act.put, List.getElem_toArray, List.getElem_cons_zero, List.getElem_cons_succ, List.setIfInBounds_toArray, List.set_cons_zero, List.set_cons_succ]
        refine anyX_take [19, 16, 8, 7, 5] (i := 5) (v := ?v23) rfl (by kernel_rfl) (by kernel_rfl) (by kernel_rfl) (by kernel_rfl) (by kernel_rfl) (by kernel_rfl) (by kernel_rfl) (fun _ _ _ h => h) (Or.inl ⟨by rfl, ?hy23⟩) (by assumption) ?rest23
        case hy23 => (intro w hSw; (try dsimp only at hSw); go_simp; try with_reducible rfl)
        try simp only [Act.put, List.getElem_toArray, List.getElem_cons_zero, List.getElem_cons_succ, List.setIfInBounds_toArray, List.set_cons_zero, List.set_cons_succ]
        refine anyX_take [19, 16, 8, 7, 6] (i := 6) (v := ?v24) rfl (by kernel_rfl) (by kernel_rfl) (by kernel_rfl) (by kernel_rfl) (by kernel_rfl) (by kernel_rfl) (by kernel_rfl) (fun _ _ _ h => h) (Or.inl ⟨by rfl, ?hy24⟩) (by assumption) ?rest24
        case hy24 => (intro w hSw; (try dsimp only at hSw); go_simp; try with_reducible rfl)
        try simp only [Act.put, List.getElem_toArray, List.getElem_cons_zero, List.getElem_cons_succ, List.setIfInBounds_toArray, List.set_cons_zero, List.set_cons_succ]
        refine anyX_take [19, 16, 8, 7] (i := 7) (v := ?v25) rfl (by kernel_rfl) (by kernel_rfl) (by kernel_rfl) (by kernel_rfl) (by kernel_rfl) (by kernel_rfl) (by kernel_rfl) (fun _ _ _ h => h) (Or.inl ⟨by rfl, ?hy25⟩) (by assumption) ?rest25
        case hy25 => (intro w hSw; (try dsimp only at hSw); go_simp; try with_reducible rfl)
        try simp only [Act.put, List.getElem_toArray, List.getElem_cons_zero, List.getElem_cons_succ, List.setIfInBounds_toArray, List.set_cons_zero, List.set_cons_succ]
        refine anyX_take [19, 16, 15, 12, 11, 10, 9] (i := 9) (v := ?v26) rfl (by kernel_rfl) (by kernel_rfl) (by kernel_rfl) (by kernel_rfl) (by kernel_rfl) (by kernel_rfl) (by kernel_rfl) (fun _ _ _ h => h) (Or.inl ⟨by rfl, ?hy26⟩) (by assumption) ?rest26
        case hy26 => (intro w hSw; (try dsimp only at hSw); go_simp; try with_reducible rfl)
        try simp only [Act.put, List.getElem_toArray, List.getElem_cons_zero, List.getElem_cons_succ, List.setIfInBounds_toArray, List.set_cons_zero, List.set_cons_succ]
        refine anyX_take [19, 16, 15, 12, 11, 10] (i := 10) (v := ?v27) rfl (by kernel_rfl) (by kernel_rfl) (by kernel_rfl) (by kernel_rfl) (by kernel_rfl) (by kernel_rfl) (by kernel_rfl) (fun _ _ _ h => h) (Or.inl ⟨by rfl, ?hy27⟩) (by assumption) ?rest27
        case hy27 => (intro w hSw; (try dsimp only at hSw); go_simp; try with_reducible rfl)
        try simp only [Act.put, List.getElem_toArray, List.getElem_cons_zero, List.getElem_cons_succ, List.setIfInBounds_toArray, List.set_cons_zero, List.set_cons_succ]
        refine anyX_take [19, 16, 15, 12, 11] (i := 11) (v := ?v28) rfl (by kernel_rfl) (by kernel_rfl) (by kernel_rfl) (by kernel_rfl) (by kernel_rfl) (by kernel_rfl) (by kernel_rfl) (fun _ _ _ h => h) (Or.inl ⟨by rfl, ?hy28⟩) (by assumption) ?rest28
        case hy28 => (intro w hSw; (try dsimp only at hSw); go_simp; try with_reducible rfl)
        try simp only [Act.put, List.getElem_toArray, List.getElem_cons_zero, List.getElem_cons_succ, List.setIfInBounds_toArray, List.set_cons_zero, List.set_cons_succ]
        refine anyX_take [19, 16, 15, 12] (i := 12) (v := ?v29) rfl (by kernel_rfl) (by kernel_rfl) (by kernel_rfl) (by kernel_rfl) (by kernel_rfl) (by kernel_rfl) (by kernel_rfl) (fun _ _ _ h => h) (Or.inl ⟨by rfl, ?hy29⟩) (by assumption) ?rest29
        case hy29 => (intro w hSw; (try dsimp only at hSw); go_simp; try with_reducible rfl)
        try simp only [Act.put, List.getElem_toArray, List.getElem_cons_zero, List.getElem_cons_succ, List.setIfInBounds_toArray, List.set_cons_zero, List.set_cons_succ]
        refine anyX_take [19, 16, 15, 14, 13] (i := 13) (v := ?v30) rfl (by kernel_rfl) (by kernel_rfl) (by kernel_rfl) (by kernel_rfl) (by kernel_rfl) (by kernel_rfl) (by kernel_rfl) (fun _ _ _ h => h) (Or.inl ⟨by rfl, ?hy30⟩) (by assumption) ?rest30
        case hy30 => (intro w hSw; (try dsimp only at hSw); go_simp; try with_reducible rfl)
        try simp only [Act.put, List.getElem_toArray, List.getElem_cons_zero, List.getElem_cons_succ, List.setIfInBounds_toArray, List.set_cons_zero, List.set_cons_succ]
        refine anyX_take [19, 16, 15, 14] (i := 14) (v := ?v31) rfl (by kernel_rfl) (by kernel_rfl) (by kernel_rfl) (by kernel_rfl) (by kernel_rfl) (by kernel_rfl) (by kernel_rfl) (fun _ _ _ h => h) (Or.inl ⟨by rfl, ?hy31⟩) (by assumption) ?rest31
        case hy31 => (intro w hSw; (try dsimp only at hSw); go_simp; try with_reducible rfl)
        try simp only [Act.put, List.getElem_toArray, List.getElem_cons_zero, List.getElem_cons_succ, List.setIfInBounds_toArray, List.set_cons_zero, List.set_cons_succ]
        refine anyX_take [19, 16, 15] (i := 15) (v := ?v32) rfl (by kernel_rfl) (by kernel_rfl) (by kernel_rfl) (by kernel_rfl) (by kernel_rfl) (by kernel_rfl) (by kernel_rfl) (fun _ _ _ h => h) (Or.inl ⟨by rfl, ?hy32⟩) (by assumption) ?rest32
        case hy32 => (intro w hSw; (try dsimp only at hSw); go_simp; try with_reducible rfl)
        try simp only [Act.put, List.getElem_toArray, List.getElem_cons_zero, List.getElem_cons_succ, List.setIfInBounds_toArray, List.set_cons_zero, List.set_cons_succ]
        refine anyX_ready (rs := [1]) (by kernel_rfl) (by simp) ?_
        refine AllX.cons rfl rfl (fun K hK => ?_) AllX.nil
        go_simp
        have r1 := TSt.made fr_W0
        generalize hW : W0.alloc (.cells #[] 43) = W1 at r1 ⊢
        refine hK.out _ _ (HS.out _ r1.fr) (fun hHeld => ?_)
        clear hK K
        refine anyX_ready (rs := [8]) (by kernel_rfl) (by simp) ?_
        refine AllX.cons rfl rfl (fun K hK => ?_) AllX.nil
        refine step_appT isR rfl (.tmp 33) (.tmp 39) rfl _ _ _ 0 _ [] rfl r1.row (some ⟨r, 0, none⟩) k c (R.take k) rfl ((HO.out.frm0 (frm_ft HF.out r1.fr)).src0 k hkle) (k) (by omega) (by omega) r1.fr.size ?_
        intro A2 c2 W2 q2 f2 o2
        have r2 := r1.app q2 f2
        clear q2 f2 o2
        refine hK.out _ _ (HS.out _ r2.fr) (fun hHeld => ?_)
        clear hK K
        refine anyX_ready (rs := [16]) (by kernel_rfl) (by simp) ?_
        refine AllX.cons rfl rfl (fun K hK => ?_) AllX.nil
        refine step_appT isR rfl (.tmp 40) (.tmp 47) rfl _ _ A2 k c2 (R.take k) rfl r2.row X1 (m - k) (c - (k + 1)) (R.drop (k + 1)) rfl (HX1.out _ (frm_ft HF.out r2.fr)) (m) (by omega) (by omega) r2.fr.size ?_
        intro A3 c3 W3 q2 f2 o2
        have r3 := r2.app q2 f2
        clear q2 f2 o2
        obtain ⟨k1, z1, k2, k3, hfin, hfrm⟩ := FIN.out A3 c3 W3 r3.fr r3.row
        refine hK.out _ _ (HS.out _ r3.fr) (fun hHeld => ?_)
        clear hK K
        refine anyX_take [19, 18, 17] (i := 17) (v := ?v33) rfl (by kernel_rfl) (by kernel_rfl) (by kernel_rfl) (by kernel_rfl) (by kernel_rfl) (by kernel_rfl) (by kernel_rfl) (fun _ _ _ h => h) (Or.inl ⟨by rfl, ?hy33⟩) (by assumption) ?rest33
        case hy33 => (intro w hSw; (try dsimp only at hSw); go_simp; try with_reducible rfl)
        try simp only [Act.put, List.getElem_toArray, List.getElem_cons_zero, List.getElem_cons_succ, List.setIfInBounds_toArray, List.set_cons_zero, List.set_cons_succ]
        refine anyX_take [19, 18] (i := 18) (v := ?v34) rfl (by kernel_rfl) (by kernel_rfl) (by kernel_rfl) (by kernel_rfl) (by kernel_rfl) (by kernel_rfl) (by kernel_rfl) (fun _ _ _ h => h) (Or.inl ⟨by rfl, ?hy34⟩) (by assumption) ?rest34
        case hy34 => (intro w hSw; (try dsimp only at hSw); go_simp; try with_reducible rfl)
        try simp only [Act.put, List.getElem_toArray, List.getElem_cons_zero, List.getElem_cons_succ, List.setIfInBounds_toArray, List.set_cons_zero, List.set_cons_succ]
        refine anyX_ready (rs := [19]) (by kernel_rfl) (by simp) ?_
        refine AllX.last rfl rfl (fun K hK => ?_)
        go_simp
        refine hK.out _ _ ?_
        clear hK K
        refine anyX_done (by kernel_rfl) ?_ _
        clear hHeld
        go_wp2_with fail
        go_quiet (fail)
        go_wp2_with fail
        go_ret3
        exact ⟨rfl, _, hfin.frm0 ((Frm.refl _ _).drewN _), hfrm.drewN _⟩
end Go.Proofs.Ytjpmicjlbkdcbaa
