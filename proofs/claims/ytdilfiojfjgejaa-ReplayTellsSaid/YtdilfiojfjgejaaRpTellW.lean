/-
  ReplayTells' walk: whatever comes in, the law returns true, and what lay lies as it lay.
-/
import Derived.Test.YtdilfiojfjgejaaRpR3
import Derived.Test.YtdilfiojfjgejaaQuietC
namespace Go.Proofs.Ytdilfiojfjgejaa
set_option linter.unusedVariables false
set_option linter.unusedSimpArgs false
open Go.RowKit

theorem quiet_val {P : Program} {C : World → Prop} {o : Oper} {a : Act} {ops : Array Oper} {K : Act → Prop} (v : Value) (hv : ∀ w, C w → (execOp a.eval o).run P w = .ok (.value v) w) (h : K (a.put o.dst v)) (hw : Region.wanted o (yielded ops a.tmps) = true) :
    if Region.wanted o (yielded ops a.tmps) = true then o.quiet P a C K else K (a.put o.dst undef) := by
  rw [if_pos hw]
  refine ⟨v, fun w hc => ?_, h⟩
  unfold Oper.quietAt
  rw [hv w hc]
  exact ⟨rfl, rfl⟩
theorem RAt.floC {w : World} {B g : Nat} {t : T} (h : RAt w B g t) : w.cell? ⟨g, 2, none⟩ = some (.int .u32 (t.floor : Int)) := by
  obtain ⟨h1, A, n, c, hb, ho⟩ := h
  exact hb.cell 2
/-- Tags, and the document's own. -/
structure T2 (w W : World) (ga sa ca gb : Nat) (ta tb : T) : Prop where
  a : LT w W ga sa ca ta
  b : RAt W w.heap.size gb tb
/-- Blocks of steps stay. -/
def KeptS (W W' : World) : Prop := ∀ (g : Nat) (cs : Array Value), Blk W g 32 cs → Blk W' g 32 cs
section
variable {w W W' : World} {ga sa ca gb : Nat} {ta tb : T}
theorem T2.frm0 (h : T2 w W ga sa ca gb ta tb) (f : Frm (fun _ => False) W W') : T2 w W' ga sa ca gb ta tb := ⟨h.a.frm0 f, h.b.frm0 f⟩
theorem LT.off (h : LT w W ga sa ca ta) {gx : Nat} {ty : TypeId} {cs : Array Value} (hb : Blk W gx ty cs) (h1 : 48 ≠ ty) : ¬ Of ga sa ca gx := by
  rintro (e | e | e)
  · exact h.at_.blk.ne hb h1 e.symm
  · exact h.at_.seen.ne hb e.symm
  · obtain ⟨C, hC, _⟩ := h.at_.count
    exact hC.ne hb e.symm
theorem RAt.frmS {S : Nat → Prop} {B : Nat} (h : RAt W B gb tb) (f : Frm S W W') (hS : ∀ g ty cs, Blk W g ty cs → (ty = 40 ∨ ty = 53) → ¬ S g) : RAt W' B gb tb := by
  obtain ⟨h1, A, n, c, hb, ho⟩ := h
  refine ⟨h1, A, n, c, hb.frm f (hS _ _ _ hb (.inl rfl)), ho.frm f (fun k hk => ?_)⟩
  rcases ho.row with ⟨rfl, _⟩ | ⟨r, rfl, hB, rest, hr, _⟩
  · cases hk
  · have : r = k := Option.some.inj hk
    subst this
    exact hS _ _ _ hr (.inr rfl)
theorem T2.turnA (h : T2 w W ga sa ca gb ta tb) {ta' : T} (h1 : LT w W' ga sa ca ta') (f : Frm (Of ga sa ca) W W') : T2 w W' ga sa ca gb ta' tb ∧ KeptS W W' :=
  ⟨⟨h1, h.b.frmS f (fun g ty cs hb ht => h.a.off hb (by rcases ht with rfl | rfl <;> decide))⟩, fun g cs hb => hb.frm f (h.a.off hb (by decide))⟩
theorem LT.nb (h : LT w W ga sa ca ta) {gx : Nat} {ty : TypeId} {cs : Array Value} (hb : Blk W gx ty cs) (h1 : 48 ≠ ty) (f : Frm (fun k => k = gx) W W') (hg : w.heap.size ≤ gx) : LT w W' ga sa ca ta :=
  h.frm f (fun e => h.off hb h1 (.inl e.symm)) (fun e => h.off hb h1 (.inr (.inl e.symm))) (fun e => h.off hb h1 (.inr (.inr e.symm))) (fun i e => by omega)
theorem T2.turnB (h : T2 w W ga sa ca gb ta tb) {tb' : T} (h1 : RAt W' w.heap.size gb tb') (f : Frm (fun k => k = gb) W W') : T2 w W' ga sa ca gb ta tb' ∧ KeptS W W' := by
  obtain ⟨hB, A, n, c, hb, ho⟩ := h.b
  exact ⟨⟨h.a.nb hb (by decide) f hB, h1⟩, fun g cs hg => hg.frm f (fun e => hb.ne hg (by decide) e.symm)⟩
theorem T2.keepB (h : T2 w W ga sa ca gb ta tb) {gx : Nat} {cs : Array Value} (hb : Blk W gx 32 cs) (f : Frm (fun k => k = gx) W W') (hg : w.heap.size ≤ gx) : T2 w W' ga sa ca gb ta tb :=
  ⟨h.a.nb hb (by decide) f hg, h.b.frmS f (fun g ty cs hb2 ht e => hb2.ne hb (by rcases ht with rfl | rfl <;> decide) e)⟩
theorem T2.new {m : Int} (h : LT w W ga sa ca (newT m)) : Calls Try.prog 10 #[.int .i64 m] W fun e w' => ∃ gb, e = .returned (.pointer (some ⟨gb, 0, none⟩)) ∧ T2 w w' ga sa ca gb (newT m) (newT m) := by
  refine (rnew_any m W).mono ?_
  rintro e w' ⟨gb, rfl, h3, f⟩
  exact ⟨gb, rfl, h.frm0 f, h3.base h.below.size⟩
theorem T2.addA (h : T2 w W ga sa ca gb ta tb) (e : Nat) (x : Tg) (he : e < 4294967296) :
    Calls Try.prog 11 #[.pointer (some ⟨ga, 0, none⟩), .int .u32 (e : Int), .agg (tgC x).toArray] W fun r w' => r = .returned (.int .i64 (ta.why e x : Int)) ∧ T2 w w' ga sa ca gb (ta.add e x) tb ∧ KeptS W w' :=
  (h.a.add e x he).mono fun r w' ⟨hr, h1, f⟩ => ⟨hr, h.turnA h1 f⟩
theorem T2.expA (h : T2 w W ga sa ca gb ta tb) (b : Nat) (hb : b < 4294967296) (hn : ta.l.length ≤ 1000000) :
    Calls Try.prog 13 #[.pointer (some ⟨ga, 0, none⟩), .int .u32 (b : Int)] W fun r w' => r = .returned (.int .i64 (ta.gone b : Int)) ∧ T2 w w' ga sa ca gb (ta.exp b) tb ∧ KeptS W w' :=
  (h.a.exp b hb hn).mono fun r w' ⟨hr, h1, f⟩ => ⟨hr, h.turnA h1 f⟩
theorem T2.addB (h : T2 w W ga sa ca gb ta tb) (e : Nat) (x : Tg) (he : e < 4294967296) (hn : tb.l.length ≤ 900000) :
    Calls Try.prog 12 #[.pointer (some ⟨gb, 0, none⟩), .int .u32 (e : Int), .agg (tgC x).toArray] W fun r w' => r = .returned (.int .i64 (tb.why e x : Int)) ∧ T2 w w' ga sa ca gb ta (tb.add e x) ∧ KeptS W w' :=
  (radd_any _ gb tb e x he hn W h.b).mono fun r w' ⟨hr, h1, f⟩ => ⟨hr, h.turnB h1 f⟩
theorem T2.expB (h : T2 w W ga sa ca gb ta tb) (b : Nat) (hb : b < 4294967296) (hn : tb.l.length ≤ 900000) :
    Calls Try.prog 14 #[.pointer (some ⟨gb, 0, none⟩), .int .u32 (b : Int)] W fun r w' => r = .returned (.int .i64 (tb.gone b : Int)) ∧ T2 w w' ga sa ca gb ta (tb.exp b) ∧ KeptS W w' :=
  (rexp_any _ gb tb b hb hn W h.b).mono fun r w' ⟨hr, h1, f⟩ => ⟨hr, h.turnB h1 f⟩
end
/-- What of a step is read. -/
def StX (gx : Nat) (x : Stp) (W : World) : Prop := W.cell? ⟨gx, 1, none⟩ = some (.int .u32 (x.e : Int)) ∧ Blk W gx 32 (stC x).toArray
theorem StX.of {gx : Nat} {x : Stp} {W : World} (h : Blk W gx 32 (stC x).toArray) : StX gx x W := ⟨h.cell 1, h⟩

set_option maxHeartbeats 16000000 in
set_option maxRecDepth 100000 in
theorem tells_walk (m : Int) (A : Option Addr) (len cap : Nat) (l : List Stp) (w : World) (hm : -9223372036854775808 ≤ m ∧ m ≤ 9223372036854775807) (h : SRow w A len l) (hlc : len ≤ cap) (hcm : cap ≤ 9223372036854775807) :
    Calls Try.prog 3 #[.int .i64 m, .slice A len cap] w fun e w' => e = .returned (.bool true) ∧ Below w.heap.size w w' := by
  have H0 := hide h
  have HM := hide hm.2
  clear h hm
  have HSH := hide (fun W (h : Below w.heap.size w W) => shown_from (w := w) (W := W) h)
  go_enter Try.func3, Try.ntmps3
  go_wp2_with (first
    | (go_at_call 8; refine (HSH.out _ (Below.refl _ w)).mono ?_; rintro r w1 ⟨rfl, hb1⟩; have HB1 := hide hb1; clear hb1)
    | (go_at_call 9; refine (LT.new HB1.out m HM.out).mono ?_; rintro r w2 ⟨ga, sa, ca, rfl, h2, _⟩; have HTA := hide h2; clear h2 HB1)
    | (go_at_call 10; refine (T2.new HTA.out).mono ?_; rintro r w3 ⟨gb, rfl, h3⟩; have HT0 := hide h3; clear h3 HTA))
  go_loopw [8, 9, 10] (fun i _ _ wr => ∃ (k : Nat) (t : T), k ≤ Nat.min len 300 ∧ i = .int .i64 (k : Int) ∧ T2 w wr ga sa ca gb t t ∧ t.l.length ≤ k) (fun i _ _ _ => 300 - (intOf i).toNat)
  case atStart => exact ⟨0, _, by omega, rfl, HT0.out, Nat.le_refl _⟩
  case round =>
    clear HT0
    obtain ⟨k, t, hk, rfl, hT, hL⟩ := hrel
    have HT := hide hT
    have hmn : Nat.min len 300 ≤ len := Nat.min_le_left _ _
    have hmx : Nat.min len 300 ≤ 300 := Nat.min_le_right _ _
    clear hT
    by_cases hkn : k < Nat.min len 300
    · have hkl : (k : Int) < (len : Int) := by omega
      have hk1 : (k : Int) < 300 := by omega
      obtain ⟨p, rfl, hx32, HAT⟩ := H0.out.at (show k < len by omega)
      obtain ⟨x, hx⟩ : ∃ x, x = at_ stK l k := ⟨_, rfl⟩
      rw [← hx] at hx32 HAT
      have HLD := hide (HAT wr HT.out.a.below)
      have HX32 := hide hx32
      have HLEN : Hid (t.l.length ≤ 900000) := by show _ ≤ _; omega
      have HLEN1 : Hid (t.l.length ≤ 1000000) := by show _ ≤ _; omega
      clear HAT hx hx32
      by_cases hkk : x.k ≤ 4
      · have HLENN : Hid ((t.add x.e x.x).l.length ≤ k + 1) := Nat.le_trans (add_length _ _ _) (by omega)
        have HLENM : Hid ((t.add x.e x.x).l.length ≤ 1000000) := Nat.le_trans (add_length _ _ _) (by omega)
        obtain ⟨y, hy⟩ : ∃ y : Int, y = (t.why x.e x.x : Int) := ⟨_, rfl⟩
        have HY := hide hy.symm
        clear hy hL
        obtain ⟨hs, hhs⟩ : ∃ h, h = (t.add x.e x.x).has x.e x.x := ⟨_, rfl⟩
        have HHA := hide hhs.symm
        obtain ⟨cn, hcn⟩ : ∃ h, h = (t.add x.e x.x).len x.e := ⟨_, rfl⟩
        have HLA := hide hcn.symm
        obtain ⟨fl, hfl⟩ : ∃ h, h = (t.add x.e x.x).floor := ⟨_, rfl⟩
        have HFL := hide hfl.symm
        clear hhs hcn hfl
        go_wp2_with (first
          | (with_reducible refine wpl_loadc aggSt (op := ⟨some 31, _, _, _, _, _⟩) rfl (.tmp 30) rfl (p.add (k * 18)) rfl (stC x) (stC_length x) HLD.out ?_)
          | ((with_reducible refine wpl_alloca (op := ⟨some 9, _, _, _, _, _⟩) rfl _ rfl _ zeroSt ?_); intro gx w3 h3 hs3 f3; have HGX : Hid (w.heap.size ≤ gx) := (by show _ ≤ _; have := HT.out.a.below.size; omega); have HT3 := hide (HT.out.frm0 f3); have H3 := hide h3; clear h3 hs3 f3 HT)
          | ((with_reducible refine wpl_storea aggSt (op := ⟨none, _, _, _, _, _⟩) rfl (.tmp 9) (.tmp 31) rfl gx (stC x) rfl rfl _ _ H3.out (stC_length x) (stC_size _) (stC_one x) ?_); intro w4 h4 f4; have c40 : w4.cell? ⟨gx, 0, none⟩ = some (.int .i64 x.k) := h4.cell 0; have H4 := hide h4; have HT4 := hide (HT3.out.keepB H3.out f4 HGX.out); clear h4 f4 HT3 H3))
        refine wp_region_held_drew (S := StX gx x) (by kernel_rfl) (StX.of (H4.out.frm (S := fun _ => False) ((Frm.refl _ _).drew) (fun h => h))) ?_
        intro hHeld
        obtain ⟨W0, hW0⟩ : ∃ W', W' = w4.drew := ⟨_, rfl⟩
        have fr0 : Frm (fun _ => False) w4 W0 := by rw [hW0]; exact (Frm.refl _ _).drew
        have HT0 := hide (HT4.out.frm0 fr0)
        have HB0 := hide (H4.out.frm fr0 (fun h => h))
        rw [← hW0] at hHeld ⊢
        clear hW0 fr0 HT4 H4 c40
        refine tkH 0 (v := ?v1) rfl ?hy1 ?rest1
        case hy1 => (intro w hSw; go_simp; try with_reducible rfl)
        try simp only [Act.put, List.getElem_toArray, List.getElem_cons_zero, List.getElem_cons_succ, List.setIfInBounds_toArray, List.set_cons_zero, List.set_cons_succ]
        refine tkH 1 (v := ?v2) rfl ?hy2 ?rest2
        case hy2 => (intro w hSw; go_simp; try with_reducible rfl)
        try simp only [Act.put, List.getElem_toArray, List.getElem_cons_zero, List.getElem_cons_succ, List.setIfInBounds_toArray, List.set_cons_zero, List.set_cons_succ]
        refine tkH 2 (v := ?v3) rfl ?hy3 ?rest3
        case hy3 => (intro w hSw; have hSa := hSw.1; go_simp; try with_reducible rfl)
        try simp only [Act.put, List.getElem_toArray, List.getElem_cons_zero, List.getElem_cons_succ, List.setIfInBounds_toArray, List.set_cons_zero, List.set_cons_succ]
        refine tkH 3 (v := ?v4) rfl ?hy4 ?rest4
        case hy4 => (intro w hSw; go_simp; try with_reducible rfl)
        try simp only [Act.put, List.getElem_toArray, List.getElem_cons_zero, List.getElem_cons_succ, List.setIfInBounds_toArray, List.set_cons_zero, List.set_cons_succ]
        refine tkH 4 (v := .agg (tgC x.x).toArray) rfl ?hy5 ?rest5
        case hy5 => (intro w hSw; refine held_loada aggX (.tmp 38) ?_ gx 2 ?_ _ _ (tgC x.x) hSw.2 (stC_tag x) (stC_tag_room x) <;> rfl)
        try simp only [Act.put, List.getElem_toArray, List.getElem_cons_zero, List.getElem_cons_succ, List.setIfInBounds_toArray, List.set_cons_zero, List.set_cons_succ]
        refine tkH 6 (v := ?v6) rfl ?hy6 ?rest6
        case hy6 => (intro w hSw; go_simp; try with_reducible rfl)
        try simp only [Act.put, List.getElem_toArray, List.getElem_cons_zero, List.getElem_cons_succ, List.setIfInBounds_toArray, List.set_cons_zero, List.set_cons_succ]
        refine tkH 7 (v := ?v7) rfl ?hy7 ?rest7
        case hy7 => (intro w hSw; go_simp; try with_reducible rfl)
        try simp only [Act.put, List.getElem_toArray, List.getElem_cons_zero, List.getElem_cons_succ, List.setIfInBounds_toArray, List.set_cons_zero, List.set_cons_succ]
        refine tkH 8 (v := ?v8) rfl ?hy8 ?rest8
        case hy8 => (intro w hSw; have hSa := hSw.1; go_simp; try with_reducible rfl)
        try simp only [Act.put, List.getElem_toArray, List.getElem_cons_zero, List.getElem_cons_succ, List.setIfInBounds_toArray, List.set_cons_zero, List.set_cons_succ]
        refine tkH 9 (v := ?v9) rfl ?hy9 ?rest9
        case hy9 => (intro w hSw; go_simp; try with_reducible rfl)
        try simp only [Act.put, List.getElem_toArray, List.getElem_cons_zero, List.getElem_cons_succ, List.setIfInBounds_toArray, List.set_cons_zero, List.set_cons_succ]
        refine tkH 10 (v := .agg (tgC x.x).toArray) rfl ?hy10 ?rest10
        case hy10 => (intro w hSw; refine held_loada aggX (.tmp 44) ?_ gx 2 ?_ _ _ (tgC x.x) hSw.2 (stC_tag x) (stC_tag_room x) <;> rfl)
        try simp only [Act.put, List.getElem_toArray, List.getElem_cons_zero, List.getElem_cons_succ, List.setIfInBounds_toArray, List.set_cons_zero, List.set_cons_succ]
        refine rdH 5 rfl (by kernel_rfl) (fun K hK => ?_)
        go_simp
        refine (HT0.out.addA x.e x.x HX32.out).mono ?_
        rintro r W1 ⟨rfl, h1, k1⟩
        rw [HY.out]
        have HB1 := hide (k1 _ _ HB0.out)
        have HT1 := hide h1
        have hSS := StX.of HB1.out
        clear h1 k1 HT0 HB0
        refine hK.out _ _ (hSS) (fun hHeld => ?_)
        clear hK K
        refine rdH 11 rfl (by kernel_rfl) (fun K hK => ?_)
        go_simp
        refine (HT1.out.addB x.e x.x HX32.out HLEN.out).mono ?_
        rintro r W2 ⟨rfl, h2, k2⟩
        rw [HY.out]
        have HB2 := hide (k2 _ _ HB1.out)
        have HT2 := hide h2
        have hSS := StX.of HB2.out
        clear h2 k2 HT1 HB1
        refine hK.out _ _ (hSS) (fun hHeld => ?_)
        clear hK K
        refine tkH 12 (v := .bool true) rfl ?hy11 ?rest11
        case hy11 => (intro w hSw; go_simp)
        try simp only [Act.put, List.getElem_toArray, List.getElem_cons_zero, List.getElem_cons_succ, List.setIfInBounds_toArray, List.set_cons_zero, List.set_cons_succ]
        refine tkH 13 (v := ?v12) rfl ?hy12 ?rest12
        case hy12 => (intro w hSw; go_simp; try with_reducible rfl)
        try simp only [Act.put, List.getElem_toArray, List.getElem_cons_zero, List.getElem_cons_succ, List.setIfInBounds_toArray, List.set_cons_zero, List.set_cons_succ]
        refine wpAnyH_done (by kernel_rfl) ?_ _
        clear hHeld
        go_wp2_with fail
        obtain ⟨C, hC⟩ : ∃ C : World → Prop, C = fun W' => Frm (fun _ => False) W2 W' := ⟨_, rfl⟩
        have hC0 : C W2.drew := by rw [hC]; exact (Frm.refl _ _).drew
        have hCt : ∀ W', C W' → Blk W' gx 32 (stC x).toArray := by rw [hC]; exact fun W' f => HB2.out.frm f (fun h => h)
        have hCe : ∀ W', C W' → W'.cell? ⟨gx, 1, none⟩ = some (.int .u32 (x.e : Int)) := fun W' hw => (hCt W' hw).cell 1
        have hCf : ∀ W', C W' → W'.cell? ⟨gb, 2, none⟩ = some (.int .u32 (fl : Int)) := by rw [hC]; exact fun W' f => by rw [← HFL.out]; exact (HT2.out.frm0 f).b.floC
        have hCa : ∀ W', C W' → Calls Try.prog 15 #[.pointer (some ⟨ga, 0, none⟩), .int .u32 (x.e : Int), .agg (tgC x.x).toArray] W' (fun r w'' => r = .returned (.bool hs) ∧ C w'') := by
          rw [hC]
          exact fun W' f => ((HT2.out.frm0 f).a.has x.e x.x HX32.out).mono fun r w'' h => ⟨by rw [h.1, HHA.out], frm_ft f h.2.2⟩
        have hCb : ∀ W', C W' → Calls Try.prog 16 #[.pointer (some ⟨gb, 0, none⟩), .int .u32 (x.e : Int), .agg (tgC x.x).toArray] W' (fun r w'' => r = .returned (.bool hs) ∧ C w'') := by
          rw [hC]
          exact fun W' f => (rhas_any _ gb _ ⟨x.e, x.x⟩ HX32.out HLENM.out W' (HT2.out.frm0 f).b).mono fun r w'' h => ⟨by rw [h.1, HHA.out], frm_ft f h.2⟩
        have hCc : ∀ W', C W' → Calls Try.prog 17 #[.pointer (some ⟨ga, 0, none⟩), .int .u32 (x.e : Int)] W' (fun r w'' => r = .returned (.int .i64 (cn : Int)) ∧ C w'') := by
          rw [hC]
          exact fun W' f => ((HT2.out.frm0 f).a.len x.e HX32.out).mono fun r w'' h => ⟨by rw [h.1, HLA.out], h.2 ▸ f⟩
        have hCd : ∀ W', C W' → Calls Try.prog 18 #[.pointer (some ⟨gb, 0, none⟩), .int .u32 (x.e : Int)] W' (fun r w'' => r = .returned (.int .i64 (cn : Int)) ∧ C w'') := by
          rw [hC]
          exact fun W' f => (rlen_any _ gb _ x.e HX32.out HLENM.out W' (HT2.out.frm0 f).b).mono fun r w'' h => ⟨by rw [h.1, HLA.out], h.2 ▸ f⟩
        have hCg : ∀ W', C W' → Calls Try.prog 19 #[.pointer (some ⟨ga, 0, none⟩)] W' (fun r w'' => r = .returned (.int .u32 (fl : Int)) ∧ C w'') := by
          rw [hC]
          exact fun W' f => ((HT2.out.frm0 f).a.floor).mono fun r w'' h => ⟨by rw [h.1, HFL.out], h.2 ▸ f⟩
        have HEND : Hid (∀ W', C W' → T2 w W' ga sa ca gb (t.add x.e x.x) (t.add x.e x.x)) := by rw [hC]; exact fun W' f => HT2.out.frm0 f
        clear hC
        refine wp_region_class C (by kernel_rfl) (by kernel_rfl) hC0 ?_
        with_reducible refine wpQuiet_step ?_
        intro K hK
        go_simp
        first | (refine hK _ ?_; clear hK K) | (refine ⟨_, fun w' hw' => rfl, hK _ ?_⟩; clear hK K)
        with_reducible refine wpQuiet_step ?_
        intro K hK
        go_simp
        first | (refine hK _ ?_; clear hK K) | (refine ⟨_, fun w' hw' => rfl, hK _ ?_⟩; clear hK K)
        with_reducible refine wpQuiet_step ?_
        intro K hK
        go_simp
        first | (refine hK _ ?_; clear hK K) | (refine ⟨_, fun w' hw' => rfl, hK _ ?_⟩; clear hK K)
        with_reducible refine wpQuiet_step ?_
        intro K hK
        go_simp
        first | (refine hK _ ?_; clear hK K) | (refine ⟨_, fun w' hw' => rfl, hK _ ?_⟩; clear hK K)
        with_reducible refine wpQuiet_step ?_
        intro K hK
        go_simp
        first | (refine hK _ ?_; clear hK K) | (refine ⟨_, fun w' hw' => rfl, hK _ ?_⟩; clear hK K)
        with_reducible refine wpQuiet_step ?_
        intro K hK
        go_simp
        refine ⟨.int .u32 (x.e : Int), fun w' hw' => ?_, hK _ ?_⟩
        · have hcell0 := hCe w' hw'
          go_simp
        clear hK K
        with_reducible refine wpQuiet_step ?_
        intro K hK
        go_simp
        first | (refine hK _ ?_; clear hK K) | (refine ⟨_, fun w' hw' => rfl, hK _ ?_⟩; clear hK K)
        with_reducible refine wpQuiet_step ?_
        intro K hK
        refine quiet_val (.agg (tgC x.x).toArray) (fun w' hw' => held_loada aggX (.tmp 63) rfl gx 2 rfl _ _ (tgC x.x) (hCt w' hw') (stC_tag x) (stC_tag_room x)) ?_ rfl
        go_simp
        refine hK _ ?_
        clear hK K
        with_reducible refine wpQuiet_step ?_
        intro K hK
        go_simp
        refine ⟨_, hCa, hK _ ?_⟩
        clear hK K
        with_reducible refine wpQuiet_step ?_
        intro K hK
        go_simp
        first | (refine hK _ ?_; clear hK K) | (refine ⟨_, fun w' hw' => rfl, hK _ ?_⟩; clear hK K)
        with_reducible refine wpQuiet_step ?_
        intro K hK
        go_simp
        first | (refine hK _ ?_; clear hK K) | (refine ⟨_, fun w' hw' => rfl, hK _ ?_⟩; clear hK K)
        with_reducible refine wpQuiet_step ?_
        intro K hK
        go_simp
        refine ⟨.int .u32 (x.e : Int), fun w' hw' => ?_, hK _ ?_⟩
        · have hcell0 := hCe w' hw'
          go_simp
        clear hK K
        with_reducible refine wpQuiet_step ?_
        intro K hK
        go_simp
        first | (refine hK _ ?_; clear hK K) | (refine ⟨_, fun w' hw' => rfl, hK _ ?_⟩; clear hK K)
        with_reducible refine wpQuiet_step ?_
        intro K hK
        refine quiet_val (.agg (tgC x.x).toArray) (fun w' hw' => held_loada aggX (.tmp 69) rfl gx 2 rfl _ _ (tgC x.x) (hCt w' hw') (stC_tag x) (stC_tag_room x)) ?_ rfl
        go_simp
        refine hK _ ?_
        clear hK K
        with_reducible refine wpQuiet_step ?_
        intro K hK
        go_simp
        refine ⟨_, hCb, hK _ ?_⟩
        clear hK K
        with_reducible refine wpQuiet_step ?_
        intro K hK
        go_simp
        first | (refine hK _ ?_; clear hK K) | (refine ⟨_, fun w' hw' => rfl, hK _ ?_⟩; clear hK K)
        with_reducible refine wpQuiet_step ?_
        intro K hK
        go_simp
        first | (refine hK _ ?_; clear hK K) | (refine ⟨_, fun w' hw' => rfl, hK _ ?_⟩; clear hK K)
        with_reducible refine wpQuiet_step ?_
        intro K hK
        go_simp
        first | (refine hK _ ?_; clear hK K) | (refine ⟨_, fun w' hw' => rfl, hK _ ?_⟩; clear hK K)
        with_reducible refine wpQuiet_step ?_
        intro K hK
        go_simp
        first | (refine hK _ ?_; clear hK K) | (refine ⟨_, fun w' hw' => rfl, hK _ ?_⟩; clear hK K)
        with_reducible refine wpQuiet_step ?_
        intro K hK
        go_simp
        first | (refine hK _ ?_; clear hK K) | (refine ⟨_, fun w' hw' => rfl, hK _ ?_⟩; clear hK K)
        with_reducible refine wpQuiet_step ?_
        intro K hK
        go_simp
        refine ⟨.int .u32 (x.e : Int), fun w' hw' => ?_, hK _ ?_⟩
        · have hcell0 := hCe w' hw'
          go_simp
        clear hK K
        with_reducible refine wpQuiet_step ?_
        intro K hK
        go_simp
        refine ⟨_, hCc, hK _ ?_⟩
        clear hK K
        with_reducible refine wpQuiet_step ?_
        intro K hK
        go_simp
        first | (refine hK _ ?_; clear hK K) | (refine ⟨_, fun w' hw' => rfl, hK _ ?_⟩; clear hK K)
        with_reducible refine wpQuiet_step ?_
        intro K hK
        go_simp
        first | (refine hK _ ?_; clear hK K) | (refine ⟨_, fun w' hw' => rfl, hK _ ?_⟩; clear hK K)
        with_reducible refine wpQuiet_step ?_
        intro K hK
        go_simp
        refine ⟨.int .u32 (x.e : Int), fun w' hw' => ?_, hK _ ?_⟩
        · have hcell0 := hCe w' hw'
          go_simp
        clear hK K
        with_reducible refine wpQuiet_step ?_
        intro K hK
        go_simp
        refine ⟨_, hCd, hK _ ?_⟩
        clear hK K
        with_reducible refine wpQuiet_step ?_
        intro K hK
        go_simp
        first | (refine hK _ ?_; clear hK K) | (refine ⟨_, fun w' hw' => rfl, hK _ ?_⟩; clear hK K)
        with_reducible refine wpQuiet_step ?_
        intro K hK
        go_simp
        first | (refine hK _ ?_; clear hK K) | (refine ⟨_, fun w' hw' => rfl, hK _ ?_⟩; clear hK K)
        with_reducible refine wpQuiet_step ?_
        intro K hK
        go_simp
        first | (refine hK _ ?_; clear hK K) | (refine ⟨_, fun w' hw' => rfl, hK _ ?_⟩; clear hK K)
        with_reducible refine wpQuiet_step ?_
        intro K hK
        go_simp
        first | (refine hK _ ?_; clear hK K) | (refine ⟨_, fun w' hw' => rfl, hK _ ?_⟩; clear hK K)
        with_reducible refine wpQuiet_step ?_
        intro K hK
        go_simp
        refine ⟨_, hCg, hK _ ?_⟩
        clear hK K
        with_reducible refine wpQuiet_step ?_
        intro K hK
        go_simp
        first | (refine hK _ ?_; clear hK K) | (refine ⟨_, fun w' hw' => rfl, hK _ ?_⟩; clear hK K)
        with_reducible refine wpQuiet_step ?_
        intro K hK
        go_simp
        first | (refine hK _ ?_; clear hK K) | (refine ⟨_, fun w' hw' => rfl, hK _ ?_⟩; clear hK K)
        with_reducible refine wpQuiet_step ?_
        intro K hK
        go_simp
        first | (refine hK _ ?_; clear hK K) | (refine ⟨_, fun w' hw' => rfl, hK _ ?_⟩; clear hK K)
        with_reducible refine wpQuiet_step ?_
        intro K hK
        go_simp
        refine ⟨.int .u32 (fl : Int), fun w' hw' => ?_, hK _ ?_⟩
        · have hcell0 := hCf w' hw'
          go_simp
        clear hK K
        with_reducible refine wpQuiet_step ?_
        intro K hK
        go_simp
        first | (refine hK _ ?_; clear hK K) | (refine ⟨_, fun w' hw' => rfl, hK _ ?_⟩; clear hK K)
        with_reducible refine wpQuiet_step ?_
        intro K hK
        go_simp
        first | (refine hK _ ?_; clear hK K) | (refine ⟨_, fun w' hw' => rfl, hK _ ?_⟩; clear hK K)
        refine wpQuiet_nil ?_
        intro w9 hw9
        have hT9 := HEND.out w9 hw9
        have HT9 := hide hT9
        clear hT9 hw9 hCt hCe hCf hCa hCb hCc hCd hCg HEND hC0
        go_wp2_with fail
        go_roundw
        case rel => exact ⟨k + 1, _, by omega, by go_num, HT9.out, HLENN.out⟩
        case measure => simp [intOf]; omega
      · have hkk' : (4 : Int) < x.k := by omega
        have HLENN : Hid ((t.exp x.e).l.length ≤ k + 1) := Nat.le_trans (exp_length _ _) (by omega)
        have HLENM : Hid ((t.exp x.e).l.length ≤ 1000000) := Nat.le_trans (exp_length _ _) (by omega)
        obtain ⟨y, hy⟩ : ∃ y : Int, y = (t.gone x.e : Int) := ⟨_, rfl⟩
        have HY := hide hy.symm
        clear hy hL
        obtain ⟨hs, hhs⟩ : ∃ h, h = (t.exp x.e).has x.e x.x := ⟨_, rfl⟩
        have HHA := hide hhs.symm
        obtain ⟨cn, hcn⟩ : ∃ h, h = (t.exp x.e).len x.e := ⟨_, rfl⟩
        have HLA := hide hcn.symm
        obtain ⟨fl, hfl⟩ : ∃ h, h = (t.exp x.e).floor := ⟨_, rfl⟩
        have HFL := hide hfl.symm
        clear hhs hcn hfl
        go_wp2_with (first
          | (with_reducible refine wpl_loadc aggSt (op := ⟨some 31, _, _, _, _, _⟩) rfl (.tmp 30) rfl (p.add (k * 18)) rfl (stC x) (stC_length x) HLD.out ?_)
          | ((with_reducible refine wpl_alloca (op := ⟨some 9, _, _, _, _, _⟩) rfl _ rfl _ zeroSt ?_); intro gx w3 h3 hs3 f3; have HGX : Hid (w.heap.size ≤ gx) := (by show _ ≤ _; have := HT.out.a.below.size; omega); have HT3 := hide (HT.out.frm0 f3); have H3 := hide h3; clear h3 hs3 f3 HT)
          | ((with_reducible refine wpl_storea aggSt (op := ⟨none, _, _, _, _, _⟩) rfl (.tmp 9) (.tmp 31) rfl gx (stC x) rfl rfl _ _ H3.out (stC_length x) (stC_size _) (stC_one x) ?_); intro w4 h4 f4; have c40 : w4.cell? ⟨gx, 0, none⟩ = some (.int .i64 x.k) := h4.cell 0; have H4 := hide h4; have HT4 := hide (HT3.out.keepB H3.out f4 HGX.out); clear h4 f4 HT3 H3))
        refine wp_region_held_drew (S := StX gx x) (by kernel_rfl) (StX.of (H4.out.frm (S := fun _ => False) ((Frm.refl _ _).drew) (fun h => h))) ?_
        intro hHeld
        obtain ⟨W0, hW0⟩ : ∃ W', W' = w4.drew := ⟨_, rfl⟩
        have fr0 : Frm (fun _ => False) w4 W0 := by rw [hW0]; exact (Frm.refl _ _).drew
        have HT0 := hide (HT4.out.frm0 fr0)
        have HB0 := hide (H4.out.frm fr0 (fun h => h))
        rw [← hW0] at hHeld ⊢
        clear hW0 fr0 HT4 H4 c40
        refine tkH 0 (v := ?v13) rfl ?hy13 ?rest13
        case hy13 => (intro w hSw; go_simp; try with_reducible rfl)
        try simp only [Act.put, List.getElem_toArray, List.getElem_cons_zero, List.getElem_cons_succ, List.setIfInBounds_toArray, List.set_cons_zero, List.set_cons_succ]
        refine tkH 1 (v := ?v14) rfl ?hy14 ?rest14
        case hy14 => (intro w hSw; go_simp; try with_reducible rfl)
        try simp only [Act.put, List.getElem_toArray, List.getElem_cons_zero, List.getElem_cons_succ, List.setIfInBounds_toArray, List.set_cons_zero, List.set_cons_succ]
        refine tkH 2 (v := ?v15) rfl ?hy15 ?rest15
        case hy15 => (intro w hSw; have hSa := hSw.1; go_simp; try with_reducible rfl)
        try simp only [Act.put, List.getElem_toArray, List.getElem_cons_zero, List.getElem_cons_succ, List.setIfInBounds_toArray, List.set_cons_zero, List.set_cons_succ]
        refine tkH 4 (v := ?v16) rfl ?hy16 ?rest16
        case hy16 => (intro w hSw; go_simp; try with_reducible rfl)
        try simp only [Act.put, List.getElem_toArray, List.getElem_cons_zero, List.getElem_cons_succ, List.setIfInBounds_toArray, List.set_cons_zero, List.set_cons_succ]
        refine tkH 5 (v := ?v17) rfl ?hy17 ?rest17
        case hy17 => (intro w hSw; go_simp; try with_reducible rfl)
        try simp only [Act.put, List.getElem_toArray, List.getElem_cons_zero, List.getElem_cons_succ, List.setIfInBounds_toArray, List.set_cons_zero, List.set_cons_succ]
        refine tkH 6 (v := ?v18) rfl ?hy18 ?rest18
        case hy18 => (intro w hSw; have hSa := hSw.1; go_simp; try with_reducible rfl)
        try simp only [Act.put, List.getElem_toArray, List.getElem_cons_zero, List.getElem_cons_succ, List.setIfInBounds_toArray, List.set_cons_zero, List.set_cons_succ]
        refine rdH 3 rfl (by kernel_rfl) (fun K hK => ?_)
        go_simp
        refine (HT0.out.expA x.e HX32.out HLEN1.out).mono ?_
        rintro r W1 ⟨rfl, h1, k1⟩
        rw [HY.out]
        have HB1 := hide (k1 _ _ HB0.out)
        have HT1 := hide h1
        have hSS := StX.of HB1.out
        clear h1 k1 HT0 HB0
        refine hK.out _ _ (hSS) (fun hHeld => ?_)
        clear hK K
        refine rdH 7 rfl (by kernel_rfl) (fun K hK => ?_)
        go_simp
        refine (HT1.out.expB x.e HX32.out HLEN.out).mono ?_
        rintro r W2 ⟨rfl, h2, k2⟩
        rw [HY.out]
        have HB2 := hide (k2 _ _ HB1.out)
        have HT2 := hide h2
        have hSS := StX.of HB2.out
        clear h2 k2 HT1 HB1
        refine hK.out _ _ (hSS) (fun hHeld => ?_)
        clear hK K
        refine tkH 8 (v := .bool true) rfl ?hy19 ?rest19
        case hy19 => (intro w hSw; go_simp)
        try simp only [Act.put, List.getElem_toArray, List.getElem_cons_zero, List.getElem_cons_succ, List.setIfInBounds_toArray, List.set_cons_zero, List.set_cons_succ]
        refine tkH 9 (v := ?v20) rfl ?hy20 ?rest20
        case hy20 => (intro w hSw; go_simp; try with_reducible rfl)
        try simp only [Act.put, List.getElem_toArray, List.getElem_cons_zero, List.getElem_cons_succ, List.setIfInBounds_toArray, List.set_cons_zero, List.set_cons_succ]
        refine wpAnyH_done (by kernel_rfl) ?_ _
        clear hHeld
        go_wp2_with fail
        obtain ⟨C, hC⟩ : ∃ C : World → Prop, C = fun W' => Frm (fun _ => False) W2 W' := ⟨_, rfl⟩
        have hC0 : C W2.drew := by rw [hC]; exact (Frm.refl _ _).drew
        have hCt : ∀ W', C W' → Blk W' gx 32 (stC x).toArray := by rw [hC]; exact fun W' f => HB2.out.frm f (fun h => h)
        have hCe : ∀ W', C W' → W'.cell? ⟨gx, 1, none⟩ = some (.int .u32 (x.e : Int)) := fun W' hw => (hCt W' hw).cell 1
        have hCf : ∀ W', C W' → W'.cell? ⟨gb, 2, none⟩ = some (.int .u32 (fl : Int)) := by rw [hC]; exact fun W' f => by rw [← HFL.out]; exact (HT2.out.frm0 f).b.floC
        have hCa : ∀ W', C W' → Calls Try.prog 15 #[.pointer (some ⟨ga, 0, none⟩), .int .u32 (x.e : Int), .agg (tgC x.x).toArray] W' (fun r w'' => r = .returned (.bool hs) ∧ C w'') := by
          rw [hC]
          exact fun W' f => ((HT2.out.frm0 f).a.has x.e x.x HX32.out).mono fun r w'' h => ⟨by rw [h.1, HHA.out], frm_ft f h.2.2⟩
        have hCb : ∀ W', C W' → Calls Try.prog 16 #[.pointer (some ⟨gb, 0, none⟩), .int .u32 (x.e : Int), .agg (tgC x.x).toArray] W' (fun r w'' => r = .returned (.bool hs) ∧ C w'') := by
          rw [hC]
          exact fun W' f => (rhas_any _ gb _ ⟨x.e, x.x⟩ HX32.out HLENM.out W' (HT2.out.frm0 f).b).mono fun r w'' h => ⟨by rw [h.1, HHA.out], frm_ft f h.2⟩
        have hCc : ∀ W', C W' → Calls Try.prog 17 #[.pointer (some ⟨ga, 0, none⟩), .int .u32 (x.e : Int)] W' (fun r w'' => r = .returned (.int .i64 (cn : Int)) ∧ C w'') := by
          rw [hC]
          exact fun W' f => ((HT2.out.frm0 f).a.len x.e HX32.out).mono fun r w'' h => ⟨by rw [h.1, HLA.out], h.2 ▸ f⟩
        have hCd : ∀ W', C W' → Calls Try.prog 18 #[.pointer (some ⟨gb, 0, none⟩), .int .u32 (x.e : Int)] W' (fun r w'' => r = .returned (.int .i64 (cn : Int)) ∧ C w'') := by
          rw [hC]
          exact fun W' f => (rlen_any _ gb _ x.e HX32.out HLENM.out W' (HT2.out.frm0 f).b).mono fun r w'' h => ⟨by rw [h.1, HLA.out], h.2 ▸ f⟩
        have hCg : ∀ W', C W' → Calls Try.prog 19 #[.pointer (some ⟨ga, 0, none⟩)] W' (fun r w'' => r = .returned (.int .u32 (fl : Int)) ∧ C w'') := by
          rw [hC]
          exact fun W' f => ((HT2.out.frm0 f).a.floor).mono fun r w'' h => ⟨by rw [h.1, HFL.out], h.2 ▸ f⟩
        have HEND : Hid (∀ W', C W' → T2 w W' ga sa ca gb (t.exp x.e) (t.exp x.e)) := by rw [hC]; exact fun W' f => HT2.out.frm0 f
        clear hC
        refine wp_region_class C (by kernel_rfl) (by kernel_rfl) hC0 ?_
        with_reducible refine wpQuiet_step ?_
        intro K hK
        go_simp
        first | (refine hK _ ?_; clear hK K) | (refine ⟨_, fun w' hw' => rfl, hK _ ?_⟩; clear hK K)
        with_reducible refine wpQuiet_step ?_
        intro K hK
        go_simp
        first | (refine hK _ ?_; clear hK K) | (refine ⟨_, fun w' hw' => rfl, hK _ ?_⟩; clear hK K)
        with_reducible refine wpQuiet_step ?_
        intro K hK
        go_simp
        first | (refine hK _ ?_; clear hK K) | (refine ⟨_, fun w' hw' => rfl, hK _ ?_⟩; clear hK K)
        with_reducible refine wpQuiet_step ?_
        intro K hK
        go_simp
        first | (refine hK _ ?_; clear hK K) | (refine ⟨_, fun w' hw' => rfl, hK _ ?_⟩; clear hK K)
        with_reducible refine wpQuiet_step ?_
        intro K hK
        go_simp
        first | (refine hK _ ?_; clear hK K) | (refine ⟨_, fun w' hw' => rfl, hK _ ?_⟩; clear hK K)
        with_reducible refine wpQuiet_step ?_
        intro K hK
        go_simp
        refine ⟨.int .u32 (x.e : Int), fun w' hw' => ?_, hK _ ?_⟩
        · have hcell0 := hCe w' hw'
          go_simp
        clear hK K
        with_reducible refine wpQuiet_step ?_
        intro K hK
        go_simp
        first | (refine hK _ ?_; clear hK K) | (refine ⟨_, fun w' hw' => rfl, hK _ ?_⟩; clear hK K)
        with_reducible refine wpQuiet_step ?_
        intro K hK
        refine quiet_val (.agg (tgC x.x).toArray) (fun w' hw' => held_loada aggX (.tmp 63) rfl gx 2 rfl _ _ (tgC x.x) (hCt w' hw') (stC_tag x) (stC_tag_room x)) ?_ rfl
        go_simp
        refine hK _ ?_
        clear hK K
        with_reducible refine wpQuiet_step ?_
        intro K hK
        go_simp
        refine ⟨_, hCa, hK _ ?_⟩
        clear hK K
        with_reducible refine wpQuiet_step ?_
        intro K hK
        go_simp
        first | (refine hK _ ?_; clear hK K) | (refine ⟨_, fun w' hw' => rfl, hK _ ?_⟩; clear hK K)
        with_reducible refine wpQuiet_step ?_
        intro K hK
        go_simp
        first | (refine hK _ ?_; clear hK K) | (refine ⟨_, fun w' hw' => rfl, hK _ ?_⟩; clear hK K)
        with_reducible refine wpQuiet_step ?_
        intro K hK
        go_simp
        refine ⟨.int .u32 (x.e : Int), fun w' hw' => ?_, hK _ ?_⟩
        · have hcell0 := hCe w' hw'
          go_simp
        clear hK K
        with_reducible refine wpQuiet_step ?_
        intro K hK
        go_simp
        first | (refine hK _ ?_; clear hK K) | (refine ⟨_, fun w' hw' => rfl, hK _ ?_⟩; clear hK K)
        with_reducible refine wpQuiet_step ?_
        intro K hK
        refine quiet_val (.agg (tgC x.x).toArray) (fun w' hw' => held_loada aggX (.tmp 69) rfl gx 2 rfl _ _ (tgC x.x) (hCt w' hw') (stC_tag x) (stC_tag_room x)) ?_ rfl
        go_simp
        refine hK _ ?_
        clear hK K
        with_reducible refine wpQuiet_step ?_
        intro K hK
        go_simp
        refine ⟨_, hCb, hK _ ?_⟩
        clear hK K
        with_reducible refine wpQuiet_step ?_
        intro K hK
        go_simp
        first | (refine hK _ ?_; clear hK K) | (refine ⟨_, fun w' hw' => rfl, hK _ ?_⟩; clear hK K)
        with_reducible refine wpQuiet_step ?_
        intro K hK
        go_simp
        first | (refine hK _ ?_; clear hK K) | (refine ⟨_, fun w' hw' => rfl, hK _ ?_⟩; clear hK K)
        with_reducible refine wpQuiet_step ?_
        intro K hK
        go_simp
        first | (refine hK _ ?_; clear hK K) | (refine ⟨_, fun w' hw' => rfl, hK _ ?_⟩; clear hK K)
        with_reducible refine wpQuiet_step ?_
        intro K hK
        go_simp
        first | (refine hK _ ?_; clear hK K) | (refine ⟨_, fun w' hw' => rfl, hK _ ?_⟩; clear hK K)
        with_reducible refine wpQuiet_step ?_
        intro K hK
        go_simp
        first | (refine hK _ ?_; clear hK K) | (refine ⟨_, fun w' hw' => rfl, hK _ ?_⟩; clear hK K)
        with_reducible refine wpQuiet_step ?_
        intro K hK
        go_simp
        refine ⟨.int .u32 (x.e : Int), fun w' hw' => ?_, hK _ ?_⟩
        · have hcell0 := hCe w' hw'
          go_simp
        clear hK K
        with_reducible refine wpQuiet_step ?_
        intro K hK
        go_simp
        refine ⟨_, hCc, hK _ ?_⟩
        clear hK K
        with_reducible refine wpQuiet_step ?_
        intro K hK
        go_simp
        first | (refine hK _ ?_; clear hK K) | (refine ⟨_, fun w' hw' => rfl, hK _ ?_⟩; clear hK K)
        with_reducible refine wpQuiet_step ?_
        intro K hK
        go_simp
        first | (refine hK _ ?_; clear hK K) | (refine ⟨_, fun w' hw' => rfl, hK _ ?_⟩; clear hK K)
        with_reducible refine wpQuiet_step ?_
        intro K hK
        go_simp
        refine ⟨.int .u32 (x.e : Int), fun w' hw' => ?_, hK _ ?_⟩
        · have hcell0 := hCe w' hw'
          go_simp
        clear hK K
        with_reducible refine wpQuiet_step ?_
        intro K hK
        go_simp
        refine ⟨_, hCd, hK _ ?_⟩
        clear hK K
        with_reducible refine wpQuiet_step ?_
        intro K hK
        go_simp
        first | (refine hK _ ?_; clear hK K) | (refine ⟨_, fun w' hw' => rfl, hK _ ?_⟩; clear hK K)
        with_reducible refine wpQuiet_step ?_
        intro K hK
        go_simp
        first | (refine hK _ ?_; clear hK K) | (refine ⟨_, fun w' hw' => rfl, hK _ ?_⟩; clear hK K)
        with_reducible refine wpQuiet_step ?_
        intro K hK
        go_simp
        first | (refine hK _ ?_; clear hK K) | (refine ⟨_, fun w' hw' => rfl, hK _ ?_⟩; clear hK K)
        with_reducible refine wpQuiet_step ?_
        intro K hK
        go_simp
        first | (refine hK _ ?_; clear hK K) | (refine ⟨_, fun w' hw' => rfl, hK _ ?_⟩; clear hK K)
        with_reducible refine wpQuiet_step ?_
        intro K hK
        go_simp
        refine ⟨_, hCg, hK _ ?_⟩
        clear hK K
        with_reducible refine wpQuiet_step ?_
        intro K hK
        go_simp
        first | (refine hK _ ?_; clear hK K) | (refine ⟨_, fun w' hw' => rfl, hK _ ?_⟩; clear hK K)
        with_reducible refine wpQuiet_step ?_
        intro K hK
        go_simp
        first | (refine hK _ ?_; clear hK K) | (refine ⟨_, fun w' hw' => rfl, hK _ ?_⟩; clear hK K)
        with_reducible refine wpQuiet_step ?_
        intro K hK
        go_simp
        first | (refine hK _ ?_; clear hK K) | (refine ⟨_, fun w' hw' => rfl, hK _ ?_⟩; clear hK K)
        with_reducible refine wpQuiet_step ?_
        intro K hK
        go_simp
        refine ⟨.int .u32 (fl : Int), fun w' hw' => ?_, hK _ ?_⟩
        · have hcell0 := hCf w' hw'
          go_simp
        clear hK K
        with_reducible refine wpQuiet_step ?_
        intro K hK
        go_simp
        first | (refine hK _ ?_; clear hK K) | (refine ⟨_, fun w' hw' => rfl, hK _ ?_⟩; clear hK K)
        with_reducible refine wpQuiet_step ?_
        intro K hK
        go_simp
        first | (refine hK _ ?_; clear hK K) | (refine ⟨_, fun w' hw' => rfl, hK _ ?_⟩; clear hK K)
        refine wpQuiet_nil ?_
        intro w9 hw9
        have hT9 := HEND.out w9 hw9
        have HT9 := hide hT9
        clear hT9 hw9 hCt hCe hCf hCa hCb hCc hCd hCg HEND hC0
        go_wp2_with fail
        go_roundw
        case rel => exact ⟨k + 1, _, by omega, by go_num, HT9.out, HLENN.out⟩
        case measure => simp [intOf]; omega
    · by_cases hkl2 : k < len
      · have hkl : (k : Int) < (len : Int) := by omega
        have hk1 : ¬ (k : Int) < 300 := by have := min_end hkn hkl2; omega
        go_wp2_with fail
        go_ret
        exact ⟨rfl, HT.out.a.below⟩
      · have hkl : ¬ (k : Int) < (len : Int) := by omega
        go_wp2_with fail
        go_ret
        exact ⟨rfl, HT.out.a.below⟩
end Go.Proofs.Ytdilfiojfjgejaa
