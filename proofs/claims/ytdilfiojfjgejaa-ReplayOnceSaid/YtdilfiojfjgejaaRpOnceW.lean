/-
  ReplayOnce's walk: whatever comes in, the law returns true, and what lay lies as it lay.
-/
import Derived.Test.YtdilfiojfjgejaaRpEq
namespace Go.Proofs.Ytdilfiojfjgejaa
set_option linter.unusedVariables false
set_option linter.unusedSimpArgs false
open Go.RowKit

theorem stC_whole (x : Stp) : ((stC x).drop 0).take 18 = stC x := by rw [List.drop_zero, List.take_of_length_le (by rw [stC_length]; exact Nat.le_refl _)]
theorem stC_room (x : Stp) : 0 + 18 ≤ (stC x).length := by rw [stC_length]; exact Nat.le_refl _
/-- Whether a step is of an epoch and tag that one of the first was of. -/
def twi (D : List Stp) (x : Stp) (j : Nat) : Bool := (D.take j).any fun d => d.e == x.e && decide (d.x = x.x)
theorem twi_succ {D : List Stp} {x : Stp} {j n : Nat} (hj : j < n) (hn : D.length = n := by assumption) : twi D x (j + 1) = (twi D x j || ((at_ stK D j).e == x.e && decide ((at_ stK D j).x = x.x))) := by
  have h : j < D.length := by omega
  unfold twi
  rw [← List.take_append_getElem h, List.any_append, List.any_cons, List.any_nil, Bool.or_false, at_eq h]
theorem twi_all {D : List Stp} {x : Stp} : twi D x D.length = true ↔ ∃ d ∈ D, d.e = x.e ∧ d.x = x.x := by
  unfold twi
  rw [List.take_length, List.any_eq_true]
  simp
/-- What was added so far, and what of it is remembered. -/
structure Onc (t : T) (D : List Stp) (ms : Nat) : Prop where
  most : t.most = ms
  mem : ∀ s ∈ t.l, ∃ d ∈ D, d.e = s.e ∧ d.x = s.x
  all : ∀ d ∈ D, t.floor ≤ d.e → (⟨d.e, d.x⟩ : Ent) ∈ t.l
theorem Onc.why0 {t : T} {D : List Stp} {ms : Nat} (h : Onc t D ms) {x : Stp} (hw : t.why x.e x.x = 0) : twi D x D.length = false := by
  obtain ⟨h1, h2, _⟩ := why_zero hw
  rw [← Bool.not_eq_true, twi_all]
  rintro ⟨d, hd, he, hx⟩
  apply h2
  have := h.all d hd (by omega)
  rwa [he, hx] at this
theorem Onc.why7 {t : T} {D : List Stp} {ms : Nat} (h : Onc t D ms) {x : Stp} (hw : t.why x.e x.x = 7) : twi D x D.length = true := by
  rw [twi_all]
  have hh : t.has x.e x.x = true := by
    unfold T.why at hw
    split at hw
    · cases hw
    · split at hw
      · assumption
      · split at hw <;> cases hw
  obtain ⟨d, hd, he, hx⟩ := h.mem _ (of_decide_eq_true hh)
  exact ⟨d, hd, he, hx⟩
theorem Onc.add {t : T} {D : List Stp} {ms : Nat} (h : Onc t D ms) {x : Stp} (hw : t.why x.e x.x = 0) : Onc (t.add x.e x.x) (D ++ [x]) ms := by
  unfold T.add
  rw [if_pos hw]
  refine ⟨h.most, fun s hs => ?_, fun d hd hf => ?_⟩
  · rcases List.mem_append.1 hs with hs | hs
    · obtain ⟨d, hd, he⟩ := h.mem s hs
      exact ⟨d, List.mem_append.2 (.inl hd), he⟩
    · obtain rfl : s = ⟨x.e, x.x⟩ := by simpa using hs
      exact ⟨x, List.mem_append.2 (.inr (List.mem_singleton.2 rfl)), rfl, rfl⟩
  · rcases List.mem_append.1 hd with hd | hd
    · exact List.mem_append.2 (.inl (h.all d hd hf))
    · obtain rfl : d = x := by simpa using hd
      exact List.mem_append.2 (.inr (List.mem_singleton.2 rfl))
theorem Onc.same {t : T} {D : List Stp} {ms e : Nat} {x : Tg} (h : Onc t D ms) (hw : t.why e x ≠ 0) : Onc (t.add e x) D ms := by
  rw [add_not hw]
  exact h
theorem Onc.exp {t : T} {D : List Stp} {ms : Nat} (h : Onc t D ms) (b : Nat) : Onc (t.exp b) D ms := by
  refine ⟨h.most, fun s hs => h.mem s (List.mem_filter.1 hs).1, fun d hd hf => ?_⟩
  have hf : max t.floor b ≤ d.e := hf
  exact List.mem_filter.2 ⟨h.all d hd (by omega), decide_eq_true hf⟩
theorem why_cases (t : T) (e : Nat) (x : Tg) : t.why e x = 0 ∨ t.why e x = 7 ∨ t.why e x = 8 ∨ t.why e x = 11 := by
  unfold T.why
  split
  · simp
  · split
    · simp
    · split <;> simp
theorem add_most (t : T) (e : Nat) (x : Tg) : (t.add e x).most = t.most := by
  unfold T.add
  split <;> rfl
/-- Tags, and a row of steps of one's own. -/
structure OS (w W : World) (g bs bc : Nat) (t : T) (A : Option Addr) (n c : Nat) (D : List Stp) : Prop where
  tags : LT w W g bs bc t
  row : TOwn W 32 stK w.heap.size A n c D
  off : ∀ k, rowOf A = some k → ¬ Of g bs bc k
section
variable {w W W' : World} {g bs bc n c : Nat} {t : T} {A : Option Addr} {D : List Stp}
theorem OS.frm0 (h : OS w W g bs bc t A n c D) (f : Frm (fun _ => False) W W') : OS w W' g bs bc t A n c D := ⟨h.tags.frm0 f, h.row.frm0 f, h.off⟩
theorem OS.fresh (h : OS w W g bs bc t A n c D) {gx : Nat} (hg : W.heap.size ≤ gx) : ¬ Of g bs bc gx ∧ ∀ k, rowOf A = some k → k ≠ gx :=
  ⟨fun e => by have := h.tags.ltOf _ e; omega, fun k hk e => by have := (h.row.ge k hk).2; omega⟩
theorem OS.keep (h : OS w W g bs bc t A n c D) {gx : Nat} (f : Frm (fun k => k = gx) W W') (h1 : ¬ Of g bs bc gx) (h2 : ∀ k, rowOf A = some k → k ≠ gx) (hg : w.heap.size ≤ gx) : OS w W' g bs bc t A n c D :=
  ⟨h.tags.frm f (fun e => h1 (.inl e.symm)) (fun e => h1 (.inr (.inl e.symm))) (fun e => h1 (.inr (.inr e.symm))) (fun i e => by omega), h.row.frm f (fun k hk e => h2 k hk e), h.off⟩
theorem OS.tagged {t' : T} (h : OS w W g bs bc t A n c D) (h1 : LT w W' g bs bc t') (f : Frm (Of g bs bc) W W') : OS w W' g bs bc t' A n c D :=
  ⟨h1, h.row.frm f h.off, h.off⟩
theorem OS.app {A2 : Option Addr} {n2 c2 : Nat} {D2 : List Stp} (h : OS w W g bs bc t A n c D) (r : TOwn W' 32 stK w.heap.size A2 n2 c2 D2) (f : Frm (fun k => some k = rowOf A) W W') (o : rowOf A2 = rowOf A ∨ rowOf A2 = some W.heap.size) : OS w W' g bs bc t A2 n2 c2 D2 :=
  ⟨h.tags.frm f (fun e => h.off g e.symm (.inl rfl)) (fun e => h.off bs e.symm (.inr (.inl rfl))) (fun e => h.off bc e.symm (.inr (.inr rfl))) (fun i e => (h.row.ge i e.symm).1), r, fun k hk => by
    rcases o with o | o
    · exact h.off k (o ▸ hk)
    · rw [o] at hk
      intro e
      have := h.tags.ltOf k e
      injection hk with hk
      omega⟩
end
/-- What the look through the row reads. -/
structure RdS (r gx j c : Nat) (D : List Stp) (x : Stp) (W : World) : Prop where
  row : RowB W 32 stK r c D
  de : W.cell? ⟨r, j * 18 + 1, none⟩ = some (.int .u32 ((at_ stK D j).e : Int))
  xe : W.cell? ⟨gx, 1, none⟩ = some (.int .u32 (x.e : Int))
  stp : Blk W gx 32 (stC x).toArray
theorem RdS.of {r gx j c : Nat} {D : List Stp} {x : Stp} {W : World} (h1 : RowB W 32 stK r c D) (h2 : Blk W gx 32 (stC x).toArray) (hj : j < D.length) : RdS r gx j c D x W :=
  ⟨h1, h1.cell j 1 hj (by decide), h2.cell 1, h2⟩
theorem held_tagrow {r j c : Nat} {D : List Stp} {W : World} (h : RowB W 32 stK r c D) (hj : j < D.length) {o : Oper} {a : Act} (x : Operand) (ho : o.op = .load 30 x) (off : Nat) (hx : a.eval x = .pointer (some ⟨r, off, none⟩)) (hoff : off = j * 18 + 2) :
    (execOp a.eval o).run Try.prog W = .ok (.value (.agg (tgC (at_ stK D j).x).toArray)) W := by
  subst hoff
  obtain ⟨rest, hb, h1, h2⟩ := h
  have hx18 : stK.wd = 18 := rfl
  have hix : j * 18 + 17 < D.length * 18 := ix_lt (W := 18) hj (by decide)
  refine held_loada aggX x ho r (j * 18 + 2) hx _ (cellsT stK D ++ rest) (tgC (at_ stK D j).x) hb ?_ ?_
  · have h3 := cellsT_mid (κ := stK) D j rest hj
    rw [hx18] at h3
    have h4 : (((cellsT stK D ++ rest).drop (j * 18)).drop 2).take 16 = ((((cellsT stK D ++ rest).drop (j * 18)).take 18).drop 2).take 16 := by
      rw [List.drop_take, List.take_take]
      rfl
    rw [← List.drop_drop, h4, h3]
    exact stC_tag _
  · rw [List.length_append, cellsT_length, hx18]
    omega

set_option maxHeartbeats 16000000 in
set_option maxRecDepth 100000 in
theorem once_walk (m : Int) (A : Option Addr) (len cap : Nat) (l : List Stp) (w : World) (hm : -9223372036854775808 ≤ m ∧ m ≤ 9223372036854775807) (h : SRow w A len l) (hlc : len ≤ cap) (hcm : cap ≤ 9223372036854775807) :
    Calls Try.prog 4 #[.int .i64 m, .slice A len cap] w fun e w' => e = .returned (.bool true) ∧ Below w.heap.size w w' := by
  have H0 := hide h
  have HM := hide hm.2
  obtain ⟨mm, hmm⟩ : ∃ k : Int, k = ((newT m).most : Int) := ⟨_, rfl⟩
  have HMS := hide hmm
  have HMM : Hid (mm = if (1 : Int) > m then 1 else m) := by show _ = _; rw [hmm]; exact newT_most m
  clear h hm hmm
  have HSH := hide (fun W (h : Below w.heap.size w W) => shown_from (w := w) (W := W) h)
  go_enter Try.func4, Try.ntmps4
  go_wp2_with (first
    | (go_at_call 8; refine (HSH.out _ (Below.refl _ w)).mono ?_; rintro r w1 ⟨rfl, hb1⟩; have HB1 := hide hb1; clear hb1)
    | (go_at_call 9; refine (LT.new HB1.out m HM.out).mono ?_; rintro r w2 ⟨g, bs, bc, rfl, h2, _⟩; have HT0 := hide h2; clear h2 HB1))
  go_loopw [7, 8, 9, 10, 11, 12] (fun d i _ _ _ _ wr => ∃ (k : Nat) (t : T) (A1 : Option Addr) (n c : Nat) (D : List Stp), k ≤ Nat.min len 300 ∧ d = .slice A1 n c ∧ i = .int .i64 (k : Int) ∧ OS w wr g bs bc t A1 n c D ∧ n ≤ k ∧ Onc t D (newT m).most ∧ t.l.length ≤ k) (fun _ i _ _ _ _ _ => 300 - (intOf i).toNat)
  case atStart => exact ⟨0, _, none, 0, 0, [], by omega, rfl, rfl, ⟨HT0.out, TOwn.nil _ _, fun k hk => by cases hk⟩, by omega, ⟨rfl, (fun s hs => by cases hs), (fun d hd => by cases hd)⟩, Nat.le_refl _⟩
  case round =>
    clear HT0
    obtain ⟨k, t, A1, n, c, D, hk, rfl, rfl, hO, hnk, hN, hL⟩ := hrel
    have HO := hide hO
    have HN := hide hN
    have HL := hide hL
    have hmn : Nat.min len 300 ≤ len := Nat.min_le_left _ _
    have hmx : Nat.min len 300 ≤ 300 := Nat.min_le_right _ _
    clear hO hN hL
    by_cases hkn : k < Nat.min len 300
    · have hkl : (k : Int) < (len : Int) := by omega
      have hk1 : (k : Int) < 300 := by omega
      obtain ⟨p, rfl, hx32, HAT⟩ := H0.out.at (show k < len by omega)
      obtain ⟨x, hx⟩ : ∃ x, x = at_ stK l k := ⟨_, rfl⟩
      rw [← hx] at hx32 HAT
      have HLD := hide (HAT wr HO.out.tags.below)
      have HX32 := hide hx32
      clear HAT hx hx32
      by_cases hkk : 4 < x.k
      · have hLL := HL.out
        have HLEN : Hid (t.l.length ≤ 1000000) := by show _ ≤ _; omega
        have HLENN : Hid ((t.exp x.e).l.length ≤ k + 1) := Nat.le_trans (exp_length _ _) (by omega)
        clear hLL
        go_wp2_with (first
          | (with_reducible refine wpl_loadc aggSt (op := ⟨some 31, _, _, _, _, _⟩) rfl (.tmp 30) rfl (p.add (k * 18)) rfl (stC x) (stC_length x) HLD.out ?_)
          | ((with_reducible refine wpl_alloca (op := ⟨some 9, _, _, _, _, _⟩) rfl _ rfl _ zeroSt ?_); intro gx w3 h3 hs3 f3; have HFR := hide (HO.out.fresh hs3); have HGX : Hid (w.heap.size ≤ gx) := (by show _ ≤ _; have := HO.out.tags.below.size; omega); have HO3 := hide (HO.out.frm0 f3); have H3 := hide h3; clear h3 hs3 f3 HO)
          | ((with_reducible refine wpl_storea aggSt (op := ⟨none, _, _, _, _, _⟩) rfl (.tmp 9) (.tmp 31) rfl gx (stC x) rfl rfl _ _ H3.out (stC_length x) (stC_size _) (stC_one x) ?_); intro w4 h4 f4; have c40 : w4.cell? ⟨gx, 0, none⟩ = some (.int .i64 x.k) := h4.cell 0; have c41 : w4.cell? ⟨gx, 1, none⟩ = some (.int .u32 (x.e : Int)) := h4.cell 1; have H4 := hide h4; have HO4 := hide (HO3.out.keep f4 HFR.out.1 HFR.out.2 HGX.out); clear h4 f4 HO3 H3)
          | (go_at_call 13; refine (HO4.out.tags.exp x.e HX32.out HLEN.out).mono ?_; rintro r w5 ⟨rfl, h5, f5⟩; have HO5 := hide (HO4.out.tagged h5 f5); clear h5 f5 HO4 H4))
        go_roundw
        case rel => exact ⟨k + 1, _, A1, n, c, D, by omega, rfl, by go_num, HO5.out, by omega, HN.out.exp x.e, HLENN.out⟩
        case measure => simp [intOf]; omega
      · have HLENN : Hid ((t.add x.e x.x).l.length ≤ k + 1) := Nat.le_trans (add_length _ _ _) (by have := HL.out; omega)
        obtain ⟨y, hy⟩ : ∃ y : Int, y = (t.why x.e x.x : Int) := ⟨_, rfl⟩
        have HY := hide hy.symm
        obtain ⟨ln, hln⟩ : ∃ y, y = (t.add x.e x.x).len x.e := ⟨_, rfl⟩
        have HLN := hide hln.symm
        have hlm : (ln : Int) ≤ mm := by
          have h1 := (HO.out.tags.at_.ok.add HX32.out x.x).room x.e
          rw [add_most, HN.out.most] at h1
          rw [HMS.out, hln]
          unfold T.len
          omega
        clear hy hln
        go_wp2_with (first
          | (with_reducible refine wpl_loadc aggSt (op := ⟨some 31, _, _, _, _, _⟩) rfl (.tmp 30) rfl (p.add (k * 18)) rfl (stC x) (stC_length x) HLD.out ?_)
          | ((with_reducible refine wpl_alloca (op := ⟨some 9, _, _, _, _, _⟩) rfl _ rfl _ zeroSt ?_); intro gx w3 h3 hs3 f3; have HFR := hide (HO.out.fresh hs3); have HGX : Hid (w.heap.size ≤ gx) := (by show _ ≤ _; have := HO.out.tags.below.size; omega); have HO3 := hide (HO.out.frm0 f3); have H3 := hide h3; clear h3 hs3 f3 HO)
          | ((with_reducible refine wpl_storea aggSt (op := ⟨none, _, _, _, _, _⟩) rfl (.tmp 9) (.tmp 31) rfl gx (stC x) rfl rfl _ _ H3.out (stC_length x) (stC_size _) (stC_one x) ?_); intro w4 h4 f4; have c40 : w4.cell? ⟨gx, 0, none⟩ = some (.int .i64 x.k) := h4.cell 0; have c41 : w4.cell? ⟨gx, 1, none⟩ = some (.int .u32 (x.e : Int)) := h4.cell 1; have H4 := hide h4; have HO4 := hide (HO3.out.keep f4 HFR.out.1 HFR.out.2 HGX.out); clear h4 f4 HO3 H3)
          | (with_reducible refine wpl_loada aggX (op := ⟨some 43, _, _, _, _, _⟩) rfl (.tmp 42) rfl gx 2 rfl _ _ (tgC x.x) H4.out (stC_tag x) (stC_tag_room x) ?_)
          | (go_at_call 11; refine (HO4.out.tags.add x.e x.x HX32.out).mono ?_; rintro r w5 ⟨rfl, h5, f5⟩; rw [HY.out]; have H5 := hide (H4.out.frm f5 HFR.out.1); have HO5 := hide (HO4.out.tagged h5 f5); clear h5 f5 HO4 H4))
        clear c40 c41
        go_loopw [11, 12] (fun a b wi => ∃ j : Nat, j ≤ n ∧ a = .bool (twi D x j) ∧ b = .int .i64 (j : Int) ∧ Frm (fun _ => False) w5 wi) (fun _ b _ => n - (intOf b).toNat)
        case atStart => exact ⟨0, by omega, rfl, rfl, Frm.refl _ _⟩
        case round =>
          obtain ⟨j, hjn0, rfl, rfl, hf⟩ := hrel
          have HF := hide hf
          clear hf
          have hDl := HO5.out.row.len
          by_cases hjn : j < n
          · have hjl : (j : Int) < (n : Int) := by omega
            obtain ⟨r, rfl, HRD⟩ : ∃ r, A1 = some ⟨r, 0, none⟩ ∧ Hid (RowB w5 32 stK r c D) := by
              rcases HO5.out.row.row with ⟨_, h0, _⟩ | ⟨r, rfl, _, hr⟩
              · omega
              · exact ⟨r, rfl, hr⟩
            have HS : Hid (∀ W, Frm (fun _ => False) wr W → RdS r gx j c D x W) := fun W f => RdS.of (HRD.out.frm0 (frm_ft HF.out f)) (H5.out.frm (frm_ft HF.out f) (fun h => h)) (by omega)
            rcases htw : twi D x j with _ | _
            · by_cases hee : (at_ stK D j).e = x.e
              · have HEE : Hid (((at_ stK D j).e == x.e) = true) := by show _ = _; rw [hee]; exact beq_self_eq_true _
                have hei : ((at_ stK D j).e : Int) = (x.e : Int) := by rw [hee]
                go_wp2_with fail
                refine wp_region_held_drew (S := RdS r gx j c D x) (by kernel_rfl) (HS.out _ ((Frm.refl _ _).drew)) ?_
                intro hHeld
                obtain ⟨W0, hW0⟩ : ∃ W', W' = wr.drew := ⟨_, rfl⟩
                have fr0 : Frm (fun _ => False) wr W0 := by rw [hW0]; exact (Frm.refl _ _).drew
                rw [← hW0] at hHeld ⊢
                clear hW0
                refine tkH 0 (v := ?v1) rfl ?hy1 ?rest1
                case hy1 => (intro w hSw; go_simp; try with_reducible rfl)
                try simp only [Act.put, List.getElem_toArray, List.getElem_cons_zero, List.getElem_cons_succ, List.setIfInBounds_toArray, List.set_cons_zero, List.set_cons_succ]
                refine tkH 1 (v := ?v2) rfl ?hy2 ?rest2
                case hy2 => (intro w hSw; go_simp; try with_reducible rfl)
                try simp only [Act.put, List.getElem_toArray, List.getElem_cons_zero, List.getElem_cons_succ, List.setIfInBounds_toArray, List.set_cons_zero, List.set_cons_succ]
                refine tkH 2 (v := ?v3) rfl ?hy3 ?rest3
                case hy3 => (intro w hSw; go_simp; try with_reducible rfl)
                try simp only [Act.put, List.getElem_toArray, List.getElem_cons_zero, List.getElem_cons_succ, List.setIfInBounds_toArray, List.set_cons_zero, List.set_cons_succ]
                refine tkH 3 (v := ?v4) rfl ?hy4 ?rest4
                case hy4 => (intro w hSw; go_simp; try with_reducible rfl)
                try simp only [Act.put, List.getElem_toArray, List.getElem_cons_zero, List.getElem_cons_succ, List.setIfInBounds_toArray, List.set_cons_zero, List.set_cons_succ]
                refine tkH 4 (v := ?v5) rfl ?hy5 ?rest5
                case hy5 => (intro w hSw; go_simp; try with_reducible rfl)
                try simp only [Act.put, List.getElem_toArray, List.getElem_cons_zero, List.getElem_cons_succ, List.setIfInBounds_toArray, List.set_cons_zero, List.set_cons_succ]
                refine tkH 5 (v := ?v6) rfl ?hy6 ?rest6
                case hy6 => (intro w hSw; go_simp; try with_reducible rfl)
                try simp only [Act.put, List.getElem_toArray, List.getElem_cons_zero, List.getElem_cons_succ, List.setIfInBounds_toArray, List.set_cons_zero, List.set_cons_succ]
                refine tkH 6 (v := ?v7) rfl ?hy7 ?rest7
                case hy7 => (intro w hSw; have hSa := hSw.de; go_simp; try with_reducible rfl)
                try simp only [Act.put, List.getElem_toArray, List.getElem_cons_zero, List.getElem_cons_succ, List.setIfInBounds_toArray, List.set_cons_zero, List.set_cons_succ]
                refine tkH 7 (v := ?v8) rfl ?hy8 ?rest8
                case hy8 => (intro w hSw; go_simp; try with_reducible rfl)
                try simp only [Act.put, List.getElem_toArray, List.getElem_cons_zero, List.getElem_cons_succ, List.setIfInBounds_toArray, List.set_cons_zero, List.set_cons_succ]
                refine tkH 8 (v := ?v9) rfl ?hy9 ?rest9
                case hy9 => (intro w hSw; have hSa := hSw.xe; go_simp; try with_reducible rfl)
                try simp only [Act.put, List.getElem_toArray, List.getElem_cons_zero, List.getElem_cons_succ, List.setIfInBounds_toArray, List.set_cons_zero, List.set_cons_succ]
                refine tkH 9 (v := .bool true) rfl ?hy10 ?rest10
                case hy10 => (intro w hSw; go_simp)
                try simp only [Act.put, List.getElem_toArray, List.getElem_cons_zero, List.getElem_cons_succ, List.setIfInBounds_toArray, List.set_cons_zero, List.set_cons_succ]
                refine tkH 10 (v := ?v11) rfl ?hy11 ?rest11
                case hy11 => (intro w hSw; go_simp; try with_reducible rfl)
                try simp only [Act.put, List.getElem_toArray, List.getElem_cons_zero, List.getElem_cons_succ, List.setIfInBounds_toArray, List.set_cons_zero, List.set_cons_succ]
                refine tkH 11 (v := ?v12) rfl ?hy12 ?rest12
                case hy12 => (intro w hSw; go_simp; try with_reducible rfl)
                try simp only [Act.put, List.getElem_toArray, List.getElem_cons_zero, List.getElem_cons_succ, List.setIfInBounds_toArray, List.set_cons_zero, List.set_cons_succ]
                refine tkH 12 (v := ?v13) rfl ?hy13 ?rest13
                case hy13 => (intro w hSw; go_simp; try with_reducible rfl)
                try simp only [Act.put, List.getElem_toArray, List.getElem_cons_zero, List.getElem_cons_succ, List.setIfInBounds_toArray, List.set_cons_zero, List.set_cons_succ]
                refine tkH 13 (v := ?v14) rfl ?hy14 ?rest14
                case hy14 => (intro w hSw; go_simp; try with_reducible rfl)
                try simp only [Act.put, List.getElem_toArray, List.getElem_cons_zero, List.getElem_cons_succ, List.setIfInBounds_toArray, List.set_cons_zero, List.set_cons_succ]
                refine tkH 14 (v := ?v15) rfl ?hy15 ?rest15
                case hy15 => (intro w hSw; go_simp; try with_reducible rfl)
                try simp only [Act.put, List.getElem_toArray, List.getElem_cons_zero, List.getElem_cons_succ, List.setIfInBounds_toArray, List.set_cons_zero, List.set_cons_succ]
                refine tkH 15 (v := .agg (tgC (at_ stK D j).x).toArray) rfl ?hy16 ?rest16
                case hy16 => (intro w hSw; refine held_tagrow hSw.row (by omega) (.tmp 65) ?_ _ ?_ rfl <;> rfl)
                try simp only [Act.put, List.getElem_toArray, List.getElem_cons_zero, List.getElem_cons_succ, List.setIfInBounds_toArray, List.set_cons_zero, List.set_cons_succ]
                refine tkH 16 (v := ?v17) rfl ?hy17 ?rest17
                case hy17 => (intro w hSw; go_simp; try with_reducible rfl)
                try simp only [Act.put, List.getElem_toArray, List.getElem_cons_zero, List.getElem_cons_succ, List.setIfInBounds_toArray, List.set_cons_zero, List.set_cons_succ]
                refine tkH 17 (v := .agg (tgC x.x).toArray) rfl ?hy18 ?rest18
                case hy18 => (intro w hSw; refine held_loada aggX (.tmp 67) ?_ gx 2 ?_ _ _ (tgC x.x) hSw.stp (stC_tag x) (stC_tag_room x) <;> rfl)
                try simp only [Act.put, List.getElem_toArray, List.getElem_cons_zero, List.getElem_cons_succ, List.setIfInBounds_toArray, List.set_cons_zero, List.set_cons_succ]
                refine tkH 18 (v := .bool (decide ((at_ stK D j).x = x.x))) rfl ?hy19 ?rest19
                case hy19 => (intro w hSw; refine held_eql 30 30 (.tmp 66) (.tmp 68) ?_ (tgC (at_ stK D j).x) (tgC x.x) ?_ ?_ _ (eq_tag _ _ _) tag_guard <;> rfl)
                try simp only [Act.put, List.getElem_toArray, List.getElem_cons_zero, List.getElem_cons_succ, List.setIfInBounds_toArray, List.set_cons_zero, List.set_cons_succ]
                refine tkH 19 (v := ?v20) rfl ?hy20 ?rest20
                case hy20 => (intro w hSw; go_simp; try with_reducible rfl)
                try simp only [Act.put, List.getElem_toArray, List.getElem_cons_zero, List.getElem_cons_succ, List.setIfInBounds_toArray, List.set_cons_zero, List.set_cons_succ]
                refine tkH 20 (v := ?v21) rfl ?hy21 ?rest21
                case hy21 => (intro w hSw; go_simp; try with_reducible rfl)
                try simp only [Act.put, List.getElem_toArray, List.getElem_cons_zero, List.getElem_cons_succ, List.setIfInBounds_toArray, List.set_cons_zero, List.set_cons_succ]
                refine tkH 21 (v := ?v22) rfl ?hy22 ?rest22
                case hy22 => (intro w hSw; go_simp; try with_reducible rfl)
                try simp only [Act.put, List.getElem_toArray, List.getElem_cons_zero, List.getElem_cons_succ, List.setIfInBounds_toArray, List.set_cons_zero, List.set_cons_succ]
                refine wpAnyH_done (by kernel_rfl) ?_ _
                clear hHeld
                go_wp2_with fail
                go_roundw
                case rel => exact ⟨j + 1, by omega, by rw [twi_succ hjn, htw, HEE.out]; rfl, by go_num, frm_ft HF.out fr0⟩
                case measure => simp [intOf]; omega
              · have HNE : Hid (((at_ stK D j).e == x.e) = false) := beq_eq_false_iff_ne.2 hee
                have hei : ¬ ((at_ stK D j).e : Int) = (x.e : Int) := by omega
                go_wp2_with fail
                refine wp_region_held_drew (S := RdS r gx j c D x) (by kernel_rfl) (HS.out _ ((Frm.refl _ _).drew)) ?_
                intro hHeld
                obtain ⟨W0, hW0⟩ : ∃ W', W' = wr.drew := ⟨_, rfl⟩
                have fr0 : Frm (fun _ => False) wr W0 := by rw [hW0]; exact (Frm.refl _ _).drew
                rw [← hW0] at hHeld ⊢
                clear hW0
                refine tkH 0 (v := ?v23) rfl ?hy23 ?rest23
                case hy23 => (intro w hSw; go_simp; try with_reducible rfl)
                try simp only [Act.put, List.getElem_toArray, List.getElem_cons_zero, List.getElem_cons_succ, List.setIfInBounds_toArray, List.set_cons_zero, List.set_cons_succ]
                refine tkH 1 (v := ?v24) rfl ?hy24 ?rest24
                case hy24 => (intro w hSw; go_simp; try with_reducible rfl)
                try simp only [Act.put, List.getElem_toArray, List.getElem_cons_zero, List.getElem_cons_succ, List.setIfInBounds_toArray, List.set_cons_zero, List.set_cons_succ]
                refine tkH 2 (v := ?v25) rfl ?hy25 ?rest25
                case hy25 => (intro w hSw; go_simp; try with_reducible rfl)
                try simp only [Act.put, List.getElem_toArray, List.getElem_cons_zero, List.getElem_cons_succ, List.setIfInBounds_toArray, List.set_cons_zero, List.set_cons_succ]
                refine tkH 3 (v := ?v26) rfl ?hy26 ?rest26
                case hy26 => (intro w hSw; go_simp; try with_reducible rfl)
                try simp only [Act.put, List.getElem_toArray, List.getElem_cons_zero, List.getElem_cons_succ, List.setIfInBounds_toArray, List.set_cons_zero, List.set_cons_succ]
                refine tkH 4 (v := ?v27) rfl ?hy27 ?rest27
                case hy27 => (intro w hSw; go_simp; try with_reducible rfl)
                try simp only [Act.put, List.getElem_toArray, List.getElem_cons_zero, List.getElem_cons_succ, List.setIfInBounds_toArray, List.set_cons_zero, List.set_cons_succ]
                refine tkH 5 (v := ?v28) rfl ?hy28 ?rest28
                case hy28 => (intro w hSw; go_simp; try with_reducible rfl)
                try simp only [Act.put, List.getElem_toArray, List.getElem_cons_zero, List.getElem_cons_succ, List.setIfInBounds_toArray, List.set_cons_zero, List.set_cons_succ]
                refine tkH 6 (v := ?v29) rfl ?hy29 ?rest29
                case hy29 => (intro w hSw; have hSa := hSw.de; go_simp; try with_reducible rfl)
                try simp only [Act.put, List.getElem_toArray, List.getElem_cons_zero, List.getElem_cons_succ, List.setIfInBounds_toArray, List.set_cons_zero, List.set_cons_succ]
                refine tkH 7 (v := ?v30) rfl ?hy30 ?rest30
                case hy30 => (intro w hSw; go_simp; try with_reducible rfl)
                try simp only [Act.put, List.getElem_toArray, List.getElem_cons_zero, List.getElem_cons_succ, List.setIfInBounds_toArray, List.set_cons_zero, List.set_cons_succ]
                refine tkH 8 (v := ?v31) rfl ?hy31 ?rest31
                case hy31 => (intro w hSw; have hSa := hSw.xe; go_simp; try with_reducible rfl)
                try simp only [Act.put, List.getElem_toArray, List.getElem_cons_zero, List.getElem_cons_succ, List.setIfInBounds_toArray, List.set_cons_zero, List.set_cons_succ]
                refine tkH 9 (v := .bool false) rfl ?hy32 ?rest32
                case hy32 => (intro w hSw; go_simp)
                try simp only [Act.put, List.getElem_toArray, List.getElem_cons_zero, List.getElem_cons_succ, List.setIfInBounds_toArray, List.set_cons_zero, List.set_cons_succ]
                refine tkH 10 (v := ?v33) rfl ?hy33 ?rest33
                case hy33 => (intro w hSw; go_simp; try with_reducible rfl)
                try simp only [Act.put, List.getElem_toArray, List.getElem_cons_zero, List.getElem_cons_succ, List.setIfInBounds_toArray, List.set_cons_zero, List.set_cons_succ]
                refine wpAnyH_take (i := 11) (v := undef) rfl (by kernel_rfl) (by kernel_rfl) (by kernel_rfl) (fun _ _ _ h => h) (Or.inr ⟨by rfl, rfl⟩) (by assumption) ?rest34
                try simp only [Act.put, List.getElem_toArray, List.getElem_cons_zero, List.getElem_cons_succ, List.setIfInBounds_toArray, List.set_cons_zero, List.set_cons_succ]
                refine wpAnyH_take (i := 12) (v := undef) rfl (by kernel_rfl) (by kernel_rfl) (by kernel_rfl) (fun _ _ _ h => h) (Or.inr ⟨by rfl, rfl⟩) (by assumption) ?rest35
                try simp only [Act.put, List.getElem_toArray, List.getElem_cons_zero, List.getElem_cons_succ, List.setIfInBounds_toArray, List.set_cons_zero, List.set_cons_succ]
                refine wpAnyH_take (i := 13) (v := undef) rfl (by kernel_rfl) (by kernel_rfl) (by kernel_rfl) (fun _ _ _ h => h) (Or.inr ⟨by rfl, rfl⟩) (by assumption) ?rest36
                try simp only [Act.put, List.getElem_toArray, List.getElem_cons_zero, List.getElem_cons_succ, List.setIfInBounds_toArray, List.set_cons_zero, List.set_cons_succ]
                refine wpAnyH_take (i := 14) (v := undef) rfl (by kernel_rfl) (by kernel_rfl) (by kernel_rfl) (fun _ _ _ h => h) (Or.inr ⟨by rfl, rfl⟩) (by assumption) ?rest37
                try simp only [Act.put, List.getElem_toArray, List.getElem_cons_zero, List.getElem_cons_succ, List.setIfInBounds_toArray, List.set_cons_zero, List.set_cons_succ]
                refine wpAnyH_take (i := 15) (v := undef) rfl (by kernel_rfl) (by kernel_rfl) (by kernel_rfl) (fun _ _ _ h => h) (Or.inr ⟨by rfl, rfl⟩) (by assumption) ?rest38
                try simp only [Act.put, List.getElem_toArray, List.getElem_cons_zero, List.getElem_cons_succ, List.setIfInBounds_toArray, List.set_cons_zero, List.set_cons_succ]
                refine wpAnyH_take (i := 16) (v := undef) rfl (by kernel_rfl) (by kernel_rfl) (by kernel_rfl) (fun _ _ _ h => h) (Or.inr ⟨by rfl, rfl⟩) (by assumption) ?rest39
                try simp only [Act.put, List.getElem_toArray, List.getElem_cons_zero, List.getElem_cons_succ, List.setIfInBounds_toArray, List.set_cons_zero, List.set_cons_succ]
                refine wpAnyH_take (i := 17) (v := undef) rfl (by kernel_rfl) (by kernel_rfl) (by kernel_rfl) (fun _ _ _ h => h) (Or.inr ⟨by rfl, rfl⟩) (by assumption) ?rest40
                try simp only [Act.put, List.getElem_toArray, List.getElem_cons_zero, List.getElem_cons_succ, List.setIfInBounds_toArray, List.set_cons_zero, List.set_cons_succ]
                refine wpAnyH_take (i := 18) (v := undef) rfl (by kernel_rfl) (by kernel_rfl) (by kernel_rfl) (fun _ _ _ h => h) (Or.inr ⟨by rfl, rfl⟩) (by assumption) ?rest41
                try simp only [Act.put, List.getElem_toArray, List.getElem_cons_zero, List.getElem_cons_succ, List.setIfInBounds_toArray, List.set_cons_zero, List.set_cons_succ]
                refine tkH 19 (v := ?v42) rfl ?hy42 ?rest42
                case hy42 => (intro w hSw; go_simp; try with_reducible rfl)
                try simp only [Act.put, List.getElem_toArray, List.getElem_cons_zero, List.getElem_cons_succ, List.setIfInBounds_toArray, List.set_cons_zero, List.set_cons_succ]
                refine tkH 20 (v := ?v43) rfl ?hy43 ?rest43
                case hy43 => (intro w hSw; go_simp; try with_reducible rfl)
                try simp only [Act.put, List.getElem_toArray, List.getElem_cons_zero, List.getElem_cons_succ, List.setIfInBounds_toArray, List.set_cons_zero, List.set_cons_succ]
                refine tkH 21 (v := ?v44) rfl ?hy44 ?rest44
                case hy44 => (intro w hSw; go_simp; try with_reducible rfl)
                try simp only [Act.put, List.getElem_toArray, List.getElem_cons_zero, List.getElem_cons_succ, List.setIfInBounds_toArray, List.set_cons_zero, List.set_cons_succ]
                refine wpAnyH_done (by kernel_rfl) ?_ _
                clear hHeld
                go_wp2_with fail
                go_roundw
                case rel => exact ⟨j + 1, by omega, by rw [twi_succ hjn, htw, HNE.out]; rfl, by go_num, frm_ft HF.out fr0⟩
                case measure => simp [intOf]; omega
            · go_wp2_with fail
              refine wp_region_held_drew (S := RdS r gx j c D x) (by kernel_rfl) (HS.out _ ((Frm.refl _ _).drew)) ?_
              intro hHeld
              obtain ⟨W0, hW0⟩ : ∃ W', W' = wr.drew := ⟨_, rfl⟩
              have fr0 : Frm (fun _ => False) wr W0 := by rw [hW0]; exact (Frm.refl _ _).drew
              rw [← hW0] at hHeld ⊢
              clear hW0
              refine tkH 0 (v := ?v45) rfl ?hy45 ?rest45
              case hy45 => (intro w hSw; go_simp; try with_reducible rfl)
              try simp only [Act.put, List.getElem_toArray, List.getElem_cons_zero, List.getElem_cons_succ, List.setIfInBounds_toArray, List.set_cons_zero, List.set_cons_succ]
              refine tkH 1 (v := ?v46) rfl ?hy46 ?rest46
              case hy46 => (intro w hSw; go_simp; try with_reducible rfl)
              try simp only [Act.put, List.getElem_toArray, List.getElem_cons_zero, List.getElem_cons_succ, List.setIfInBounds_toArray, List.set_cons_zero, List.set_cons_succ]
              refine wpAnyH_take (i := 2) (v := undef) rfl (by kernel_rfl) (by kernel_rfl) (by kernel_rfl) (fun _ _ _ h => h) (Or.inr ⟨by rfl, rfl⟩) (by assumption) ?rest47
              try simp only [Act.put, List.getElem_toArray, List.getElem_cons_zero, List.getElem_cons_succ, List.setIfInBounds_toArray, List.set_cons_zero, List.set_cons_succ]
              refine wpAnyH_take (i := 3) (v := undef) rfl (by kernel_rfl) (by kernel_rfl) (by kernel_rfl) (fun _ _ _ h => h) (Or.inr ⟨by rfl, rfl⟩) (by assumption) ?rest48
              try simp only [Act.put, List.getElem_toArray, List.getElem_cons_zero, List.getElem_cons_succ, List.setIfInBounds_toArray, List.set_cons_zero, List.set_cons_succ]
              refine wpAnyH_take (i := 4) (v := undef) rfl (by kernel_rfl) (by kernel_rfl) (by kernel_rfl) (fun _ _ _ h => h) (Or.inr ⟨by rfl, rfl⟩) (by assumption) ?rest49
              try simp only [Act.put, List.getElem_toArray, List.getElem_cons_zero, List.getElem_cons_succ, List.setIfInBounds_toArray, List.set_cons_zero, List.set_cons_succ]
              refine wpAnyH_take (i := 5) (v := undef) rfl (by kernel_rfl) (by kernel_rfl) (by kernel_rfl) (fun _ _ _ h => h) (Or.inr ⟨by rfl, rfl⟩) (by assumption) ?rest50
              try simp only [Act.put, List.getElem_toArray, List.getElem_cons_zero, List.getElem_cons_succ, List.setIfInBounds_toArray, List.set_cons_zero, List.set_cons_succ]
              refine wpAnyH_take (i := 6) (v := undef) rfl (by kernel_rfl) (by kernel_rfl) (by kernel_rfl) (fun _ _ _ h => h) (Or.inr ⟨by rfl, rfl⟩) (by assumption) ?rest51
              try simp only [Act.put, List.getElem_toArray, List.getElem_cons_zero, List.getElem_cons_succ, List.setIfInBounds_toArray, List.set_cons_zero, List.set_cons_succ]
              refine wpAnyH_take (i := 7) (v := undef) rfl (by kernel_rfl) (by kernel_rfl) (by kernel_rfl) (fun _ _ _ h => h) (Or.inr ⟨by rfl, rfl⟩) (by assumption) ?rest52
              try simp only [Act.put, List.getElem_toArray, List.getElem_cons_zero, List.getElem_cons_succ, List.setIfInBounds_toArray, List.set_cons_zero, List.set_cons_succ]
              refine wpAnyH_take (i := 8) (v := undef) rfl (by kernel_rfl) (by kernel_rfl) (by kernel_rfl) (fun _ _ _ h => h) (Or.inr ⟨by rfl, rfl⟩) (by assumption) ?rest53
              try simp only [Act.put, List.getElem_toArray, List.getElem_cons_zero, List.getElem_cons_succ, List.setIfInBounds_toArray, List.set_cons_zero, List.set_cons_succ]
              refine wpAnyH_take (i := 9) (v := undef) rfl (by kernel_rfl) (by kernel_rfl) (by kernel_rfl) (fun _ _ _ h => h) (Or.inr ⟨by rfl, rfl⟩) (by assumption) ?rest54
              try simp only [Act.put, List.getElem_toArray, List.getElem_cons_zero, List.getElem_cons_succ, List.setIfInBounds_toArray, List.set_cons_zero, List.set_cons_succ]
              refine wpAnyH_take (i := 10) (v := undef) rfl (by kernel_rfl) (by kernel_rfl) (by kernel_rfl) (fun _ _ _ h => h) (Or.inr ⟨by rfl, rfl⟩) (by assumption) ?rest55
              try simp only [Act.put, List.getElem_toArray, List.getElem_cons_zero, List.getElem_cons_succ, List.setIfInBounds_toArray, List.set_cons_zero, List.set_cons_succ]
              refine wpAnyH_take (i := 11) (v := undef) rfl (by kernel_rfl) (by kernel_rfl) (by kernel_rfl) (fun _ _ _ h => h) (Or.inr ⟨by rfl, rfl⟩) (by assumption) ?rest56
              try simp only [Act.put, List.getElem_toArray, List.getElem_cons_zero, List.getElem_cons_succ, List.setIfInBounds_toArray, List.set_cons_zero, List.set_cons_succ]
              refine wpAnyH_take (i := 12) (v := undef) rfl (by kernel_rfl) (by kernel_rfl) (by kernel_rfl) (fun _ _ _ h => h) (Or.inr ⟨by rfl, rfl⟩) (by assumption) ?rest57
              try simp only [Act.put, List.getElem_toArray, List.getElem_cons_zero, List.getElem_cons_succ, List.setIfInBounds_toArray, List.set_cons_zero, List.set_cons_succ]
              refine wpAnyH_take (i := 13) (v := undef) rfl (by kernel_rfl) (by kernel_rfl) (by kernel_rfl) (fun _ _ _ h => h) (Or.inr ⟨by rfl, rfl⟩) (by assumption) ?rest58
              try simp only [Act.put, List.getElem_toArray, List.getElem_cons_zero, List.getElem_cons_succ, List.setIfInBounds_toArray, List.set_cons_zero, List.set_cons_succ]
              refine wpAnyH_take (i := 14) (v := undef) rfl (by kernel_rfl) (by kernel_rfl) (by kernel_rfl) (fun _ _ _ h => h) (Or.inr ⟨by rfl, rfl⟩) (by assumption) ?rest59
              try simp only [Act.put, List.getElem_toArray, List.getElem_cons_zero, List.getElem_cons_succ, List.setIfInBounds_toArray, List.set_cons_zero, List.set_cons_succ]
              refine wpAnyH_take (i := 15) (v := undef) rfl (by kernel_rfl) (by kernel_rfl) (by kernel_rfl) (fun _ _ _ h => h) (Or.inr ⟨by rfl, rfl⟩) (by assumption) ?rest60
              try simp only [Act.put, List.getElem_toArray, List.getElem_cons_zero, List.getElem_cons_succ, List.setIfInBounds_toArray, List.set_cons_zero, List.set_cons_succ]
              refine wpAnyH_take (i := 16) (v := undef) rfl (by kernel_rfl) (by kernel_rfl) (by kernel_rfl) (fun _ _ _ h => h) (Or.inr ⟨by rfl, rfl⟩) (by assumption) ?rest61
              try simp only [Act.put, List.getElem_toArray, List.getElem_cons_zero, List.getElem_cons_succ, List.setIfInBounds_toArray, List.set_cons_zero, List.set_cons_succ]
              refine wpAnyH_take (i := 17) (v := undef) rfl (by kernel_rfl) (by kernel_rfl) (by kernel_rfl) (fun _ _ _ h => h) (Or.inr ⟨by rfl, rfl⟩) (by assumption) ?rest62
              try simp only [Act.put, List.getElem_toArray, List.getElem_cons_zero, List.getElem_cons_succ, List.setIfInBounds_toArray, List.set_cons_zero, List.set_cons_succ]
              refine wpAnyH_take (i := 18) (v := undef) rfl (by kernel_rfl) (by kernel_rfl) (by kernel_rfl) (fun _ _ _ h => h) (Or.inr ⟨by rfl, rfl⟩) (by assumption) ?rest63
              try simp only [Act.put, List.getElem_toArray, List.getElem_cons_zero, List.getElem_cons_succ, List.setIfInBounds_toArray, List.set_cons_zero, List.set_cons_succ]
              refine wpAnyH_take (i := 19) (v := undef) rfl (by kernel_rfl) (by kernel_rfl) (by kernel_rfl) (fun _ _ _ h => h) (Or.inr ⟨by rfl, rfl⟩) (by assumption) ?rest64
              try simp only [Act.put, List.getElem_toArray, List.getElem_cons_zero, List.getElem_cons_succ, List.setIfInBounds_toArray, List.set_cons_zero, List.set_cons_succ]
              refine tkH 20 (v := ?v65) rfl ?hy65 ?rest65
              case hy65 => (intro w hSw; go_simp; try with_reducible rfl)
              try simp only [Act.put, List.getElem_toArray, List.getElem_cons_zero, List.getElem_cons_succ, List.setIfInBounds_toArray, List.set_cons_zero, List.set_cons_succ]
              refine tkH 21 (v := ?v66) rfl ?hy66 ?rest66
              case hy66 => (intro w hSw; go_simp; try with_reducible rfl)
              try simp only [Act.put, List.getElem_toArray, List.getElem_cons_zero, List.getElem_cons_succ, List.setIfInBounds_toArray, List.set_cons_zero, List.set_cons_succ]
              refine wpAnyH_done (by kernel_rfl) ?_ _
              clear hHeld
              go_wp2_with fail
              go_roundw
              case rel => exact ⟨j + 1, by omega, by rw [twi_succ hjn, htw]; rfl, by go_num, frm_ft HF.out fr0⟩
              case measure => simp [intOf]; omega
          · have hjl : ¬ (j : Int) < (n : Int) := by omega
            obtain rfl : j = n := by omega
            have H6 := hide (H5.out.frm HF.out (fun h => h))
            have HO6 := hide (HO5.out.frm0 HF.out)
            clear HO5 H5
            have HO5 := HO6
            clear HO6
            have c61 : wr.cell? ⟨gx, 1, none⟩ = some (.int .u32 (x.e : Int)) := H6.out.cell 1
            rcases why_cases t x.e x.x with h0 | h0 | h0 | h0
            · obtain rfl : y = 0 := by rw [← HY.out, h0]; rfl
              have htw : twi D x j = false := by rw [← hDl]; exact HN.out.why0 h0
              rw [htw]
              clear htw
              have HNX := hide (HN.out.add h0)
              clear h0
              go_wp2_with (first
                | (go_at_call 17; refine (HO5.out.tags.len x.e HX32.out).mono ?_; rintro r w7 ⟨rfl, hw⟩; rw [hw, HLN.out]; clear hw)
                | (with_reducible refine wpl_held (op := ⟨some 91, _, _, _, _, _⟩) (.int .i64 mm) (held_maxU (.tmp 90) (.const (.int .i64 1)) 3 3 rfl .i64 m 1 mm rfl rfl HMM.out) rfl ?_)
                | (with_reducible refine wpl_held (op := ⟨some 97, _, _, _, _, _⟩) (.agg (stC x).toArray) (held_loada aggSt (.tmp 9) rfl gx 0 rfl _ _ (stC x) H6.out (stC_whole x) (stC_room x)) rfl ?_)
                | (refine wpl_made1 isSt (op := ⟨some 98, _, _, _, _, _⟩) rfl (.tmp 97) rfl x rfl ?_; intro g8 w8 h8 hs8 f8; have HO8 := hide (HO5.out.frm0 f8); have H8 := hide h8; clear h8 hs8 f8 HO5 H6)
                | (refine wpl_appT isSt (op := ⟨some 99, _, _, _, _, _⟩) rfl (.tmp 96) (.tmp 98) rfl _ w.heap.size A1 j c D rfl HO8.out.row (some ⟨g8, 0, none⟩) 1 1 [x] rfl (SrcT.one H8.out) (j + 1) rfl (by omega) HO8.out.tags.below.size ?_; intro A2 c2 w9 h9 f9 o9; have HO9 := hide (HO8.out.app h9 f9 o9); clear h9 f9 o9 HO8 H8))
              go_roundw
              case rel => exact ⟨k + 1, _, A2, j + 1, c2, _, by omega, rfl, by go_num, HO9.out, by omega, HNX.out, HLENN.out⟩
              case measure => simp [intOf]; omega
            · obtain rfl : y = 7 := by rw [← HY.out, h0]; rfl
              have htw : twi D x j = true := by rw [← hDl]; exact HN.out.why7 h0
              rw [htw]
              clear htw
              have HNX := hide (HN.out.same (by rw [h0]; decide))
              clear h0
              go_wp2_with (first
                | (go_at_call 17; refine (HO5.out.tags.len x.e HX32.out).mono ?_; rintro r w7 ⟨rfl, hw⟩; rw [hw, HLN.out]; clear hw)
                | (with_reducible refine wpl_held (op := ⟨some 91, _, _, _, _, _⟩) (.int .i64 mm) (held_maxU (.tmp 90) (.const (.int .i64 1)) 3 3 rfl .i64 m 1 mm rfl rfl HMM.out) rfl ?_))
              go_roundw
              case rel => exact ⟨k + 1, _, A1, j, c, _, by omega, rfl, by go_num, HO5.out, by omega, HNX.out, HLENN.out⟩
              case measure => simp [intOf]; omega
            · obtain rfl : y = 8 := by rw [← HY.out, h0]; rfl
              obtain ⟨tw, htw⟩ : ∃ b, b = twi D x j := ⟨_, rfl⟩
              rw [← htw]
              clear htw
              have HNX := hide (HN.out.same (by rw [h0]; decide))
              clear h0
              go_wp2_with (first
                | (go_at_call 17; refine (HO5.out.tags.len x.e HX32.out).mono ?_; rintro r w7 ⟨rfl, hw⟩; rw [hw, HLN.out]; clear hw)
                | (with_reducible refine wpl_held (op := ⟨some 91, _, _, _, _, _⟩) (.int .i64 mm) (held_maxU (.tmp 90) (.const (.int .i64 1)) 3 3 rfl .i64 m 1 mm rfl rfl HMM.out) rfl ?_))
              go_roundw
              case rel => exact ⟨k + 1, _, A1, j, c, _, by omega, rfl, by go_num, HO5.out, by omega, HNX.out, HLENN.out⟩
              case measure => simp [intOf]; omega
            · obtain rfl : y = 11 := by rw [← HY.out, h0]; rfl
              obtain ⟨tw, htw⟩ : ∃ b, b = twi D x j := ⟨_, rfl⟩
              rw [← htw]
              clear htw
              have HNX := hide (HN.out.same (by rw [h0]; decide))
              clear h0
              go_wp2_with (first
                | (go_at_call 17; refine (HO5.out.tags.len x.e HX32.out).mono ?_; rintro r w7 ⟨rfl, hw⟩; rw [hw, HLN.out]; clear hw)
                | (with_reducible refine wpl_held (op := ⟨some 91, _, _, _, _, _⟩) (.int .i64 mm) (held_maxU (.tmp 90) (.const (.int .i64 1)) 3 3 rfl .i64 m 1 mm rfl rfl HMM.out) rfl ?_))
              go_roundw
              case rel => exact ⟨k + 1, _, A1, j, c, _, by omega, rfl, by go_num, HO5.out, by omega, HNX.out, HLENN.out⟩
              case measure => simp [intOf]; omega
    · by_cases hkl2 : k < len
      · have hkl : (k : Int) < (len : Int) := by omega
        have hk1 : ¬ (k : Int) < 300 := by have := min_end hkn hkl2; omega
        go_wp2_with fail
        go_ret
        exact ⟨rfl, HO.out.tags.below⟩
      · have hkl : ¬ (k : Int) < (len : Int) := by omega
        go_wp2_with fail
        go_ret
        exact ⟨rfl, HO.out.tags.below⟩
end Go.Proofs.Ytdilfiojfjgejaa
