/-
  ReplayApart's walk: whatever comes in, the law returns true, and what lay lies as it lay.
-/
import Derived.Test.YtdilfiojfjgejaaRpSt
import Derived.Test.YtdilfiojfjgejaaQuietC
namespace Go.Proofs.Ytdilfiojfjgejaa
set_option linter.unusedVariables false
set_option linter.unusedSimpArgs false
open Go.RowKit

theorem quiet_val {P : Program} {C : World → Prop} {o : Oper} {a : Act} {ops : Array Oper} {K : Act → Prop} (v : Value) (hv : ∀ w, C w → (execOp a.eval o).run P w = .ok (.value v) w) (h : K (a.put o.dst v)) (hw : Region.wanted o (yielded ops a.tmps) = true) :
    if Region.wanted o (yielded ops a.tmps) = true then o.quiet P a C K else K (a.put o.dst undef) := by
  rw [if_pos hw]
  refine ⟨v, fun w hc => ?_, h⟩
  unfold Oper.quietAt
  rw [hv w hc]
  exact ⟨rfl, rfl⟩
theorem LT.ltOf {w W : World} {g bs bc : Nat} {t : T} (h : LT w W g bs bc t) : ∀ i, Of g bs bc i → i < W.heap.size := by
  intro i hi
  have := h.at_.lt
  unfold Of at hi
  omega
theorem LT.keep {w W W' : World} {g bs bc gx : Nat} {t : T} (h : LT w W g bs bc t) (f : Frm (fun k => k = gx) W W') (hn : ¬ Of g bs bc gx) (hS : ∀ i, i = gx → w.heap.size ≤ i) : LT w W' g bs bc t :=
  h.frm f (fun e => hn (.inl e.symm)) (fun e => hn (.inr (.inl e.symm))) (fun e => hn (.inr (.inr e.symm))) hS

theorem min_end {k len n : Nat} (h : ¬ k < Nat.min len n) (hl : k < len) : ¬ k < n := fun hn => h (Nat.lt_min.2 ⟨hl, hn⟩)
/-- b is what a is of the epoch E. -/
structure Ap (E : Nat) (a b : T) : Prop where
  most : a.most = b.most
  floA : a.floor = 0
  floB : b.floor = 0
  same : b.l = a.l.filter fun s => s.e == E
theorem Ap.has {E : Nat} {a b : T} (h : Ap E a b) (x : Tg) : b.has E x = a.has E x := by
  unfold T.has
  refine decide_eq_decide.2 ?_
  rw [h.same, List.mem_filter]
  simp
theorem Ap.len {E : Nat} {a b : T} (h : Ap E a b) : b.len E = a.len E := by
  unfold T.len cnt
  rw [h.same, List.countP_filter]
  refine List.countP_congr fun s _ => ?_
  simp
theorem Ap.why {E : Nat} {a b : T} (h : Ap E a b) (x : Tg) : b.why E x = a.why E x := by
  unfold T.why
  rw [h.floA, h.floB, h.has, h.len, h.most]
theorem Ap.both {E : Nat} {a b : T} (h : Ap E a b) (x : Tg) : Ap E (a.add E x) (b.add E x) := by
  unfold T.add
  rw [h.why x]
  split
  · refine ⟨h.most, h.floA, h.floB, ?_⟩
    show b.l ++ _ = List.filter _ (a.l ++ _)
    rw [List.filter_append, h.same, List.filter_cons_of_pos (by simp), List.filter_nil]
  · exact h
theorem Ap.one {E e : Nat} {a b : T} (h : Ap E a b) (x : Tg) (he : e ≠ E) : Ap E (a.add e x) b := by
  unfold T.add
  split
  · refine ⟨h.most, h.floA, h.floB, ?_⟩
    show b.l = List.filter _ (a.l ++ _)
    rw [List.filter_append, h.same, List.filter_cons_of_neg (by simpa using he), List.filter_nil, List.append_nil]
  · exact h

set_option maxHeartbeats 16000000 in
set_option maxRecDepth 100000 in
theorem apart_walk (m : Int) (A : Option Addr) (len cap : Nat) (l : List Stp) (E : Nat) (w : World) (hm : -9223372036854775808 ≤ m ∧ m ≤ 9223372036854775807) (h : SRow w A len l) (hlc : len ≤ cap) (hcm : cap ≤ 9223372036854775807) (he : E < 4294967296) :
    Calls Try.prog 6 #[.int .i64 m, .slice A len cap, .int .u32 (E : Int)] w fun e w' => e = .returned (.bool true) ∧ Below w.heap.size w w' := by
  have H0 := hide h
  have HE := hide he
  have HM := hide hm.2
  clear h hm
  have HSH := hide (fun W (h : Below w.heap.size w W) => shown_from (w := w) (W := W) h)
  go_enter Try.func6, Try.ntmps6
  go_wp2_with (first
    | (go_at_call 8; refine (HSH.out _ (Below.refl _ w)).mono ?_; rintro r w1 ⟨rfl, hb1⟩; have HB1 := hide hb1; clear hb1)
    | (go_at_call 9; refine (LT.new HB1.out m HM.out).mono ?_; rintro r w2 ⟨ga, sa, ca, rfl, h2, _⟩; have HTA := hide h2; clear h2 HB1)
    | (go_at_call 9; refine (LT.new HTA.out.below m HM.out).mono ?_; rintro r w3 ⟨gb, sb, cb, rfl, h3, f3, n1, n2, n3⟩; have HAP0 : Hid (∀ i, Of ga sa ca i → ¬ Of gb sb cb i) := (fun i h1 h2 => by have := HTA.out.at_.lt; unfold Of at h1 h2; omega); have HTB0 := hide h3; have HTA0 := hide (HTA.out.frm0 f3); clear h3 f3 n1 n2 n3 HTA))
  go_loopw [10, 11, 12] (fun i _ _ wr => ∃ (k : Nat) (a b : T), k ≤ Nat.min len 200 ∧ i = .int .i64 (k : Int) ∧ LT w wr ga sa ca a ∧ LT w wr gb sb cb b ∧ Ap E a b) (fun i _ _ _ => 200 - (intOf i).toNat)
  case atStart => exact ⟨0, _, _, by omega, rfl, HTA0.out, HTB0.out, ⟨rfl, rfl, rfl, rfl⟩⟩
  case round =>
    clear HTA0 HTB0
    have HAP := HAP0
    clear HAP0
    obtain ⟨k, a, b, hk, rfl, hA, hB, hP⟩ := hrel
    have HTA := hide hA
    have HTB := hide hB
    have HP := hide hP
    have hmn : Nat.min len 200 ≤ len := Nat.min_le_left _ _
    have hmx : Nat.min len 200 ≤ 200 := Nat.min_le_right _ _
    clear hA hB hP
    by_cases hkn : k < Nat.min len 200
    · have hkl : (k : Int) < (len : Int) := by omega
      have hk1 : (k : Int) < 200 := by omega
      obtain ⟨p, rfl, hx32, HAT⟩ := H0.out.at (show k < len by omega)
      obtain ⟨x, hx⟩ : ∃ x, x = at_ stK l k := ⟨_, rfl⟩
      rw [← hx] at hx32 HAT
      have HLD := hide (HAT wr HTA.out.below)
      have HX32 := hide hx32
      clear HAT hx hx32
      by_cases hkk : x.k ≤ 4
      · have hkk' : ¬ (4 : Int) < x.k := by omega
        by_cases hee : E = x.e
        · subst hee
          have HWHY : Hid (b.why x.e x.x = a.why x.e x.x) := HP.out.why x.x
          have HNEXT := hide (HP.out.both x.x)
          have hha := HNEXT.out.has x.x
          have hla := HNEXT.out.len
          obtain ⟨hs, hhs⟩ : ∃ h, h = (a.add x.e x.x).has x.e x.x := ⟨_, rfl⟩
          obtain ⟨cn, hcn⟩ : ∃ h, h = (a.add x.e x.x).len x.e := ⟨_, rfl⟩
          have HHA : Hid ((a.add x.e x.x).has x.e x.x = hs) := hhs.symm
          have HHB : Hid ((b.add x.e x.x).has x.e x.x = hs) := hha.trans hhs.symm
          have HLA : Hid ((a.add x.e x.x).len x.e = cn) := hcn.symm
          have HLB : Hid ((b.add x.e x.x).len x.e = cn) := hla.trans hcn.symm
          clear hha hla hhs hcn
          go_wp2_with (first
          | (with_reducible refine wpl_loadc aggSt (op := ⟨some 37, _, _, _, _, _⟩) rfl (.tmp 36) rfl (p.add (k * 18)) rfl (stC x) (stC_length x) HLD.out ?_)
          | ((with_reducible refine wpl_alloca (op := ⟨some 11, _, _, _, _, _⟩) rfl _ rfl _ zeroSt ?_); intro gx w3 h3 hs3 f3; have H3 := hide h3; have HNA : Hid (¬ Of ga sa ca gx) := (fun h => by have := HTA.out.ltOf _ h; omega); have HNB : Hid (¬ Of gb sb cb gx) := (fun h => by have := HTB.out.ltOf _ h; omega); have HGX : Hid (w.heap.size ≤ gx) := (by show _ ≤ _; have := HTA.out.below.size; omega); have HTA3 := hide (HTA.out.frm0 f3); have HTB3 := hide (HTB.out.frm0 f3); clear h3 hs3 f3 HTA HTB)
          | ((with_reducible refine wpl_storea aggSt (op := ⟨none, _, _, _, _, _⟩) rfl (.tmp 11) (.tmp 37) rfl gx (stC x) rfl rfl _ _ H3.out (stC_length x) (stC_size _) (stC_one x) ?_); intro w4 h4 f4; have c40 : w4.cell? ⟨gx, 0, none⟩ = some (.int .i64 x.k) := h4.cell 0; have c41 : w4.cell? ⟨gx, 1, none⟩ = some (.int .u32 (x.e : Int)) := h4.cell 1; have H4 := hide h4; have HTA4 := hide (HTA3.out.keep f4 HNA.out (fun i e => by rw [e]; exact HGX.out)); have HTB4 := hide (HTB3.out.keep f4 HNB.out (fun i e => by rw [e]; exact HGX.out)); clear h4 f4 HTA3 HTB3 H3)
          | (with_reducible refine wpl_loada aggX (op := ⟨some 45, _, _, _, _, _⟩) rfl (.tmp 44) rfl gx 2 rfl _ _ (tgC x.x) H4.out (stC_tag x) (stC_tag_room x) ?_)
          | (go_at_call 11; refine (HTA4.out.add x.e x.x HX32.out).mono ?_; rintro r w5 ⟨rfl, h5, f5⟩; have hb5 := H4.out.frm f5 HNA.out; have c51 : w5.cell? ⟨gx, 1, none⟩ = some (.int .u32 (x.e : Int)) := hb5.cell 1; have H5 := hide hb5; have HTA5 := hide h5; have HTB5 := hide (HTB4.out.frm f5 (fun h => HAP.out _ h (.inl rfl)) (fun h => HAP.out _ h (.inr (.inl rfl))) (fun h => HAP.out _ h (.inr (.inr rfl))) HTA4.out.of); clear h5 f5 hb5 HTA4 HTB4)
          | (with_reducible refine wpl_held (op := ⟨some 55, _, _, _, _, _⟩) (.agg (tgC x.x).toArray) (held_loada aggX (.tmp 54) rfl gx 2 rfl _ _ (tgC x.x) H5.out (stC_tag x) (stC_tag_room x)) rfl ?_)
          | (go_at_call 11; refine (HTB5.out.add x.e x.x HE.out).mono ?_; rintro r w6 ⟨rfl, h6, f6⟩; rw [HWHY.out]; have H6 := hide (H5.out.frm f6 HNB.out); have HTB6 := hide h6; have HTA6 := hide (HTA5.out.frm f6 (fun h => HAP.out _ (.inl rfl) h) (fun h => HAP.out _ (.inr (.inl rfl)) h) (fun h => HAP.out _ (.inr (.inr rfl)) h) HTB5.out.of); clear h6 f6 HTA5 HTB5))
          obtain ⟨C, hC⟩ : ∃ C : World → Prop, C = fun W' => Frm (fun _ => False) w6 W' := ⟨_, rfl⟩
          have hC0 : C w6.drew := by rw [hC]; exact (Frm.refl _ _).drew
          have hCt : ∀ W', C W' → Blk W' gx 32 (stC x).toArray := by rw [hC]; exact fun W' f => H6.out.frm f (fun h => h)
          have hCa : ∀ W', C W' → Calls Try.prog 15 #[.pointer (some ⟨ga, 0, none⟩), .int .u32 (x.e : Int), .agg (tgC x.x).toArray] W' (fun r w'' => r = .returned (.bool hs) ∧ C w'') := by
            rw [hC]
            exact fun W' f => ((HTA6.out.frm0 f).has x.e x.x HE.out).mono fun r w'' h => ⟨by rw [h.1, HHA.out], frm_ft f h.2.2⟩
          have hCb : ∀ W', C W' → Calls Try.prog 15 #[.pointer (some ⟨gb, 0, none⟩), .int .u32 (x.e : Int), .agg (tgC x.x).toArray] W' (fun r w'' => r = .returned (.bool hs) ∧ C w'') := by
            rw [hC]
            exact fun W' f => ((HTB6.out.frm0 f).has x.e x.x HE.out).mono fun r w'' h => ⟨by rw [h.1, HHB.out], frm_ft f h.2.2⟩
          have hCc : ∀ W', C W' → Calls Try.prog 17 #[.pointer (some ⟨ga, 0, none⟩), .int .u32 (x.e : Int)] W' (fun r w'' => r = .returned (.int .i64 (cn : Int)) ∧ C w'') := by
            rw [hC]
            exact fun W' f => ((HTA6.out.frm0 f).len x.e HE.out).mono fun r w'' h => ⟨by rw [h.1, HLA.out], h.2 ▸ f⟩
          have hCd : ∀ W', C W' → Calls Try.prog 17 #[.pointer (some ⟨gb, 0, none⟩), .int .u32 (x.e : Int)] W' (fun r w'' => r = .returned (.int .i64 (cn : Int)) ∧ C w'') := by
            rw [hC]
            exact fun W' f => ((HTB6.out.frm0 f).len x.e HE.out).mono fun r w'' h => ⟨by rw [h.1, HLB.out], h.2 ▸ f⟩
          have HEND : Hid (∀ W', C W' → LT w W' ga sa ca (a.add x.e x.x) ∧ LT w W' gb sb cb (b.add x.e x.x)) := by rw [hC]; exact fun W' f => ⟨HTA6.out.frm0 f, HTB6.out.frm0 f⟩
          clear hC
          refine wp_region_class C (by kernel_rfl) (by kernel_rfl) hC0 ?_
          with_reducible refine wpQuiet_step ?_
          intro K hK
          go_simp
          first | (refine hK _ ?_; clear hK K) | (refine ⟨_, fun w' hw' => rfl, hK _ ?_⟩; clear hK K)
          with_reducible refine wpQuiet_step ?_
          intro K hK
          go_simp
          first | (refine hK _ ?_; clear hK K) | (refine ⟨_, fun w' hw' => rfl, hK _ ?_⟩; clear hK K)
          with_reducible refine wpQuiet_step ?_
          intro K hK
          go_simp
          first | (refine hK _ ?_; clear hK K) | (refine ⟨_, fun w' hw' => rfl, hK _ ?_⟩; clear hK K)
          with_reducible refine wpQuiet_step ?_
          intro K hK
          refine quiet_val (.agg (tgC x.x).toArray) (fun w' hw' => held_loada aggX (.tmp 62) rfl gx 2 rfl _ _ (tgC x.x) (hCt w' hw') (stC_tag x) (stC_tag_room x)) ?_ rfl
          go_simp
          refine hK _ ?_
          clear hK K
          with_reducible refine wpQuiet_step ?_
          intro K hK
          go_simp
          refine ⟨_, hCa, hK _ ?_⟩
          clear hK K
          with_reducible refine wpQuiet_step ?_
          intro K hK
          go_simp
          first | (refine hK _ ?_; clear hK K) | (refine ⟨_, fun w' hw' => rfl, hK _ ?_⟩; clear hK K)
          with_reducible refine wpQuiet_step ?_
          intro K hK
          go_simp
          first | (refine hK _ ?_; clear hK K) | (refine ⟨_, fun w' hw' => rfl, hK _ ?_⟩; clear hK K)
          with_reducible refine wpQuiet_step ?_
          intro K hK
          go_simp
          first | (refine hK _ ?_; clear hK K) | (refine ⟨_, fun w' hw' => rfl, hK _ ?_⟩; clear hK K)
          with_reducible refine wpQuiet_step ?_
          intro K hK
          refine quiet_val (.agg (tgC x.x).toArray) (fun w' hw' => held_loada aggX (.tmp 67) rfl gx 2 rfl _ _ (tgC x.x) (hCt w' hw') (stC_tag x) (stC_tag_room x)) ?_ rfl
          go_simp
          refine hK _ ?_
          clear hK K
          with_reducible refine wpQuiet_step ?_
          intro K hK
          go_simp
          refine ⟨_, hCb, hK _ ?_⟩
          clear hK K
          with_reducible refine wpQuiet_step ?_
          intro K hK
          go_simp
          first | (refine hK _ ?_; clear hK K) | (refine ⟨_, fun w' hw' => rfl, hK _ ?_⟩; clear hK K)
          with_reducible refine wpQuiet_step ?_
          intro K hK
          go_simp
          first | (refine hK _ ?_; clear hK K) | (refine ⟨_, fun w' hw' => rfl, hK _ ?_⟩; clear hK K)
          with_reducible refine wpQuiet_step ?_
          intro K hK
          go_simp
          first | (refine hK _ ?_; clear hK K) | (refine ⟨_, fun w' hw' => rfl, hK _ ?_⟩; clear hK K)
          with_reducible refine wpQuiet_step ?_
          intro K hK
          go_simp
          first | (refine hK _ ?_; clear hK K) | (refine ⟨_, fun w' hw' => rfl, hK _ ?_⟩; clear hK K)
          with_reducible refine wpQuiet_step ?_
          intro K hK
          go_simp
          refine ⟨_, hCc, hK _ ?_⟩
          clear hK K
          with_reducible refine wpQuiet_step ?_
          intro K hK
          go_simp
          first | (refine hK _ ?_; clear hK K) | (refine ⟨_, fun w' hw' => rfl, hK _ ?_⟩; clear hK K)
          with_reducible refine wpQuiet_step ?_
          intro K hK
          go_simp
          first | (refine hK _ ?_; clear hK K) | (refine ⟨_, fun w' hw' => rfl, hK _ ?_⟩; clear hK K)
          with_reducible refine wpQuiet_step ?_
          intro K hK
          go_simp
          refine ⟨_, hCd, hK _ ?_⟩
          clear hK K
          with_reducible refine wpQuiet_step ?_
          intro K hK
          go_simp
          first | (refine hK _ ?_; clear hK K) | (refine ⟨_, fun w' hw' => rfl, hK _ ?_⟩; clear hK K)
          with_reducible refine wpQuiet_step ?_
          intro K hK
          go_simp
          first | (refine hK _ ?_; clear hK K) | (refine ⟨_, fun w' hw' => rfl, hK _ ?_⟩; clear hK K)
          refine wpQuiet_nil ?_
          intro w9 hw9
          obtain ⟨hA9, hB9⟩ := HEND.out w9 hw9
          have HA9 := hide hA9
          have HB9 := hide hB9
          clear hA9 hB9 hw9 hCt hCa hCb hCc hCd HEND hC0
          go_wp2_with fail
          go_roundw
          case rel => exact ⟨k + 1, _, _, by omega, by go_num, HA9.out, HB9.out, HNEXT.out⟩
          case measure => simp [intOf]; omega
        · have hee' : ¬ (x.e : Int) = (E : Int) := by omega
          have HNEXT := hide (HP.out.one x.x (fun h => hee h.symm))
          have hha := HNEXT.out.has x.x
          have hla := HNEXT.out.len
          obtain ⟨hs, hhs⟩ : ∃ h, h = (a.add x.e x.x).has E x.x := ⟨_, rfl⟩
          obtain ⟨cn, hcn⟩ : ∃ h, h = (a.add x.e x.x).len E := ⟨_, rfl⟩
          have HHA : Hid ((a.add x.e x.x).has E x.x = hs) := hhs.symm
          have HHB : Hid (b.has E x.x = hs) := hha.trans hhs.symm
          have HLA : Hid ((a.add x.e x.x).len E = cn) := hcn.symm
          have HLB : Hid (b.len E = cn) := hla.trans hcn.symm
          clear hha hla hhs hcn hee
          go_wp2_with (first
          | (with_reducible refine wpl_loadc aggSt (op := ⟨some 37, _, _, _, _, _⟩) rfl (.tmp 36) rfl (p.add (k * 18)) rfl (stC x) (stC_length x) HLD.out ?_)
          | ((with_reducible refine wpl_alloca (op := ⟨some 11, _, _, _, _, _⟩) rfl _ rfl _ zeroSt ?_); intro gx w3 h3 hs3 f3; have H3 := hide h3; have HNA : Hid (¬ Of ga sa ca gx) := (fun h => by have := HTA.out.ltOf _ h; omega); have HNB : Hid (¬ Of gb sb cb gx) := (fun h => by have := HTB.out.ltOf _ h; omega); have HGX : Hid (w.heap.size ≤ gx) := (by show _ ≤ _; have := HTA.out.below.size; omega); have HTA3 := hide (HTA.out.frm0 f3); have HTB3 := hide (HTB.out.frm0 f3); clear h3 hs3 f3 HTA HTB)
          | ((with_reducible refine wpl_storea aggSt (op := ⟨none, _, _, _, _, _⟩) rfl (.tmp 11) (.tmp 37) rfl gx (stC x) rfl rfl _ _ H3.out (stC_length x) (stC_size _) (stC_one x) ?_); intro w4 h4 f4; have c40 : w4.cell? ⟨gx, 0, none⟩ = some (.int .i64 x.k) := h4.cell 0; have c41 : w4.cell? ⟨gx, 1, none⟩ = some (.int .u32 (x.e : Int)) := h4.cell 1; have H4 := hide h4; have HTA4 := hide (HTA3.out.keep f4 HNA.out (fun i e => by rw [e]; exact HGX.out)); have HTB4 := hide (HTB3.out.keep f4 HNB.out (fun i e => by rw [e]; exact HGX.out)); clear h4 f4 HTA3 HTB3 H3)
          | (with_reducible refine wpl_loada aggX (op := ⟨some 45, _, _, _, _, _⟩) rfl (.tmp 44) rfl gx 2 rfl _ _ (tgC x.x) H4.out (stC_tag x) (stC_tag_room x) ?_)
          | (go_at_call 11; refine (HTA4.out.add x.e x.x HX32.out).mono ?_; rintro r w5 ⟨rfl, h5, f5⟩; have hb5 := H4.out.frm f5 HNA.out; have c51 : w5.cell? ⟨gx, 1, none⟩ = some (.int .u32 (x.e : Int)) := hb5.cell 1; have H5 := hide hb5; have HTA5 := hide h5; have HTB5 := hide (HTB4.out.frm f5 (fun h => HAP.out _ h (.inl rfl)) (fun h => HAP.out _ h (.inr (.inl rfl))) (fun h => HAP.out _ h (.inr (.inr rfl))) HTA4.out.of); clear h5 f5 hb5 HTA4 HTB4))
          obtain ⟨C, hC⟩ : ∃ C : World → Prop, C = fun W' => Frm (fun _ => False) w5 W' := ⟨_, rfl⟩
          have hC0 : C w5.drew := by rw [hC]; exact (Frm.refl _ _).drew
          have hCt : ∀ W', C W' → Blk W' gx 32 (stC x).toArray := by rw [hC]; exact fun W' f => H5.out.frm f (fun h => h)
          have hCa : ∀ W', C W' → Calls Try.prog 15 #[.pointer (some ⟨ga, 0, none⟩), .int .u32 (E : Int), .agg (tgC x.x).toArray] W' (fun r w'' => r = .returned (.bool hs) ∧ C w'') := by
            rw [hC]
            exact fun W' f => ((HTA5.out.frm0 f).has E x.x HE.out).mono fun r w'' h => ⟨by rw [h.1, HHA.out], frm_ft f h.2.2⟩
          have hCb : ∀ W', C W' → Calls Try.prog 15 #[.pointer (some ⟨gb, 0, none⟩), .int .u32 (E : Int), .agg (tgC x.x).toArray] W' (fun r w'' => r = .returned (.bool hs) ∧ C w'') := by
            rw [hC]
            exact fun W' f => ((HTB5.out.frm0 f).has E x.x HE.out).mono fun r w'' h => ⟨by rw [h.1, HHB.out], frm_ft f h.2.2⟩
          have hCc : ∀ W', C W' → Calls Try.prog 17 #[.pointer (some ⟨ga, 0, none⟩), .int .u32 (E : Int)] W' (fun r w'' => r = .returned (.int .i64 (cn : Int)) ∧ C w'') := by
            rw [hC]
            exact fun W' f => ((HTA5.out.frm0 f).len E HE.out).mono fun r w'' h => ⟨by rw [h.1, HLA.out], h.2 ▸ f⟩
          have hCd : ∀ W', C W' → Calls Try.prog 17 #[.pointer (some ⟨gb, 0, none⟩), .int .u32 (E : Int)] W' (fun r w'' => r = .returned (.int .i64 (cn : Int)) ∧ C w'') := by
            rw [hC]
            exact fun W' f => ((HTB5.out.frm0 f).len E HE.out).mono fun r w'' h => ⟨by rw [h.1, HLB.out], h.2 ▸ f⟩
          have HEND : Hid (∀ W', C W' → LT w W' ga sa ca (a.add x.e x.x) ∧ LT w W' gb sb cb b) := by rw [hC]; exact fun W' f => ⟨HTA5.out.frm0 f, HTB5.out.frm0 f⟩
          clear hC
          refine wp_region_class C (by kernel_rfl) (by kernel_rfl) hC0 ?_
          with_reducible refine wpQuiet_step ?_
          intro K hK
          go_simp
          first | (refine hK _ ?_; clear hK K) | (refine ⟨_, fun w' hw' => rfl, hK _ ?_⟩; clear hK K)
          with_reducible refine wpQuiet_step ?_
          intro K hK
          go_simp
          first | (refine hK _ ?_; clear hK K) | (refine ⟨_, fun w' hw' => rfl, hK _ ?_⟩; clear hK K)
          with_reducible refine wpQuiet_step ?_
          intro K hK
          go_simp
          first | (refine hK _ ?_; clear hK K) | (refine ⟨_, fun w' hw' => rfl, hK _ ?_⟩; clear hK K)
          with_reducible refine wpQuiet_step ?_
          intro K hK
          refine quiet_val (.agg (tgC x.x).toArray) (fun w' hw' => held_loada aggX (.tmp 62) rfl gx 2 rfl _ _ (tgC x.x) (hCt w' hw') (stC_tag x) (stC_tag_room x)) ?_ rfl
          go_simp
          refine hK _ ?_
          clear hK K
          with_reducible refine wpQuiet_step ?_
          intro K hK
          go_simp
          refine ⟨_, hCa, hK _ ?_⟩
          clear hK K
          with_reducible refine wpQuiet_step ?_
          intro K hK
          go_simp
          first | (refine hK _ ?_; clear hK K) | (refine ⟨_, fun w' hw' => rfl, hK _ ?_⟩; clear hK K)
          with_reducible refine wpQuiet_step ?_
          intro K hK
          go_simp
          first | (refine hK _ ?_; clear hK K) | (refine ⟨_, fun w' hw' => rfl, hK _ ?_⟩; clear hK K)
          with_reducible refine wpQuiet_step ?_
          intro K hK
          go_simp
          first | (refine hK _ ?_; clear hK K) | (refine ⟨_, fun w' hw' => rfl, hK _ ?_⟩; clear hK K)
          with_reducible refine wpQuiet_step ?_
          intro K hK
          refine quiet_val (.agg (tgC x.x).toArray) (fun w' hw' => held_loada aggX (.tmp 67) rfl gx 2 rfl _ _ (tgC x.x) (hCt w' hw') (stC_tag x) (stC_tag_room x)) ?_ rfl
          go_simp
          refine hK _ ?_
          clear hK K
          with_reducible refine wpQuiet_step ?_
          intro K hK
          go_simp
          refine ⟨_, hCb, hK _ ?_⟩
          clear hK K
          with_reducible refine wpQuiet_step ?_
          intro K hK
          go_simp
          first | (refine hK _ ?_; clear hK K) | (refine ⟨_, fun w' hw' => rfl, hK _ ?_⟩; clear hK K)
          with_reducible refine wpQuiet_step ?_
          intro K hK
          go_simp
          first | (refine hK _ ?_; clear hK K) | (refine ⟨_, fun w' hw' => rfl, hK _ ?_⟩; clear hK K)
          with_reducible refine wpQuiet_step ?_
          intro K hK
          go_simp
          first | (refine hK _ ?_; clear hK K) | (refine ⟨_, fun w' hw' => rfl, hK _ ?_⟩; clear hK K)
          with_reducible refine wpQuiet_step ?_
          intro K hK
          go_simp
          first | (refine hK _ ?_; clear hK K) | (refine ⟨_, fun w' hw' => rfl, hK _ ?_⟩; clear hK K)
          with_reducible refine wpQuiet_step ?_
          intro K hK
          go_simp
          refine ⟨_, hCc, hK _ ?_⟩
          clear hK K
          with_reducible refine wpQuiet_step ?_
          intro K hK
          go_simp
          first | (refine hK _ ?_; clear hK K) | (refine ⟨_, fun w' hw' => rfl, hK _ ?_⟩; clear hK K)
          with_reducible refine wpQuiet_step ?_
          intro K hK
          go_simp
          first | (refine hK _ ?_; clear hK K) | (refine ⟨_, fun w' hw' => rfl, hK _ ?_⟩; clear hK K)
          with_reducible refine wpQuiet_step ?_
          intro K hK
          go_simp
          refine ⟨_, hCd, hK _ ?_⟩
          clear hK K
          with_reducible refine wpQuiet_step ?_
          intro K hK
          go_simp
          first | (refine hK _ ?_; clear hK K) | (refine ⟨_, fun w' hw' => rfl, hK _ ?_⟩; clear hK K)
          with_reducible refine wpQuiet_step ?_
          intro K hK
          go_simp
          first | (refine hK _ ?_; clear hK K) | (refine ⟨_, fun w' hw' => rfl, hK _ ?_⟩; clear hK K)
          refine wpQuiet_nil ?_
          intro w9 hw9
          obtain ⟨hA9, hB9⟩ := HEND.out w9 hw9
          have HA9 := hide hA9
          have HB9 := hide hB9
          clear hA9 hB9 hw9 hCt hCa hCb hCc hCd HEND hC0
          go_wp2_with fail
          go_roundw
          case rel => exact ⟨k + 1, _, _, by omega, by go_num, HA9.out, HB9.out, HNEXT.out⟩
          case measure => simp [intOf]; omega
      · have hkk' : (4 : Int) < x.k := by omega
        go_wp2_with (first
          | (with_reducible refine wpl_loadc aggSt (op := ⟨some 37, _, _, _, _, _⟩) rfl (.tmp 36) rfl (p.add (k * 18)) rfl (stC x) (stC_length x) HLD.out ?_)
          | ((with_reducible refine wpl_alloca (op := ⟨some 11, _, _, _, _, _⟩) rfl _ rfl _ zeroSt ?_); intro gx w3 h3 hs3 f3; have H3 := hide h3; have HNA : Hid (¬ Of ga sa ca gx) := (fun h => by have := HTA.out.ltOf _ h; omega); have HNB : Hid (¬ Of gb sb cb gx) := (fun h => by have := HTB.out.ltOf _ h; omega); have HGX : Hid (w.heap.size ≤ gx) := (by show _ ≤ _; have := HTA.out.below.size; omega); have HTA3 := hide (HTA.out.frm0 f3); have HTB3 := hide (HTB.out.frm0 f3); clear h3 hs3 f3 HTA HTB)
          | ((with_reducible refine wpl_storea aggSt (op := ⟨none, _, _, _, _, _⟩) rfl (.tmp 11) (.tmp 37) rfl gx (stC x) rfl rfl _ _ H3.out (stC_length x) (stC_size _) (stC_one x) ?_); intro w4 h4 f4; have c40 : w4.cell? ⟨gx, 0, none⟩ = some (.int .i64 x.k) := h4.cell 0; have c41 : w4.cell? ⟨gx, 1, none⟩ = some (.int .u32 (x.e : Int)) := h4.cell 1; have H4 := hide h4; have HTA4 := hide (HTA3.out.keep f4 HNA.out (fun i e => by rw [e]; exact HGX.out)); have HTB4 := hide (HTB3.out.keep f4 HNB.out (fun i e => by rw [e]; exact HGX.out)); clear h4 f4 HTA3 HTB3 H3))
        go_roundw
        case rel => exact ⟨k + 1, _, _, by omega, by go_num, HTA4.out, HTB4.out, HP.out⟩
        case measure => simp [intOf]; omega
    · by_cases hkl2 : k < len
      · have hkl : (k : Int) < (len : Int) := by omega
        have hk1 : ¬ (k : Int) < 200 := by have := min_end hkn hkl2; omega
        go_wp2_with fail
        go_ret
        exact ⟨rfl, HTA.out.below⟩
      · have hkl : ¬ (k : Int) < (len : Int) := by omega
        go_wp2_with fail
        go_ret
        exact ⟨rfl, HTA.out.below⟩
end Go.Proofs.Ytdilfiojfjgejaa
