/-
  DirectRow: the walk.
-/
import Derived.Test.YtjicnfkodieaaaaDoorDsT
import Derived.StillTailTactics
namespace Go.Proofs.YtjicnfkodieaaaaDoor
set_option linter.unusedVariables false
set_option linter.unusedSimpArgs false
open Go.RowKit

/-- Records of one node, each behind the last one. -/
structure RowAt (a lo t : Nat) (R D : List Rec) : Prop where
  len : D.length = R.length
  mem : ∀ x, x ∈ D ↔ x ∈ R
  each : ∀ x ∈ R, x.a = a ∧ lo ≤ x.f ∧ x.f ≤ x.t ∧ x.t < t
  apart : R.Pairwise (fun x y => x.t < y.f)
theorem row_nil (a lo : Nat) : RowAt a lo lo [] [] := ⟨rfl, fun _ => Iff.rfl, fun _ h => absurd h (by simp), List.Pairwise.nil⟩
theorem row_step {a lo t : Nat} {R D : List Rec} (h : RowAt a lo t R D) (ha : a < 16) (hn : R.length < 64) {q l : Nat} (hq : t ≤ q) (hlo : lo ≤ t) :
    whyL D ⟨a, t, q, l⟩ = 0 ∧ ∃ D', addL D ⟨a, t, q, l⟩ = D' ∧ RowAt a lo (q + 1) (R ++ [⟨a, t, q, l⟩]) D' := by
  have h0 : withinL D a t q = [] := List.filter_eq_nil_iff.2 fun x hx => by
    have h1 := h.each x ((h.mem x).1 hx)
    intro h2
    have h3 : (decide (x.a = a) && (decide (x.f ≤ q) && decide (t ≤ x.t))) = true := h2
    simp only [Bool.and_eq_true, decide_eq_true_eq] at h3
    omega
  have hw : whyL D ⟨a, t, q, l⟩ = 0 := by
    unfold whyL
    rw [if_neg (by show ¬ (16 ≤ a ∨ q < t); omega), if_neg (by show ¬ 0 < (withinL D a t q).length; rw [h0]; simp), if_neg (by rw [h.len]; omega)]
  refine ⟨hw, _, rfl, ?_⟩
  unfold addL
  rw [if_pos hw]
  refine ⟨by rw [insL_length, h.len, List.length_append]; rfl, fun x => ?_, fun x hx => ?_, ?_⟩
  · rw [mem_insL, h.mem, List.mem_append, List.mem_singleton]
    exact Or.comm
  · rcases List.mem_append.1 hx with hx | hx
    · have := h.each x hx; omega
    · rw [List.mem_singleton.1 hx]
      show a = a ∧ lo ≤ t ∧ t ≤ q ∧ q < q + 1
      omega
  · refine List.pairwise_append.2 ⟨h.apart, List.pairwise_singleton _ _, fun x hx y hy => ?_⟩
    rw [List.mem_singleton.1 hy]
    exact (h.each x hx).2.2.2
theorem row_one {a lo t : Nat} {R D : List Rec} (h : RowAt a lo t R D) {x y : Rec} (hx : x ∈ R) (hy : y ∈ R) {e : Nat} (h1 : x.f ≤ e) (h2 : e ≤ x.t) (h3 : y.f ≤ e) (h4 : e ≤ y.t) : y = x := by
  obtain ⟨i, hi, rfl⟩ := List.getElem_of_mem hx
  obtain ⟨j, hj, rfl⟩ := List.getElem_of_mem hy
  have hp := List.pairwise_iff_getElem.1 h.apart
  rcases Nat.lt_trichotomy i j with hij | hij | hij
  · have := hp i j hi hj hij; omega
  · subst hij; rfl
  · have := hp j i hj hi hij; omega
theorem all_one {x : Rec} (hft : x.f ≤ x.t) : ∀ {l : List Rec}, l.Pairwise Rec.ahead → (∀ y ∈ l, y = x) → x ∈ l → l = [x]
  | [], _, _, h => by cases h
  | [y], _, h, _ => by rw [h y (List.mem_cons_self ..)]
  | y :: z :: l, hp, h, _ => by
    have h1 := (List.pairwise_cons.1 hp).1 z (List.mem_cons_self ..)
    have hy := h y (List.mem_cons_self ..)
    have hz := h z (List.mem_cons_of_mem _ (List.mem_cons_self ..))
    subst hy hz
    rcases h1 with h1 | ⟨_, h1⟩ <;> omega
theorem row_valid {a lo t : Nat} {R D : List Rec} (h : RowAt a lo t R D) (hD : DirOk D) {x : Rec} (hx : x ∈ R) {e : Nat} (h1 : x.f ≤ e) (h2 : e ≤ x.t) : validL D e = [x] := by
  refine all_one (h.each x hx).2.2.1 (hD.apart.filter _) (fun y hy => ?_) (List.mem_filter.2 ⟨(h.mem x).2 hx, ?_⟩)
  · obtain ⟨h3, h4⟩ := List.mem_filter.1 hy
    have h5 : (decide (y.f ≤ e) && decide (e ≤ y.t)) = true := h4
    simp only [Bool.and_eq_true, decide_eq_true_eq] at h5
    exact row_one h hx ((h.mem y).1 h3) h1 h2 h5.1 h5.2
  · show (decide (x.f ≤ e) && decide (e ≤ x.t)) = true
    rw [decide_eq_true h1, decide_eq_true h2]; rfl
theorem row_within {a lo t : Nat} {R D : List Rec} (h : RowAt a lo t R D) (hD : DirOk D) {x : Rec} (hx : x ∈ R) {e : Nat} (h1 : x.f ≤ e) (h2 : e ≤ x.t) : withinL D a e e = [x] := by
  refine all_one (h.each x hx).2.2.1 (hD.apart.filter _) (fun y hy => ?_) (List.mem_filter.2 ⟨(h.mem x).2 hx, ?_⟩)
  · obtain ⟨h3, h4⟩ := List.mem_filter.1 hy
    have h5 : (decide (y.a = a) && (decide (y.f ≤ e) && decide (e ≤ y.t))) = true := h4
    simp only [Bool.and_eq_true, decide_eq_true_eq] at h5
    exact row_one h hx ((h.mem y).1 h3) h1 h2 h5.2.1 h5.2.2
  · show (decide (x.a = a) && (decide (x.f ≤ e) && decide (e ≤ x.t))) = true
    rw [decide_eq_true (h.each x hx).1, decide_eq_true h1, decide_eq_true h2]; rfl
theorem row_find {a lo t : Nat} {R D : List Rec} (h : RowAt a lo t R D) (hD : DirOk D) {x : Rec} (hx : x ∈ R) {e : Nat} (h1 : x.f ≤ e) (h2 : e ≤ x.t) : foundR D a e = x ∧ foundB D a e = true := by
  unfold foundR foundB findL
  rw [row_within h hD hx h1 h2]
  exact ⟨rfl, rfl⟩
theorem row_why {a lo t : Nat} {R D : List Rec} (h : RowAt a lo t R D) (hD : DirOk D) {x : Rec} (hx : x ∈ R) (ha : a < 16) : whyL D ⟨a, x.f, x.f, 0⟩ = 12 := by
  unfold whyL
  rw [if_neg (by show ¬ (16 ≤ a ∨ x.f < x.f); omega), if_pos (by show 0 < (withinL D a x.f x.f).length; rw [row_within h hD hx (Nat.le_refl _) (h.each x hx).2.2.1]; exact Nat.one_pos)]
theorem row_not {a lo t : Nat} {R D : List Rec} (h : RowAt a lo t R D) {e : Nat} (he : e < lo ∨ t ≤ e) : foundB D a e = false := by
  have h0 : withinL D a e e = [] := List.filter_eq_nil_iff.2 fun x hx => by
    have h1 := h.each x ((h.mem x).1 hx)
    intro h2
    have h3 : (decide (x.a = a) && (decide (x.f ≤ e) && decide (e ≤ x.t))) = true := h2
    simp only [Bool.and_eq_true, decide_eq_true_eq] at h3
    omega
  unfold foundB findL
  rw [h0]
  rfl

set_option maxHeartbeats 8000000 in
set_option maxRecDepth 100000 in
theorem row_walk (fr : Nat) (A0 : Option Addr) (n0 c0 : Nat) (L : List UInt8) (ad : Nat) (w : World) (hG : Gl w) (hg0 : 2 ≤ w.heap.size)
    (hfr : fr < 65536) (hL : Rds w A0 n0 (cellsB L)) (hc0 : n0 ≤ c0) (hm0 : c0 ≤ 9223372036854775807) (had : ad < 256) :
    Calls Tryd.prog 11 #[.int .u16 (fr : Int), .slice A0 n0 c0, .int .u8 (ad : Int)] w fun e w' => e = .returned (.bool true) ∧ Below w.heap.size w w' := by
  obtain ⟨a, ha⟩ : ∃ a, a = ad % 16 := ⟨_, rfl⟩
  have ha1 : (ad : Int) % 16 = (a : Int) := by omega
  have ha16 : a < 16 := by omega
  have haw : IntKind.u16.wrap (a : Int) = (a : Int) := by rw [IntKind.wrap_u16]; omega
  obtain ⟨lo, hlo⟩ : ∃ lo, lo = fr + 1 := ⟨_, rfl⟩
  have hlo1 : (fr : Int) + 1 = (lo : Int) := by omega
  have hlo2 : lo ≤ 65536 := by omega
  have HLO : Hid (fr < lo) := by show _ < _; omega
  have HE := hide hL
  have HR0 := hide (run_start w hG hg0)
  clear ha hlo hL hG
  go_enter Tryd.func11, Tryd.ntmps11
  go_wp2_with fail
  refine (shown9 w _ HR0.out).mono ?_
  rintro e w1 ⟨rfl, f1⟩
  have HR1 := hide (HR0.out.frm0 f1)
  clear f1 HR0
  go_wp2_with fail
  refine (lnew w w1 HR1.out).mono ?_
  rintro e w2 ⟨g, bm, rfl, h2, f2, hg2, hb2⟩
  have H2 := hide h2
  clear h2 f2 HR1 hg2 hb2
  go_wp2_with fail
  clear ha1 haw hlo1
  go_loopw [10, 11, 12] (fun t_ sl i wr => ∃ (k t : Nat) (R D : List Rec) (A : Option Addr) (c : Nat), k ≤ n0 ∧ k ≤ 30 ∧ i = .int .i64 k ∧ t_ = .int .u32 t ∧ t ≤ lo + 8 * k ∧ lo ≤ t ∧ sl = .slice A k c ∧ RowAt a lo t R D ∧ Liv w wr g bm D ∧ ROwn wr w.heap.size A k c R) (fun _ _ i _ => 30 - (intOf i).toNat)
  case atStart => exact ⟨0, lo, [], [], none, 0, by omega, by omega, rfl, rfl, by omega, Nat.le_refl _, rfl, row_nil a lo, H2.out, ROwn.nil _ _⟩
  case round =>
    clear H2
    obtain ⟨k, t, R, D, A, c, hk, hk30, rfl, rfl, ht1, ht2, rfl, hra, h4, ho4⟩ := hrel
    have HRA := hide hra
    have H4 := hide h4
    have HO := hide ho4
    clear hra h4 ho4
    by_cases hlt : k < n0
    · have hlt' : (k : Int) < (n0 : Int) := by omega
      by_cases h30 : k < 30
      · have h30' : (k : Int) < 30 := by omega
        obtain ⟨p2, rfl, hc2⟩ := HE.out.2 (by omega)
        have hel : L.length = n0 := by have := HE.out.1; rwa [cellsB_length] at this
        obtain ⟨v, hv⟩ : ∃ v, v = (L.getD k 0).toNat := ⟨_, rfl⟩
        have hcv : wr.cell? (p2.add k) = some (.int .u8 (v : Int)) := by
          have h1 := hc2 k (.int .u8 (v : Int)) (by rw [cellsB_get, hv, List.getD_eq_getElem?_getD, List.getElem?_eq_getElem (by omega)]; rfl)
          rw [H4.out.run.below.cell (World.block_lt_of_cell? w _ h1), h1]
        obtain ⟨m, hm⟩ : ∃ m, m = v % 8 := ⟨_, rfl⟩
        have hm1 : (v : Int) % 8 = (m : Int) := by omega
        have hm8 : m < 8 := by omega
        obtain ⟨n1, hn1⟩ : ∃ n1, n1 = m + 1 := ⟨_, rfl⟩
        have hn11 : (m : Int) + 1 = (n1 : Int) := by omega
        have hn18 : n1 ≤ 8 := by omega
        obtain ⟨t2, hs⟩ : ∃ t2, t2 = t + n1 := ⟨_, rfl⟩
        have hs1 : (t : Int) + (n1 : Int) = (t2 : Int) := by omega
        obtain ⟨q, hq⟩ : ∃ q, q = t + m := ⟨_, rfl⟩
        have hq1 : (t2 : Int) - 1 = (q : Int) := by omega
        have ht2b : t2 ≤ 70000 := by omega
        have hqb : q ≤ 70000 := by omega
        have HT2 : Hid (t2 ≤ lo + 8 * (k + 1) ∧ lo ≤ t2) := ⟨by omega, by omega⟩
        have hqt : q + 1 = t2 := by omega
        have hst := row_step HRA.out ha16 (by rw [HO.out.len]; omega : R.length < 64) (q := q) (l := k) (by omega) ht2
        rw [hqt] at hst
        obtain ⟨hw0, D', hD', hR'⟩ := hst
        have HW0 := hide hw0
        have HD' := hide hD'
        have HR' := hide hR'
        have HIN : Hid ((⟨a, t, q, k⟩ : Rec).in32) := ⟨by show a < _; omega, by show t < _; omega, by show q < _; omega, by show k < _; omega⟩
        clear hc2 hel hv hm hn1 hs hq hqt hw0 hD' hR'
        go_wp2_with (first
          | ((with_reducible refine wpl_alloca (op := ⟨some 14, _, _, _, _, _⟩) rfl _ rfl _ zeroR ?_); intro g14 w5 hB5 hs5 hF5)
          | ((refine wpl_storea aggR rfl (.tmp 14) (.tmp 58) rfl g14 (recC ⟨a, t, q, k⟩) rfl rfl _ _ hB5 rfl rfl (recC_one _) ?_); intro w6 hB6 hF6; have hF46 := frm_join wr hF5 hF6 (fun i hi => by omega); have H6 := hide (H4.out.frm0 hF46.out); have HO6 := hide (HO.out.frm0 hF46.out); have HB6 := hide hB6; have hBL := blk_lit hB6; clear hB5 hB6 hF5 hF6 hF46 hs5)
          | (with_reducible refine wpl_loada (op := ⟨some 60, _, _, _, _, _⟩) aggR rfl (.tmp 14) rfl g14 0 rfl _ [.int .u16 (a : Int), .int .u32 (t : Int), .int .u32 (q : Int), .int .u32 (k : Int)] [.int .u16 (a : Int), .int .u32 (t : Int), .int .u32 (q : Int), .int .u32 (k : Int)] hBL (take4 _ _ _ _) (len4 _ _ _ _) ?_))
        clear hBL hcv H4 HO HRA
        have hadd := ladd_is H6.out ⟨a, t, q, k⟩ HIN.out 0 D' HW0.out HD'.out
        simp only [recV, recC] at hadd
        refine hadd.mono ?_
        clear hadd
        rintro e_ w7 ⟨rfl, h7, f7⟩
        have H7 := hide h7
        have HO7 := hide (HO6.out.frm f7 (fun k hk e => HO6.out.neMap H6.out.dir.map (by rw [← e]; exact hk)))
        have hB7 := blk_lit (HB6.out.frm f7 (fun e => H6.out.dir.map.ne HB6.out e.symm))
        have hsz7 := h7.run.below.size
        clear h7 f7 H6 HO6 HB6
        go_wp2_with (first
          | (with_reducible refine wpl_loada (op := ⟨some 64, _, _, _, _, _⟩) aggR rfl (.tmp 14) rfl g14 0 rfl _ [.int .u16 (a : Int), .int .u32 (t : Int), .int .u32 (q : Int), .int .u32 (k : Int)] [.int .u16 (a : Int), .int .u32 (t : Int), .int .u32 (q : Int), .int .u32 (k : Int)] hB7 (take4 _ _ _ _) (len4 _ _ _ _) ?_)
          | ((refine wpl_appR (op := ⟨some 66, _, _, _, _, _⟩) rfl (.tmp 63) (.tmp 65) rfl _ w.heap.size A k c R rfl (HO7.out.frm0 (Frm.alloc _ _ _)) w7.heap.size ⟨a, t, q, k⟩ rfl (Blk.new w7 37 (recC ⟨a, t, q, k⟩).toArray) (k + 1) rfl (by omega) (by simp; omega) ?_); intro A' c' w8 ho8 hf8; have H8 := hide ((H7.out.frm0 (Frm.alloc _ _ _)).frm hf8 (fun e => HO7.out.ne H7.out.dir.blk (by decide) e.symm) (fun e => HO7.out.neMap H7.out.dir.map e.symm) (fun k hk => (HO7.out.ge k hk.symm).1)); have HO8 := hide ho8; clear ho8 hf8 hB7 H7 HO7))
        go_roundw
        case rel =>
          exact ⟨k + 1, t2, _, D', A', c', by omega, by omega, by go_num, by go_num, HT2.out.1, HT2.out.2, rfl, HR'.out, H8.out, HO8.out⟩
        case measure => simp [intOf]; omega
      · have h30' : ¬ (k : Int) < 30 := by omega
        have HRK : Hid (R.length = k) := HO.out.len
        have HDL : Hid (D.length = k) := by show _ = _; rw [HRA.out.len]; exact HRK.out
        go_wp2_with fail
        go_loopw [15] (fun i wr => ∃ j : Nat, j ≤ k ∧ i = .int .i64 j ∧ Liv w wr g bm D ∧ ROwn wr w.heap.size A k c R) (fun i _ => k - (intOf i).toNat)
        case atStart => exact ⟨0, by omega, rfl, H4.out, HO.out⟩
        case round =>
          clear H4 HO
          obtain ⟨j, hj, rfl, h5, ho5⟩ := hrel
          have H5 := hide h5
          have HO5 := hide ho5
          clear h5 ho5
          by_cases hlt2 : j < k
          · have hlt2' : (j : Int) < (k : Int) := by omega
            obtain ⟨gr, rfl, _, _, hc5⟩ := HO5.out.cells (by omega)
            obtain ⟨r, hr⟩ : ∃ r, r = R.getD j default := ⟨_, rfl⟩
            have HRM : Hid (r ∈ R) := by show _ ∈ _; rw [hr, List.getD_eq_getElem?_getD, List.getElem?_eq_getElem (by rw [HRK.out]; exact hlt2)]; exact List.getElem_mem _
            have HCR : Hid (∀ wx, ROwn wx w.heap.size (some ⟨gr, 0, none⟩) k c R → ∀ q, q < 4 → wx.cell? ⟨gr, j * 4 + q, none⟩ = (recC r)[q]?) := fun wx ho q hq => by
              obtain ⟨g', hg', _, _, hc⟩ := ho.cells (by omega)
              injection hg' with hg'
              injection hg' with hg' _ _
              subst hg'
              rw [hr]
              exact hc j q hlt2 hq
            have hre := HRA.out.each r HRM.out
            have hra : r.a = a := hre.1
            have HRAA := hide hra
            have hrft : r.f ≤ r.t := hre.2.2.1
            have hrt : r.t < t := hre.2.2.2
            have c1 : wr.cell? ⟨gr, j * 4 + 1, none⟩ = some (.int .u32 (r.f : Int)) := HCR.out wr HO5.out 1 (by decide)
            clear hc5 hr hre hra
            go_wp2_with fail
            clear c1
            go_loopw [16] (fun i wr => ∃ e : Nat, r.f ≤ e ∧ e ≤ r.t + 1 ∧ i = .int .u32 e ∧ Liv w wr g bm D ∧ ROwn wr w.heap.size (some ⟨gr, 0, none⟩) k c R) (fun i _ => r.t + 1 - (intOf i).toNat)
            case atStart => exact ⟨r.f, Nat.le_refl _, by omega, rfl, H5.out, HO5.out⟩
            case round =>
              clear H5 HO5
              obtain ⟨e, he1, he2, rfl, h6, ho6⟩ := hrel
              have H6 := hide h6
              have HO6 := hide ho6
              clear h6 ho6
              have c2 : wr.cell? ⟨gr, j * 4 + 2, none⟩ = some (.int .u32 (r.t : Int)) := HCR.out wr HO6.out 2 (by decide)
              by_cases he : e ≤ r.t
              · have he' : (e : Int) ≤ (r.t : Int) := by omega
                have hfd := row_find HRA.out H6.out.dir.ok HRM.out he1 he
                have HF := hide (lfind_is H6.out a e r true hfd.1 hfd.2)
                clear hfd
                go_wp2_with fail
                refine HF.out.mono ?_
                rintro e_ w7 ⟨rfl, h7, f7⟩
                have H7 := hide h7
                have HO7 := hide (HO6.out.frm0 f7)
                clear h7 f7 HF H6 HO6 c2
                go_wp2_with (first
                  | ((with_reducible refine wpl_alloca (op := ⟨some 17, _, _, _, _, _⟩) rfl _ rfl _ zeroR ?_); intro g17 w8 hB8 hs8 hF8)
                  | ((refine wpl_storea aggR rfl (.tmp 17) (.tmp 95) rfl g17 (recC r) rfl rfl _ _ hB8 rfl rfl (recC_one r) ?_); intro w9 hB9 hF9; have hF79 := frm_join w7 hF8 hF9 (fun i hi => by omega); have H9 := hide (H7.out.frm0 hF79.out); have HO9 := hide (HO7.out.frm0 hF79.out); have d0 : w9.drew.cell? ⟨g17, 0, none⟩ = some (.int .u16 (r.a : Int)) := hB9.cell 0; have d1 : w9.drew.cell? ⟨g17, 1, none⟩ = some (.int .u32 (r.f : Int)) := hB9.cell 1; have d2 : w9.drew.cell? ⟨g17, 2, none⟩ = some (.int .u32 (r.t : Int)) := hB9.cell 2; have d3 : w9.drew.cell? ⟨g17, 3, none⟩ = some (.int .u32 (r.l : Int)) := hB9.cell 3; clear hB8 hB9 hF8 hF9 hF79 hs8 H7 HO7))
                have e0 : w9.drew.cell? ⟨gr, j * 4, none⟩ = some (.int .u16 (r.a : Int)) := HCR.out w9 HO9.out 0 (by decide)
                have e1 : w9.drew.cell? ⟨gr, j * 4 + 1, none⟩ = some (.int .u32 (r.f : Int)) := HCR.out w9 HO9.out 1 (by decide)
                have e2 : w9.drew.cell? ⟨gr, j * 4 + 2, none⟩ = some (.int .u32 (r.t : Int)) := HCR.out w9 HO9.out 2 (by decide)
                have e3 : w9.drew.cell? ⟨gr, j * 4 + 3, none⟩ = some (.int .u32 (r.l : Int)) := HCR.out w9 HO9.out 3 (by decide)
                have H10 := hide (H9.out.frm0 ((Frm.refl _ _).drew))
                have HO10 := hide (HO9.out.frm0 ((Frm.refl _ _).drew))
                have hv := lvalid H10.out e
                rw [row_valid HRA.out H10.out.dir.ok HRM.out he1 he] at hv
                have HVV := hide hv
                clear hv H9 HO9
                refine wp_region_still_tail 13 (by kernel_rfl) (by kernel_rfl) ?_
                simp only [List.take_succ_cons, List.take_zero, List.drop_succ_cons, List.drop_zero]
                change wpStill _ _ w9.drew (fun a' => wpList _ _ _ _ a' w9.drew) _ _
                iterate 13 still_step
                refine wpStill_nil ?_
                clear d0 d1 d2 d3 e0 e1 e2 e3
                go_wp2_with fail
                refine HVV.out.mono ?_
                rintro e_ w11 ⟨A2, n2, c2, rfl, ho2, h11, f11⟩
                obtain rfl : n2 = 1 := ho2.len.symm
                have H11 := hide h11
                have HO11 := hide (HO10.out.frm0 f11)
                clear ho2 h11 f11 HVV H10 HO10
                go_wp2_with fail
                go_roundw
                case rel => exact ⟨e + 1, by omega, by omega, by go_num, H11.out, HO11.out⟩
                case measure => simp [intOf]; omega
              · have he' : ¬ (e : Int) ≤ (r.t : Int) := by omega
                have d1 : wr.drew.cell? ⟨gr, j * 4 + 1, none⟩ = some (.int .u32 (r.f : Int)) := HCR.out wr HO6.out 1 (by decide)
                have H10 := hide (H6.out.frm0 ((Frm.refl _ _).drew))
                have HO10 := hide (HO6.out.frm0 ((Frm.refl _ _).drew))
                have hw12 := row_why HRA.out H10.out.dir.ok HRM.out ha16
                have hadd := ladd_is H10.out ⟨a, r.f, r.f, 0⟩ ⟨by show a < _; omega, by show r.f < _; omega, by show r.f < _; omega, by show 0 < _; omega⟩ 12 D hw12 (add_bad (by rw [hw12]; decide))
                simp only [recV, recC] at hadd
                have HADD := hide hadd
                clear hadd hw12
                go_wp2_with fail
                clear c2
                refine wp_region_still_tail 13 (by kernel_rfl) (by kernel_rfl) ?_
                simp only [List.take_succ_cons, List.take_zero, List.drop_succ_cons, List.drop_zero]
                change wpStill _ _ wr.drew (fun a' => wpList _ _ _ _ a' wr.drew) _ _
                iterate 13 still_step
                refine wpStill_nil ?_
                clear d1 H6 HO6
                go_wp2_with fail
                refine HADD.out.mono ?_
                rintro e_ w11 ⟨rfl, h11, f11⟩
                have H11 := hide h11
                have HO11 := hide (HO10.out.frm f11 (fun k hk e => HO10.out.neMap H10.out.dir.map (by rw [← e]; exact hk)))
                clear h11 f11 HADD H10 HO10
                go_wp2_with fail
                go_roundw
                case rel => exact ⟨j + 1, by omega, by go_num, H11.out, HO11.out⟩
                case measure => simp [intOf]; omega
          · obtain rfl : j = k := by omega
            obtain ⟨r1, hr1⟩ : ∃ r, r = foundR D a fr := ⟨_, rfl⟩
            obtain ⟨r2, hr2⟩ : ∃ r, r = foundR D a t := ⟨_, rfl⟩
            have HF1 := hide (lfind_is H5.out a fr r1 false hr1.symm (row_not HRA.out (.inl HLO.out)))
            have HN2 := hide (row_not HRA.out (e := t) (.inr (Nat.le_refl _)))
            have HR2 := hide hr2.symm
            clear hr1 hr2
            go_wp2_with fail
            refine HF1.out.mono ?_
            rintro e_ w6 ⟨rfl, h6, f6⟩
            have H6 := hide h6
            clear h6 f6 HF1 H5 HO5
            go_wp2_with (first
              | ((with_reducible refine wpl_alloca (op := ⟨some 19, _, _, _, _, _⟩) rfl _ rfl _ zeroR ?_); intro g19 w7 hB7 hs7 hF7)
              | ((refine wpl_storea aggR rfl (.tmp 19) (.tmp 135) rfl g19 (recC r1) rfl rfl _ _ hB7 rfl rfl (recC_one r1) ?_); intro w8 hB8 hF8; have hF68 := frm_join w6 hF7 hF8 (fun i hi => by omega); have H8 := hide (H6.out.frm0 hF68.out); clear hB7 hB8 hF7 hF8 hF68 hs7 H6))
            refine (lfind_is H8.out a t r2 false HR2.out HN2.out).mono ?_
            rintro e_ w9 ⟨rfl, h9, f9⟩
            have H9 := hide h9
            clear h9 f9 H8
            go_wp2_with (first
              | ((with_reducible refine wpl_alloca (op := ⟨some 21, _, _, _, _, _⟩) rfl _ rfl _ zeroR ?_); intro g21 w10 hB10 hs10 hF10)
              | ((refine wpl_storea aggR rfl (.tmp 21) (.tmp 142) rfl g21 (recC r2) rfl rfl _ _ hB10 rfl rfl (recC_one r2) ?_); intro w11 hB11 hF11; have hF911 := frm_join w9 hF10 hF11 (fun i hi => by omega); have H11 := hide (H9.out.frm0 hF911.out); clear hB10 hB11 hF10 hF11 hF911 hs10 H9))
            have HBEL := hide H11.out.run.below
            refine (llen_is H11.out j HDL.out).mono ?_
            rintro e_ w12 ⟨rfl, rfl⟩
            go_wp2_with fail
            go_ret
            exact ⟨rfl, HBEL.out⟩
    · have hlt' : ¬ (k : Int) < (n0 : Int) := by omega
      have HRK : Hid (R.length = k) := HO.out.len
      have HDL : Hid (D.length = k) := by show _ = _; rw [HRA.out.len]; exact HRK.out
      go_wp2_with fail
      go_loopw [15] (fun i wr => ∃ j : Nat, j ≤ k ∧ i = .int .i64 j ∧ Liv w wr g bm D ∧ ROwn wr w.heap.size A k c R) (fun i _ => k - (intOf i).toNat)
      case atStart => exact ⟨0, by omega, rfl, H4.out, HO.out⟩
      case round =>
        clear H4 HO
        obtain ⟨j, hj, rfl, h5, ho5⟩ := hrel
        have H5 := hide h5
        have HO5 := hide ho5
        clear h5 ho5
        by_cases hlt2 : j < k
        · have hlt2' : (j : Int) < (k : Int) := by omega
          obtain ⟨gr, rfl, _, _, hc5⟩ := HO5.out.cells (by omega)
          obtain ⟨r, hr⟩ : ∃ r, r = R.getD j default := ⟨_, rfl⟩
          have HRM : Hid (r ∈ R) := by show _ ∈ _; rw [hr, List.getD_eq_getElem?_getD, List.getElem?_eq_getElem (by rw [HRK.out]; exact hlt2)]; exact List.getElem_mem _
          have HCR : Hid (∀ wx, ROwn wx w.heap.size (some ⟨gr, 0, none⟩) k c R → ∀ q, q < 4 → wx.cell? ⟨gr, j * 4 + q, none⟩ = (recC r)[q]?) := fun wx ho q hq => by
            obtain ⟨g', hg', _, _, hc⟩ := ho.cells (by omega)
            injection hg' with hg'
            injection hg' with hg' _ _
            subst hg'
            rw [hr]
            exact hc j q hlt2 hq
          have hre := HRA.out.each r HRM.out
          have hra : r.a = a := hre.1
          have HRAA := hide hra
          have hrft : r.f ≤ r.t := hre.2.2.1
          have hrt : r.t < t := hre.2.2.2
          have c1 : wr.cell? ⟨gr, j * 4 + 1, none⟩ = some (.int .u32 (r.f : Int)) := HCR.out wr HO5.out 1 (by decide)
          clear hc5 hr hre hra
          go_wp2_with fail
          clear c1
          go_loopw [16] (fun i wr => ∃ e : Nat, r.f ≤ e ∧ e ≤ r.t + 1 ∧ i = .int .u32 e ∧ Liv w wr g bm D ∧ ROwn wr w.heap.size (some ⟨gr, 0, none⟩) k c R) (fun i _ => r.t + 1 - (intOf i).toNat)
          case atStart => exact ⟨r.f, Nat.le_refl _, by omega, rfl, H5.out, HO5.out⟩
          case round =>
            clear H5 HO5
            obtain ⟨e, he1, he2, rfl, h6, ho6⟩ := hrel
            have H6 := hide h6
            have HO6 := hide ho6
            clear h6 ho6
            have c2 : wr.cell? ⟨gr, j * 4 + 2, none⟩ = some (.int .u32 (r.t : Int)) := HCR.out wr HO6.out 2 (by decide)
            by_cases he : e ≤ r.t
            · have he' : (e : Int) ≤ (r.t : Int) := by omega
              have hfd := row_find HRA.out H6.out.dir.ok HRM.out he1 he
              have HF := hide (lfind_is H6.out a e r true hfd.1 hfd.2)
              clear hfd
              go_wp2_with fail
              refine HF.out.mono ?_
              rintro e_ w7 ⟨rfl, h7, f7⟩
              have H7 := hide h7
              have HO7 := hide (HO6.out.frm0 f7)
              clear h7 f7 HF H6 HO6 c2
              go_wp2_with (first
                | ((with_reducible refine wpl_alloca (op := ⟨some 17, _, _, _, _, _⟩) rfl _ rfl _ zeroR ?_); intro g17 w8 hB8 hs8 hF8)
                | ((refine wpl_storea aggR rfl (.tmp 17) (.tmp 95) rfl g17 (recC r) rfl rfl _ _ hB8 rfl rfl (recC_one r) ?_); intro w9 hB9 hF9; have hF79 := frm_join w7 hF8 hF9 (fun i hi => by omega); have H9 := hide (H7.out.frm0 hF79.out); have HO9 := hide (HO7.out.frm0 hF79.out); have d0 : w9.drew.cell? ⟨g17, 0, none⟩ = some (.int .u16 (r.a : Int)) := hB9.cell 0; have d1 : w9.drew.cell? ⟨g17, 1, none⟩ = some (.int .u32 (r.f : Int)) := hB9.cell 1; have d2 : w9.drew.cell? ⟨g17, 2, none⟩ = some (.int .u32 (r.t : Int)) := hB9.cell 2; have d3 : w9.drew.cell? ⟨g17, 3, none⟩ = some (.int .u32 (r.l : Int)) := hB9.cell 3; clear hB8 hB9 hF8 hF9 hF79 hs8 H7 HO7))
              have e0 : w9.drew.cell? ⟨gr, j * 4, none⟩ = some (.int .u16 (r.a : Int)) := HCR.out w9 HO9.out 0 (by decide)
              have e1 : w9.drew.cell? ⟨gr, j * 4 + 1, none⟩ = some (.int .u32 (r.f : Int)) := HCR.out w9 HO9.out 1 (by decide)
              have e2 : w9.drew.cell? ⟨gr, j * 4 + 2, none⟩ = some (.int .u32 (r.t : Int)) := HCR.out w9 HO9.out 2 (by decide)
              have e3 : w9.drew.cell? ⟨gr, j * 4 + 3, none⟩ = some (.int .u32 (r.l : Int)) := HCR.out w9 HO9.out 3 (by decide)
              have H10 := hide (H9.out.frm0 ((Frm.refl _ _).drew))
              have HO10 := hide (HO9.out.frm0 ((Frm.refl _ _).drew))
              have hv := lvalid H10.out e
              rw [row_valid HRA.out H10.out.dir.ok HRM.out he1 he] at hv
              have HVV := hide hv
              clear hv H9 HO9
              refine wp_region_still_tail 13 (by kernel_rfl) (by kernel_rfl) ?_
              simp only [List.take_succ_cons, List.take_zero, List.drop_succ_cons, List.drop_zero]
              change wpStill _ _ w9.drew (fun a' => wpList _ _ _ _ a' w9.drew) _ _
              iterate 13 still_step
              refine wpStill_nil ?_
              clear d0 d1 d2 d3 e0 e1 e2 e3
              go_wp2_with fail
              refine HVV.out.mono ?_
              rintro e_ w11 ⟨A2, n2, c2, rfl, ho2, h11, f11⟩
              obtain rfl : n2 = 1 := ho2.len.symm
              have H11 := hide h11
              have HO11 := hide (HO10.out.frm0 f11)
              clear ho2 h11 f11 HVV H10 HO10
              go_wp2_with fail
              go_roundw
              case rel => exact ⟨e + 1, by omega, by omega, by go_num, H11.out, HO11.out⟩
              case measure => simp [intOf]; omega
            · have he' : ¬ (e : Int) ≤ (r.t : Int) := by omega
              have d1 : wr.drew.cell? ⟨gr, j * 4 + 1, none⟩ = some (.int .u32 (r.f : Int)) := HCR.out wr HO6.out 1 (by decide)
              have H10 := hide (H6.out.frm0 ((Frm.refl _ _).drew))
              have HO10 := hide (HO6.out.frm0 ((Frm.refl _ _).drew))
              have hw12 := row_why HRA.out H10.out.dir.ok HRM.out ha16
              have hadd := ladd_is H10.out ⟨a, r.f, r.f, 0⟩ ⟨by show a < _; omega, by show r.f < _; omega, by show r.f < _; omega, by show 0 < _; omega⟩ 12 D hw12 (add_bad (by rw [hw12]; decide))
              simp only [recV, recC] at hadd
              have HADD := hide hadd
              clear hadd hw12
              go_wp2_with fail
              clear c2
              refine wp_region_still_tail 13 (by kernel_rfl) (by kernel_rfl) ?_
              simp only [List.take_succ_cons, List.take_zero, List.drop_succ_cons, List.drop_zero]
              change wpStill _ _ wr.drew (fun a' => wpList _ _ _ _ a' wr.drew) _ _
              iterate 13 still_step
              refine wpStill_nil ?_
              clear d1 H6 HO6
              go_wp2_with fail
              refine HADD.out.mono ?_
              rintro e_ w11 ⟨rfl, h11, f11⟩
              have H11 := hide h11
              have HO11 := hide (HO10.out.frm f11 (fun k hk e => HO10.out.neMap H10.out.dir.map (by rw [← e]; exact hk)))
              clear h11 f11 HADD H10 HO10
              go_wp2_with fail
              go_roundw
              case rel => exact ⟨j + 1, by omega, by go_num, H11.out, HO11.out⟩
              case measure => simp [intOf]; omega
        · obtain rfl : j = k := by omega
          obtain ⟨r1, hr1⟩ : ∃ r, r = foundR D a fr := ⟨_, rfl⟩
          obtain ⟨r2, hr2⟩ : ∃ r, r = foundR D a t := ⟨_, rfl⟩
          have HF1 := hide (lfind_is H5.out a fr r1 false hr1.symm (row_not HRA.out (.inl HLO.out)))
          have HN2 := hide (row_not HRA.out (e := t) (.inr (Nat.le_refl _)))
          have HR2 := hide hr2.symm
          clear hr1 hr2
          go_wp2_with fail
          refine HF1.out.mono ?_
          rintro e_ w6 ⟨rfl, h6, f6⟩
          have H6 := hide h6
          clear h6 f6 HF1 H5 HO5
          go_wp2_with (first
            | ((with_reducible refine wpl_alloca (op := ⟨some 19, _, _, _, _, _⟩) rfl _ rfl _ zeroR ?_); intro g19 w7 hB7 hs7 hF7)
            | ((refine wpl_storea aggR rfl (.tmp 19) (.tmp 135) rfl g19 (recC r1) rfl rfl _ _ hB7 rfl rfl (recC_one r1) ?_); intro w8 hB8 hF8; have hF68 := frm_join w6 hF7 hF8 (fun i hi => by omega); have H8 := hide (H6.out.frm0 hF68.out); clear hB7 hB8 hF7 hF8 hF68 hs7 H6))
          refine (lfind_is H8.out a t r2 false HR2.out HN2.out).mono ?_
          rintro e_ w9 ⟨rfl, h9, f9⟩
          have H9 := hide h9
          clear h9 f9 H8
          go_wp2_with (first
            | ((with_reducible refine wpl_alloca (op := ⟨some 21, _, _, _, _, _⟩) rfl _ rfl _ zeroR ?_); intro g21 w10 hB10 hs10 hF10)
            | ((refine wpl_storea aggR rfl (.tmp 21) (.tmp 142) rfl g21 (recC r2) rfl rfl _ _ hB10 rfl rfl (recC_one r2) ?_); intro w11 hB11 hF11; have hF911 := frm_join w9 hF10 hF11 (fun i hi => by omega); have H11 := hide (H9.out.frm0 hF911.out); clear hB10 hB11 hF10 hF11 hF911 hs10 H9))
          have HBEL := hide H11.out.run.below
          refine (llen_is H11.out j HDL.out).mono ?_
          rintro e_ w12 ⟨rfl, rfl⟩
          go_wp2_with fail
          go_ret
          exact ⟨rfl, HBEL.out⟩
end Go.Proofs.YtjicnfkodieaaaaDoor
