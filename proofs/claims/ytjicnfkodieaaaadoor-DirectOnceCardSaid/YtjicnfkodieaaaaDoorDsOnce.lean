/-
  DirectOnce: the walk.
-/
import Derived.Test.YtjicnfkodieaaaaDoorDsT
import Derived.BigQuiet
namespace Go.Proofs.YtjicnfkodieaaaaDoor
set_option linter.unusedVariables false
set_option linter.unusedSimpArgs false
open Go.RowKit

theorem valid_rising {D : List Rec} (h : DirOk D) (e : Nat) : (validL D e).Pairwise (fun x y => x.a < y.a) := by
  unfold validL
  refine List.Pairwise.imp_of_mem ?_ (h.apart.filter _)
  intro x y hx hy hxy
  have h1 := (List.mem_filter.1 hx).2
  have h2 := (List.mem_filter.1 hy).2
  simp [Rec.meets] at h1 h2
  rcases hxy with h3 | ⟨h3, h4⟩
  · exact h3
  · omega
/-- How many stand ahead of node a. -/
def aheadN (V : List Rec) (a : Nat) : Nat := (V.filter fun x => decide (x.a < a)).length
theorem ahead_at : ∀ {V : List Rec} {a : Nat} {r : Rec}, V.Pairwise (fun x y => x.a < y.a) → r ∈ V → r.a = a → V[aheadN V a]? = some r
  | [], a, r, _, h, _ => by cases h
  | x :: V, a, r, hp, h, ha => by
    obtain ⟨h1, h2⟩ := List.pairwise_cons.1 hp
    unfold aheadN
    by_cases hx : x.a < a
    · rw [List.filter_cons_of_pos (by simp [hx]), List.length_cons, List.getElem?_cons_succ]
      rcases List.mem_cons.1 h with rfl | h
      · omega
      · exact ahead_at h2 h ha
    · rw [List.filter_cons_of_neg (by simp [hx])]
      have e : V.filter (fun x => decide (x.a < a)) = [] := List.filter_eq_nil_iff.2 fun y hy => by have := h1 y hy; simp; omega
      rw [e]
      rcases List.mem_cons.1 h with rfl | h
      · rfl
      · have := h1 r h; omega
theorem ahead_yes : ∀ {V : List Rec} {a : Nat} {r : Rec}, V.Pairwise (fun x y => x.a < y.a) → r ∈ V → r.a = a → aheadN V (a + 1) = aheadN V a + 1
  | [], a, r, _, h, _ => by cases h
  | x :: V, a, r, hp, h, ha => by
    obtain ⟨h1, h2⟩ := List.pairwise_cons.1 hp
    unfold aheadN
    by_cases hx : x.a < a
    · rw [List.filter_cons_of_pos (by simp; omega), List.filter_cons_of_pos (by simp [hx]), List.length_cons, List.length_cons]
      rcases List.mem_cons.1 h with rfl | h
      · omega
      · have := ahead_yes h2 h ha
        unfold aheadN at this
        omega
    · have e : V.filter (fun x => decide (x.a < a + 1)) = [] := List.filter_eq_nil_iff.2 fun y hy => by
        have := h1 y hy
        rcases List.mem_cons.1 h with rfl | h
        · simp; omega
        · have := h1 r h; omega
      have e2 : V.filter (fun x => decide (x.a < a)) = [] := List.filter_eq_nil_iff.2 fun y hy => by have := h1 y hy; simp; omega
      rcases List.mem_cons.1 h with rfl | h
      · rw [List.filter_cons_of_pos (by simp; omega), List.filter_cons_of_neg (by simp [hx]), e, e2]
        rfl
      · have := h1 r h; omega
theorem ahead_no {V : List Rec} {a : Nat} (h : ∀ x ∈ V, ¬ x.a = a) : aheadN V (a + 1) = aheadN V a := by
  unfold aheadN
  congr 1
  apply List.filter_congr
  intro x hx
  have := h x hx
  by_cases h1 : x.a < a
  · simp [h1]; omega
  · simp [h1]; omega
theorem ahead_all {V : List Rec} {a : Nat} (h : ∀ x ∈ V, x.a < a) : aheadN V a = V.length := by
  unfold aheadN
  rw [List.filter_eq_self.2 (fun x hx => by simp [h x hx])]
theorem ahead_zero (V : List Rec) : aheadN V 0 = 0 := by
  unfold aheadN
  rw [List.filter_eq_nil_iff.2 (fun x hx => by simp)]
  rfl
theorem rising_length : ∀ {V : List Rec} (lo m : Nat), V.Pairwise (fun x y => x.a < y.a) → (∀ x ∈ V, lo ≤ x.a ∧ x.a < m) → V.length ≤ m - lo
  | [], lo, m, _, _ => by simp
  | x :: V, lo, m, hp, h => by
    obtain ⟨h1, h2⟩ := List.pairwise_cons.1 hp
    have hx := h x (List.mem_cons_self ..)
    have := rising_length (x.a + 1) m h2 (fun y hy => ⟨h1 y hy, (h y (List.mem_cons_of_mem _ hy)).2⟩)
    rw [List.length_cons]
    omega
theorem found_none {D : List Rec} {a e : Nat} (h : foundB D a e = false) : foundR D a e = default ∧ ∀ x ∈ validL D e, ¬ x.a = a := by
  unfold foundB findL at h
  unfold foundR findL
  cases hw : withinL D a e e with
  | nil =>
    refine ⟨rfl, fun x hx ha => ?_⟩
    have h1 := List.mem_filter.1 hx
    have h2 := List.filter_eq_nil_iff.1 hw x h1.1
    exact h2 (by rw [decide_eq_true ha, h1.2]; rfl)
  | cons r l => rw [hw] at h; simp at h
theorem found_some {D : List Rec} {a e : Nat} (h : foundB D a e = true) : foundR D a e ∈ validL D e ∧ (foundR D a e).a = a ∧ (foundR D a e).f ≤ e ∧ e ≤ (foundR D a e).t := by
  unfold foundB findL at h
  unfold foundR findL
  cases hw : withinL D a e e with
  | nil => rw [hw] at h; simp at h
  | cons r l =>
    have h1 : r ∈ withinL D a e e := by rw [hw]; exact List.mem_cons_self ..
    have h2 := List.mem_filter.1 h1
    simp [Rec.meets] at h2
    refine ⟨List.mem_filter.2 ⟨h2.1, by show (decide (r.f ≤ e) && decide (e ≤ r.t)) = true; rw [decide_eq_true h2.2.2.1, decide_eq_true h2.2.2.2]; rfl⟩, h2.2.1, h2.2.2.1, h2.2.2.2⟩

set_option maxHeartbeats 8000000 in
set_option maxRecDepth 100000 in
theorem once_walk (A0 : Option Addr) (n0 c0 : Nat) (L : List Rec) (ep : Nat) (w : World) (hG : Gl w) (hg0 : 2 ≤ w.heap.size)
    (hL : RRow w A0 n0 L) (hc0 : n0 ≤ c0) (hm0 : c0 ≤ 9223372036854775807) (hep : ep < 4294967296) :
    Calls Tryd.prog 5 #[.slice A0 n0 c0, .int .u32 (ep : Int)] w fun e w' => e = .returned (.bool true) ∧ Below w.heap.size w w' := by
  have HL := hide hL
  have HR0 := hide (run_start w hG hg0)
  have HLN : Hid (L.length = n0) := hL.1
  clear hL hG
  go_enter Tryd.func5, Tryd.ntmps5
  go_wp2_with fail
  refine (shown9 w _ HR0.out).mono ?_
  rintro e w1 ⟨rfl, f1⟩
  have HR1 := hide (HR0.out.frm0 f1)
  clear f1 HR0
  go_wp2_with fail
  refine (lnew w w1 HR1.out).mono ?_
  rintro e w2 ⟨g, bm, rfl, h2, f2, hg2, hb2⟩
  have H2 := hide h2
  clear h2 f2 HR1 hg2 hb2
  go_wp2_with fail
  go_loopw [7] (fun i wr => ∃ k : Nat, k ≤ n0 ∧ k ≤ 60 ∧ i = .int .i64 k ∧ Liv w wr g bm (foldL (L.take k))) (fun i _ => 60 - (intOf i).toNat)
  case atStart => exact ⟨0, by omega, by omega, rfl, H2.out⟩
  case round =>
    clear H2
    obtain ⟨k, hk, hk5, rfl, hi⟩ := hrel
    have HI := hide hi
    clear hi
    by_cases hlt : k < n0
    · have hlt' : (k : Int) < (n0 : Int) := by omega
      by_cases h50 : k < 60
      · have h50' : (k : Int) < 60 := by omega
        obtain ⟨p, rfl, hat⟩ := HL.out.at (by omega)
        obtain ⟨x, hx⟩ : ∃ x, x = L.getD k default := ⟨_, rfl⟩
        have HXI : Hid x.in32 := by show _; rw [hx]; exact HL.out.in k hlt
        have hxc := hat wr HI.out.run.below k hlt
        rw [← hx] at hxc
        have HS : Hid (foldL (L.take (k + 1)) = addL (foldL (L.take k)) x) := by show _ = _; rw [foldL_succ L k (by rw [HLN.out]; exact hlt), hx]
        clear hx hat
        go_wp2_with (with_reducible refine wpl_loadr (op := ⟨some 31, _, _, _, _, _⟩) rfl (.tmp 30) rfl (p.add (k * 4)) rfl x hxc ?_)
        refine (ladd HI.out x HXI.out).mono ?_
        rintro e w4 ⟨rfl, h4, f4⟩
        rw [← HS.out] at h4
        have H4 := hide h4
        clear h4 f4 hxc HI
        go_wp2_with fail
        go_roundw
        case rel => exact ⟨k + 1, by omega, by omega, by go_num, H4.out⟩
        case measure => simp [intOf]; omega
      · obtain rfl : k = 60 := by omega
        obtain ⟨D, hD⟩ : ∃ D, D = foldL (L.take 60) := ⟨_, rfl⟩
        have H4 := hide HI.out
        have HDM : Hid (D.length ≤ 60) := by show _ ≤ _; rw [hD]; exact foldL_length L 60
        rw [← hD] at H4
        clear hD HI
        go_wp2_with fail
        have hv := lvalid H4.out ep
        have HOK := hide H4.out.dir.ok
        obtain ⟨V, hV⟩ : ∃ V, V = validL D ep := ⟨_, rfl⟩
        have HVR : Hid (V.Pairwise (fun x y => x.a < y.a)) := by show List.Pairwise _ _; rw [hV]; exact valid_rising HOK.out ep
        have HVA : Hid (∀ x ∈ V, x.a < 16) := fun x hx => (HOK.out.ok x (List.mem_filter.1 (by rw [hV] at hx; exact hx)).1).a
        have HV := hide hV
        rw [← hV] at hv
        clear hV
        refine hv.mono ?_
        rintro e w5 ⟨A, n, c, rfl, ho, h5, f5⟩
        have HO5 := hide (ho.base H4.out.run.below.size)
        have H5 := hide h5
        have HVN : Hid (V.length = n) := ho.len
        have HV16 : Hid (V.length ≤ 16) := rising_length 0 16 HVR.out (fun x hx => ⟨Nat.zero_le _, HVA.out x hx⟩)
        clear ho hv h5 f5 H4
        go_wp2_with fail
        go_loopw [9, 10] (fun at_ i wr => ∃ j : Nat, j ≤ 20 ∧ i = .int .i64 j ∧ at_ = .int .i64 (aheadN V j : Nat) ∧ Liv w wr g bm D ∧ ROwn wr w.heap.size A n c V) (fun _ i _ => 20 - (intOf i).toNat)
        case atStart => exact ⟨0, by omega, rfl, by rw [ahead_zero]; rfl, H5.out, HO5.out⟩
        case round =>
          clear H5 HO5
          obtain ⟨j, hj, rfl, rfl, hi1, hi2⟩ := hrel
          have H6 := hide hi1
          have HO6 := hide hi2
          clear hi1 hi2
          by_cases hlt2 : j < 20
          · have hlt2' : (j : Int) < 20 := by omega
            have hwr : IntKind.u16.wrap (j : Int) = (j : Int) := by rw [IntKind.wrap_u16]; omega
            obtain ⟨m, hm⟩ : ∃ m, m = aheadN V j := ⟨_, rfl⟩
            rw [← hm]
            have HM := hide hm
            clear hm
            obtain ⟨b, hb⟩ : ∃ b, b = foundB D j ep := ⟨_, rfl⟩
            have HF := hide (lfind_is H6.out j ep _ b rfl hb.symm)
            rcases Bool.eq_false_or_eq_true b with rfl | rfl
            · have hfs := found_some hb.symm
              rw [← HV.out] at hfs
              obtain ⟨r, hr⟩ : ∃ r, r = foundR D j ep := ⟨_, rfl⟩
              rw [← hr] at hfs HF
              have HAT : Hid (V[m]? = some r) := by show _ = _; rw [HM.out]; exact ahead_at HVR.out hfs.1 hfs.2.1
              have HNX : Hid (aheadN V (j + 1) = m + 1) := by show _ = _; rw [HM.out]; exact ahead_yes HVR.out hfs.1 hfs.2.1
              have hmn : m < n := by have := (List.getElem?_eq_some_iff.1 HAT.out).1; rwa [HVN.out] at this
              have hra : (r.a : Int) = (j : Int) := by have := hfs.2.1; omega
              have hrf : ¬ (ep : Int) < (r.f : Int) := by have := hfs.2.2.1; omega
              have hrt : ¬ (r.t : Int) < (ep : Int) := by have := hfs.2.2.2; omega
              have hm16 : m ≤ 16 := by have := HV16.out; have := HVN.out; omega
              have HRA := hide hra
              have HRF := hide hrf
              have HRT := hide hrt
              clear hfs hr hb hra hrf hrt
              go_wp2_with fail
              refine HF.out.mono ?_
              rintro e w6 ⟨rfl, h6, f6⟩
              have H7 := hide h6
              have HO7 := hide (HO6.out.frm0 f6)
              clear h6 f6 HF H6 HO6
              go_wp2_with (first
                | ((with_reducible refine wpl_alloca (op := ⟨some 11, _, _, _, _, _⟩) rfl _ rfl _ zeroR ?_); intro g11 w7 hB7 hs7 hF7)
                | ((refine wpl_storea aggR rfl (.tmp 11) (.tmp 46) rfl g11 (recC r) rfl rfl _ _ hB7 rfl rfl (recC_one r) ?_); intro w8 hB8 hF8))
              have hF68 := frm_join w6 hF7 hF8 (fun i hi => by omega)
              have H8 := hide (H7.out.frm0 hF68.out)
              have HO8 := hide (HO7.out.frm0 hF68.out)
              obtain ⟨gr, rfl, _, _, hcells⟩ := HO8.out.cells (by omega)
              have hget : V.getD m default = r := by rw [List.getD_eq_getElem?_getD, HAT.out]; rfl
              have hc := fun q hq => hcells m q hmn hq
              rw [hget] at hc
              have e0 : ∀ q, (w8.drewN q).cell? ⟨gr, m * 4, none⟩ = some (.int .u16 (j : Int)) := fun q => by rw [← HRA.out]; exact hc 0 (by decide)
              have e1 : ∀ q, (w8.drewN q).cell? ⟨gr, m * 4 + 1, none⟩ = some (.int .u32 (r.f : Int)) := fun q => hc 1 (by decide)
              have e2 : ∀ q, (w8.drewN q).cell? ⟨gr, m * 4 + 2, none⟩ = some (.int .u32 (r.t : Int)) := fun q => hc 2 (by decide)
              have e3 : ∀ q, (w8.drewN q).cell? ⟨gr, m * 4 + 3, none⟩ = some (.int .u32 (r.l : Int)) := fun q => hc 3 (by decide)
              have d0 : ∀ q, (w8.drewN q).cell? ⟨g11, 0, none⟩ = some (.int .u16 (j : Int)) := fun q => by rw [← HRA.out]; exact hB8.cell 0
              have d1 : ∀ q, (w8.drewN q).cell? ⟨g11, 1, none⟩ = some (.int .u32 (r.f : Int)) := fun q => hB8.cell 1
              have d2 : ∀ q, (w8.drewN q).cell? ⟨g11, 2, none⟩ = some (.int .u32 (r.t : Int)) := fun q => hB8.cell 2
              have d3 : ∀ q, (w8.drewN q).cell? ⟨g11, 3, none⟩ = some (.int .u32 (r.l : Int)) := fun q => hB8.cell 3
              have hmn2 : decide ((n : Int) ≤ (m : Int)) = false := decide_eq_false (by omega)
              have hmn3 : (m : Int) < (n : Int) := by omega
              have hrf := HRF.out
              have hrt := HRT.out
              have hrf2 : decide ((ep : Int) < (r.f : Int)) = false := decide_eq_false (by omega)
              have hrt2 : decide ((r.t : Int) < (ep : Int)) = false := decide_eq_false (by omega)
              have hmn4 : decide (n ≤ m) = false := decide_eq_false (by omega)
              have hrf4 : decide (ep < r.f) = false := decide_eq_false (by omega)
              have hrt4 : decide (r.t < ep) = false := decide_eq_false (by omega)
              have hrf5 : ¬ ep < r.f := by omega
              have hrt5 : ¬ r.t < ep := by omega
              have hmn5 : ¬ n ≤ m := by omega
              clear hB8 hB7 hF7 hF8 hF68 hs7 H7 HO7 hcells hc hget
              go_quiet (fail)
              go_wp2_with fail
              go_roundw
              case rel => exact ⟨j + 1, by omega, by go_num, by rw [HNX.out]; go_num, H8.out.frm0 ((Frm.refl _ _).drewN _), HO8.out.frm0 ((Frm.refl _ _).drewN _)⟩
              case measure => simp [intOf]; omega
            · have hfs := found_none hb.symm
              rw [← HV.out] at hfs
              rw [hfs.1] at HF
              have HNX : Hid (aheadN V (j + 1) = m) := by show _ = _; rw [HM.out]; exact ahead_no hfs.2
              clear hfs hb
              go_wp2_with fail
              refine HF.out.mono ?_
              rintro e w6 ⟨rfl, h6, f6⟩
              have H7 := hide h6
              have HO7 := hide (HO6.out.frm0 f6)
              clear h6 f6 HF H6 HO6
              go_wp2_with (first
                | ((with_reducible refine wpl_alloca (op := ⟨some 11, _, _, _, _, _⟩) rfl _ rfl _ zeroR ?_); intro g11 w7 hB7 hs7 hF7)
                | ((refine wpl_storea aggR rfl (.tmp 11) (.tmp 46) rfl g11 [.int .u16 0, .int .u32 0, .int .u32 0, .int .u32 0] rfl rfl _ _ hB7 rfl rfl four_r ?_); intro w8 hB8 hF8; have hF68 := frm_join w6 hF7 hF8 (fun i hi => by omega); have H8 := hide (H7.out.frm0 hF68.out); have HO8 := hide (HO7.out.frm0 hF68.out); clear hB7 hF7 hF8 hF68 hs7 H7 HO7)
                | (with_reducible refine wpl_loada (op := ⟨some 50, _, _, _, _, _⟩) aggR rfl (.tmp 11) rfl g11 0 rfl _ [.int .u16 0, .int .u32 0, .int .u32 0, .int .u32 0] [.int .u16 0, .int .u32 0, .int .u32 0, .int .u32 0] hB8 (take4 _ _ _ _) (len4 _ _ _ _) ?_))
              go_roundw
              case rel => exact ⟨j + 1, by omega, by go_num, by rw [HNX.out], H8.out, HO8.out⟩
              case measure => simp [intOf]; omega
          · obtain rfl : j = 20 := by omega
            have hall : aheadN V 20 = n := by rw [ahead_all (fun x hx => by have := HVA.out x hx; omega)]; exact HVN.out
            have hn16 : (n : Int) ≤ 16 := by have := HV16.out; have := HVN.out; omega
            rw [hall]
            have HBEL := hide H6.out.run.below
            clear H6 HO6 hall
            go_wp2_with fail
            go_ret
            exact ⟨rfl, HBEL.out⟩
    · obtain rfl : k = n0 := by omega
      have hlt' : ¬ (k : Int) < (k : Int) := by omega
      obtain ⟨D, hD⟩ : ∃ D, D = foldL (L.take k) := ⟨_, rfl⟩
      have H4 := hide HI.out
      have HDM : Hid (D.length ≤ 60) := by show _ ≤ _; rw [hD]; exact Nat.le_trans (foldL_length L k) hk5
      rw [← hD] at H4
      clear hD HI
      go_wp2_with fail
      have hv := lvalid H4.out ep
      have HOK := hide H4.out.dir.ok
      obtain ⟨V, hV⟩ : ∃ V, V = validL D ep := ⟨_, rfl⟩
      have HVR : Hid (V.Pairwise (fun x y => x.a < y.a)) := by show List.Pairwise _ _; rw [hV]; exact valid_rising HOK.out ep
      have HVA : Hid (∀ x ∈ V, x.a < 16) := fun x hx => (HOK.out.ok x (List.mem_filter.1 (by rw [hV] at hx; exact hx)).1).a
      have HV := hide hV
      rw [← hV] at hv
      clear hV
      refine hv.mono ?_
      rintro e w5 ⟨A, n, c, rfl, ho, h5, f5⟩
      have HO5 := hide (ho.base H4.out.run.below.size)
      have H5 := hide h5
      have HVN : Hid (V.length = n) := ho.len
      have HV16 : Hid (V.length ≤ 16) := rising_length 0 16 HVR.out (fun x hx => ⟨Nat.zero_le _, HVA.out x hx⟩)
      clear ho hv h5 f5 H4
      go_wp2_with fail
      go_loopw [9, 10] (fun at_ i wr => ∃ j : Nat, j ≤ 20 ∧ i = .int .i64 j ∧ at_ = .int .i64 (aheadN V j : Nat) ∧ Liv w wr g bm D ∧ ROwn wr w.heap.size A n c V) (fun _ i _ => 20 - (intOf i).toNat)
      case atStart => exact ⟨0, by omega, rfl, by rw [ahead_zero]; rfl, H5.out, HO5.out⟩
      case round =>
        clear H5 HO5
        obtain ⟨j, hj, rfl, rfl, hi1, hi2⟩ := hrel
        have H6 := hide hi1
        have HO6 := hide hi2
        clear hi1 hi2
        by_cases hlt2 : j < 20
        · have hlt2' : (j : Int) < 20 := by omega
          have hwr : IntKind.u16.wrap (j : Int) = (j : Int) := by rw [IntKind.wrap_u16]; omega
          obtain ⟨m, hm⟩ : ∃ m, m = aheadN V j := ⟨_, rfl⟩
          rw [← hm]
          have HM := hide hm
          clear hm
          obtain ⟨b, hb⟩ : ∃ b, b = foundB D j ep := ⟨_, rfl⟩
          have HF := hide (lfind_is H6.out j ep _ b rfl hb.symm)
          rcases Bool.eq_false_or_eq_true b with rfl | rfl
          · have hfs := found_some hb.symm
            rw [← HV.out] at hfs
            obtain ⟨r, hr⟩ : ∃ r, r = foundR D j ep := ⟨_, rfl⟩
            rw [← hr] at hfs HF
            have HAT : Hid (V[m]? = some r) := by show _ = _; rw [HM.out]; exact ahead_at HVR.out hfs.1 hfs.2.1
            have HNX : Hid (aheadN V (j + 1) = m + 1) := by show _ = _; rw [HM.out]; exact ahead_yes HVR.out hfs.1 hfs.2.1
            have hmn : m < n := by have := (List.getElem?_eq_some_iff.1 HAT.out).1; rwa [HVN.out] at this
            have hra : (r.a : Int) = (j : Int) := by have := hfs.2.1; omega
            have hrf : ¬ (ep : Int) < (r.f : Int) := by have := hfs.2.2.1; omega
            have hrt : ¬ (r.t : Int) < (ep : Int) := by have := hfs.2.2.2; omega
            have hm16 : m ≤ 16 := by have := HV16.out; have := HVN.out; omega
            have HRA := hide hra
            have HRF := hide hrf
            have HRT := hide hrt
            clear hfs hr hb hra hrf hrt
            go_wp2_with fail
            refine HF.out.mono ?_
            rintro e w6 ⟨rfl, h6, f6⟩
            have H7 := hide h6
            have HO7 := hide (HO6.out.frm0 f6)
            clear h6 f6 HF H6 HO6
            go_wp2_with (first
              | ((with_reducible refine wpl_alloca (op := ⟨some 11, _, _, _, _, _⟩) rfl _ rfl _ zeroR ?_); intro g11 w7 hB7 hs7 hF7)
              | ((refine wpl_storea aggR rfl (.tmp 11) (.tmp 46) rfl g11 (recC r) rfl rfl _ _ hB7 rfl rfl (recC_one r) ?_); intro w8 hB8 hF8))
            have hF68 := frm_join w6 hF7 hF8 (fun i hi => by omega)
            have H8 := hide (H7.out.frm0 hF68.out)
            have HO8 := hide (HO7.out.frm0 hF68.out)
            obtain ⟨gr, rfl, _, _, hcells⟩ := HO8.out.cells (by omega)
            have hget : V.getD m default = r := by rw [List.getD_eq_getElem?_getD, HAT.out]; rfl
            have hc := fun q hq => hcells m q hmn hq
            rw [hget] at hc
            have e0 : ∀ q, (w8.drewN q).cell? ⟨gr, m * 4, none⟩ = some (.int .u16 (j : Int)) := fun q => by rw [← HRA.out]; exact hc 0 (by decide)
            have e1 : ∀ q, (w8.drewN q).cell? ⟨gr, m * 4 + 1, none⟩ = some (.int .u32 (r.f : Int)) := fun q => hc 1 (by decide)
            have e2 : ∀ q, (w8.drewN q).cell? ⟨gr, m * 4 + 2, none⟩ = some (.int .u32 (r.t : Int)) := fun q => hc 2 (by decide)
            have e3 : ∀ q, (w8.drewN q).cell? ⟨gr, m * 4 + 3, none⟩ = some (.int .u32 (r.l : Int)) := fun q => hc 3 (by decide)
            have d0 : ∀ q, (w8.drewN q).cell? ⟨g11, 0, none⟩ = some (.int .u16 (j : Int)) := fun q => by rw [← HRA.out]; exact hB8.cell 0
            have d1 : ∀ q, (w8.drewN q).cell? ⟨g11, 1, none⟩ = some (.int .u32 (r.f : Int)) := fun q => hB8.cell 1
            have d2 : ∀ q, (w8.drewN q).cell? ⟨g11, 2, none⟩ = some (.int .u32 (r.t : Int)) := fun q => hB8.cell 2
            have d3 : ∀ q, (w8.drewN q).cell? ⟨g11, 3, none⟩ = some (.int .u32 (r.l : Int)) := fun q => hB8.cell 3
            have hmn2 : decide ((n : Int) ≤ (m : Int)) = false := decide_eq_false (by omega)
            have hmn3 : (m : Int) < (n : Int) := by omega
            have hrf := HRF.out
            have hrt := HRT.out
            have hrf2 : decide ((ep : Int) < (r.f : Int)) = false := decide_eq_false (by omega)
            have hrt2 : decide ((r.t : Int) < (ep : Int)) = false := decide_eq_false (by omega)
            have hmn4 : decide (n ≤ m) = false := decide_eq_false (by omega)
            have hrf4 : decide (ep < r.f) = false := decide_eq_false (by omega)
            have hrt4 : decide (r.t < ep) = false := decide_eq_false (by omega)
            have hrf5 : ¬ ep < r.f := by omega
            have hrt5 : ¬ r.t < ep := by omega
            have hmn5 : ¬ n ≤ m := by omega
            clear hB8 hB7 hF7 hF8 hF68 hs7 H7 HO7 hcells hc hget
            go_quiet (fail)
            go_wp2_with fail
            go_roundw
            case rel => exact ⟨j + 1, by omega, by go_num, by rw [HNX.out]; go_num, H8.out.frm0 ((Frm.refl _ _).drewN _), HO8.out.frm0 ((Frm.refl _ _).drewN _)⟩
            case measure => simp [intOf]; omega
          · have hfs := found_none hb.symm
            rw [← HV.out] at hfs
            rw [hfs.1] at HF
            have HNX : Hid (aheadN V (j + 1) = m) := by show _ = _; rw [HM.out]; exact ahead_no hfs.2
            clear hfs hb
            go_wp2_with fail
            refine HF.out.mono ?_
            rintro e w6 ⟨rfl, h6, f6⟩
            have H7 := hide h6
            have HO7 := hide (HO6.out.frm0 f6)
            clear h6 f6 HF H6 HO6
            go_wp2_with (first
              | ((with_reducible refine wpl_alloca (op := ⟨some 11, _, _, _, _, _⟩) rfl _ rfl _ zeroR ?_); intro g11 w7 hB7 hs7 hF7)
              | ((refine wpl_storea aggR rfl (.tmp 11) (.tmp 46) rfl g11 [.int .u16 0, .int .u32 0, .int .u32 0, .int .u32 0] rfl rfl _ _ hB7 rfl rfl four_r ?_); intro w8 hB8 hF8; have hF68 := frm_join w6 hF7 hF8 (fun i hi => by omega); have H8 := hide (H7.out.frm0 hF68.out); have HO8 := hide (HO7.out.frm0 hF68.out); clear hB7 hF7 hF8 hF68 hs7 H7 HO7)
              | (with_reducible refine wpl_loada (op := ⟨some 50, _, _, _, _, _⟩) aggR rfl (.tmp 11) rfl g11 0 rfl _ [.int .u16 0, .int .u32 0, .int .u32 0, .int .u32 0] [.int .u16 0, .int .u32 0, .int .u32 0, .int .u32 0] hB8 (take4 _ _ _ _) (len4 _ _ _ _) ?_))
            go_roundw
            case rel => exact ⟨j + 1, by omega, by go_num, by rw [HNX.out], H8.out, HO8.out⟩
            case measure => simp [intOf]; omega
        · obtain rfl : j = 20 := by omega
          have hall : aheadN V 20 = n := by rw [ahead_all (fun x hx => by have := HVA.out x hx; omega)]; exact HVN.out
          have hn16 : (n : Int) ≤ 16 := by have := HV16.out; have := HVN.out; omega
          rw [hall]
          have HBEL := hide H6.out.run.below
          clear H6 HO6 hall
          go_wp2_with fail
          go_ret
          exact ⟨rfl, HBEL.out⟩
end Go.Proofs.YtjicnfkodieaaaaDoor
