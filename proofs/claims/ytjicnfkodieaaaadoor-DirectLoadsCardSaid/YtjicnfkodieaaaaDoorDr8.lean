/-
  Bytes loaded as records.
-/
import Derived.Test.YtjicnfkodieaaaaDoorDr7
namespace Go.Proofs.YtjicnfkodieaaaaDoor
set_option linter.unusedVariables false
set_option linter.unusedSimpArgs false
open Go.RowKit

theorem cmp_sign (x y : Rec) : (x.lt y → cmpI x y < 0) ∧ (¬ x.lt y → 0 ≤ cmpI x y) := by
  have h := cmp_ltOf x y
  unfold ltOf at h
  constructor
  · intro hl
    rw [decide_eq_true hl] at h
    exact of_decide_eq_true h
  · intro hl
    rw [decide_eq_false hl] at h
    have := of_decide_eq_false h
    omega

theorem Rds.frm0x {w w' : World} {A : Option Addr} {n : Nat} {xs : List Value} (h : Rds w A n xs) (f : Frm (fun _ => False) w w') : Rds w' A n xs := h.frm f (fun _ _ _ h => h)
theorem Blk.frm0a {w w' : World} {g : Nat} {t : TypeId} {cs : Array Value} (h : Blk w g t cs) (f : Frm (fun _ => False) w w') : Blk w' g t cs := h.frm f (fun h => h)
/-- Where the loop of loadRecords stands: k records are read. -/
structure LoadInv (w : World) (g bm gl gr : Nat) (dr : Option Nat) (l : List UInt8) (R : List Rec) (k : Nat) (wr : World) : Prop where
  dir : Dir wr g bm (R.take k)
  rd : Rd wr gr dr (l.drop (14 * k))
  last : Blk wr gl 37 (recC ((R.take k).getLastD default)).toArray
  frm : Frm (fun _ => False) w wr
def LoadPost (l : List UInt8) (R : List Rec) (w : World) (e : Ending) (w' : World) : Prop :=
  ∃ p b, e = .returned (.tuple #[.pointer p, .bool b]) ∧ Frm (fun _ => False) w w' ∧ ((b = true ∧ (l.length % 14 = 0 ∧ DirOk R) ∧ ∃ g bm, p = some ⟨g, 0, none⟩ ∧ Dir w' g bm R ∧ w.heap.size ≤ g ∧ w.heap.size ≤ bm) ∨ (b = false ∧ ¬ (l.length % 14 = 0 ∧ DirOk R) ∧ p = none))
/-- The bytes that a reader has left. -/
def rdLeft (w : World) (g : Nat) : Nat := match w.cell? ⟨g, 0, none⟩ with | some (.slice _ n _) => n | _ => 0
theorem Rd.left {w : World} {g : Nat} {d : Option Nat} {l : List UInt8} (h : Rd w g d l) : rdLeft w g = l.length := by
  obtain ⟨v, hb, A, c, hv, _⟩ := h
  unfold rdLeft
  rw [hb.cell 0, hv]
  simp [cellsB_length]

set_option maxHeartbeats 8000000 in
set_option maxRecDepth 100000 in
theorem loadRecs_any (A : Option Addr) (n c : Nat) (l : List UInt8) (R : List Rec) (w : World) (hr : Rds w A n (cellsB l)) (hn : n ≤ 10000) (hR : R = recsL l (n / 14)) :
    Calls Tryd.prog 41 #[.slice A n c] w (LoadPost l R w) := by
  have hln : l.length = n := by have := hr.1; rwa [cellsB_length] at this
  have HLN := hide hln
  have HRR := hide hr
  have HRL : Hid (R.length = n / 14) := by show _ = _; rw [hR, recsL_length]
  have HRE := hide hR
  clear hr hR hln
  by_cases h14 : n % 14 = 0
  · have h14' : ((n : Int) % 14) = 0 := by omega
    have h14'' : Int.tmod (n : Int) 14 = 0 := by rw [Int.tmod_eq_emod_of_nonneg (by omega)]; exact h14'
    have HNEW := hide (fun w => new_any w)
    go_enter Tryd.func41, Tryd.ntmps41
    have hb14 : ((n : Int) % 14 != 0) = false := by simp [h14']
    go_wp2_with fail
    refine (HNEW.out w).mono ?_
    rintro e w1 ⟨g, bm, rfl, hd1, hf1, hg1, hbm1⟩
    have hgne := hd1.blk.lt
    have hbne := hd1.map.lt
    go_wp2_with ((with_reducible refine wpl_alloca (op := ⟨some 5, _, _, _, _, _⟩) rfl _ rfl _ zeroR ?_); intro gl w2 hB2 hs2 hF2)
    refine (read_any A n c l w2 (HRR.out.frm0x (frm_false_trans hf1 hF2)) (by omega)).mono ?_
    rintro e w3 ⟨gr, dr0, rfl, hr30, hb3, hgr, hdr0⟩
    obtain ⟨dr, hr3, hdn⟩ := rd_norm hr30
    have hF3 : Frm (fun _ => False) w2 w3 := Frm.of_below hb3
    have HORD : Hid (w.heap.size ≤ bm ∧ w.heap.size ≤ g ∧ bm < gl ∧ g < gl ∧ gl < gr) := ⟨hbm1, hg1, by omega, by omega, by have := hB2.lt; omega⟩
    have HDR : Hid (∀ j, dr = some j → gl < j) := fun j hj => by have h1 := hdr0 j (hdn j hj).1; have := hB2.lt; omega
    have hst : LoadInv w g bm gl gr dr l R 0 w3 := ⟨(hd1.frm0 hF2).frm0 hF3, hr3, hB2.frm hF3 (fun h => h), frm_false_trans (frm_false_trans hf1 hF2) hF3⟩
    have HST := hide hst
    have HDJ : Hid (∀ j, dr = some j → j < w3.heap.size) := fun j hj => (hdn j hj).2
    have HGR : Hid (gr < w3.heap.size) := hr3.lt
    clear hd1 hf1 hg1 hbm1 hgne hbne hB2 hs2 hF2 hr30 hb3 hgr hdr0 hr3 hdn hF3 hst HNEW
    obtain ⟨N3, hN3⟩ : ∃ N3, N3 = w3.heap.size := ⟨_, rfl⟩
    rw [← hN3] at HDJ HGR
    have HN3 : Hid (N3 ≤ w3.heap.size) := by rw [hN3]; exact Nat.le_refl _
    clear hN3
    go_wp2_with fail
    go_loopw [7] (fun v wr => ∃ k : Nat, k ≤ n / 14 ∧ N3 ≤ wr.heap.size ∧ LoadInv w g bm gl gr dr l R k wr) (fun _ wr => rdLeft wr gr)
    case atStart => exact ⟨0, by omega, HN3.out, HST.out⟩
    case round =>
      clear HST HN3
      obtain ⟨k, hk, hN, hi⟩ := hrel
      have HI := hide hi
      have hln : (l.drop (14 * k)).length = n - 14 * k := by rw [List.length_drop, HLN.out]
      have HLL := hide hln
      have HLF := hide hi.rd.left
      have hlft := left_any gr dr (l.drop (14 * k)) wr hi.rd (by omega)
      rw [hln] at hlft
      have HLFT := hide hlft
      clear hi hln hlft
      go_wp2_with fail
      refine HLFT.out.mono ?_
      rintro e wr' ⟨rfl, rfl⟩
      clear HLFT
      by_cases hlt : k < n / 14
      · have hpos : (0 : Int) < ((n - 14 * k : Nat) : Int) := by omega
        obtain ⟨x, hx⟩ : ∃ x, x = decR (l.drop (14 * k)) := ⟨_, rfl⟩
        have HRX : Hid (R.getD k default = x) := by show _ = _; rw [HRE.out, recsL_at _ _ _ hlt, hx]
        have HXIN : Hid x.in32 := by show _; rw [hx]; exact decR_in _
        have hrr := readRec_any gr dr (l.drop (14 * k)) wr HI.out.rd (by have := HLL.out; omega) (by have := HLL.out; omega) (fun j hj => by have := HDJ.out j hj; omega)
        rw [← hx] at hrr
        have HRREC := hide hrr
        clear hrr hx
        go_wp2_with fail
        refine HRREC.out.mono ?_
        rintro e w4 ⟨rfl, hr4, hf4⟩
        clear HRREC
        have hz4 := hf4.size
        have hd4 := HI.out.dir.frm hf4 (fun e => by have := HORD.out; omega) (fun e => by have := HORD.out; omega)
        have hl4 := HI.out.last.frm hf4 (fun e => by have := HORD.out; omega)
        have hF4 := frm_join w HI.out.frm hf4 (fun i hi => by have := HORD.out; omega)
        rw [List.drop_drop] at hr4
        go_wp2_with (first
          | ((with_reducible refine wpl_alloca (op := ⟨some 7, _, _, _, _, _⟩) rfl _ rfl _ zeroR ?_); intro g7 w5 hB5 hs5 hF5)
          | ((refine wpl_storea aggR rfl (.tmp 7) (.tmp 19) rfl g7 (recC x) rfl rfl _ _ hB5 rfl rfl (recC_one x) ?_); intro w6 hB6 hF6))
        have hF46 := frm_join w4 hF5 hF6 (fun i hi => by omega)
        have hz46 := hF46.out.size
        have hd6 := hd4.frm0 hF46.out
        have HD6 := hide hd6
        have HL6 := hide (hl4.frm0a hF46.out)
        have HR6 := hide (hr4.frm hF46.out (fun h => h) (fun _ _ h => h))
        have HF6 := hide (frm_false_trans hF4.out hF46.out)
        have HB6 := hide hB6
        have HG7 : Hid (N3 ≤ g7 ∧ gr < g7 ∧ gl < g7 ∧ bm < g7 ∧ ∀ j, dr = some j → j < g7) := ⟨by omega, by have := HGR.out; omega, by have := HORD.out; have := HGR.out; omega, by have := HORD.out; have := HGR.out; omega, fun j hj => by have := HDJ.out j hj; omega⟩
        have HOKT := hide hd6.ok
        have HTS := hide (take_succ_rec R k (by rw [HRL.out]; exact hlt))
        have HGL := hide (getLast_take R k (by rw [HRL.out]; exact hlt))
        have HT1 : Hid (DirOk R → DirOk (R.take k ++ [x])) := fun h => by rw [← HRX.out, ← HTS.out]; exact h.take _
        have hkl : (R.take k).length = k := by rw [List.length_take, HRL.out]; omega
        have hdl := dlen_any g bm (R.take k) w6 hd6
        rw [hkl] at hdl
        have HDLN := hide hdl
        have HKL := hide hkl
        rw [HRX.out] at HTS HGL
        clear hd6 hkl hdl hr4 hf4 hz4 hd4 hl4 hF4 hF5 hF6 hB5 hB6 hs5 hF46 hz46 HI HRX
        go_wp2_with fail
        refine HDLN.out.mono ?_
        rintro e w7 ⟨rfl, rfl⟩
        clear HDLN
        have HN10 : Hid (N3 ≤ w7.heap.size) := by show N3 ≤ _; have := HB6.out.lt; have := HG7.out.1; omega
        obtain ⟨y, hy⟩ : ∃ y, y = (R.take k).getLastD default := ⟨_, rfl⟩
        have HY := hide hy
        rw [← hy] at HL6
        clear hy
        rcases Nat.eq_zero_or_pos k with rfl | hk0
        · have HLT : Hid (R.take 0 = [] ∨ ((R.take 0).getLastD default).lt x) := .inl rfl
          have c70 : w7.cell? ⟨g7, 0, none⟩ = some (.int .u16 (x.a : Int)) := HB6.out.cell 0
          have c71 : w7.cell? ⟨g7, 1, none⟩ = some (.int .u32 (x.f : Int)) := HB6.out.cell 1
          have c72 : w7.cell? ⟨g7, 2, none⟩ = some (.int .u32 (x.t : Int)) := HB6.out.cell 2
          have c73 : w7.cell? ⟨g7, 3, none⟩ = some (.int .u32 (x.l : Int)) := HB6.out.cell 3
          have HD9 := HD6
          have HL9 := HL6
          have HR9 := HR6
          have H79 := HB6
          have HFF := HF6
          clear HD6 HL6 HR6 HB6 HF6
          go_wp2_with fail
          clear c70 c71 c72 c73
          refine (add_any g bm (R.take 0) x w7 HD9.out HXIN.out).mono ?_
          rintro e w10 ⟨rfl, hd10, hf10⟩
          have hF10 : Frm (fun _ => False) w w10 := (frm_join w HFF.out hf10 (fun i hi => by have := HORD.out.1; omega)).out
          rcases Nat.eq_zero_or_pos (whyL (R.take 0) x) with hwy | hwy
          · have hadd : addL (R.take 0) x = R.take (0 + 1) := by rw [step_add HOKT.out HLT.out hwy, HTS.out]
            rw [hadd] at hd10
            rw [hwy]
            have hne10 : ∀ i, i = bm → i ≠ gl ∧ i ≠ gr ∧ i ≠ g7 := fun i hi => by have := HORD.out; have := HG7.out.2.2.2.1; omega
            have hl10 := HL9.out.frm hf10 (fun e => (hne10 _ e).1 rfl)
            have hr10 := HR9.out.frm hf10 (fun e => (hne10 _ e).2.1 rfl) (fun j hj e => by have h1 := HDR.out j hj; have h2 := HORD.out; omega)
            have h710 := H79.out.frm hf10 (fun e => (hne10 _ e).2.2 rfl)
            have HD10 := hide hd10
            have HR10 := hide hr10
            have HF10 := hide hF10
            have HORD2 := HORD.out
            have hz10 := hf10.size
            clear hd10 hr10 hF10 hf10 hne10 hadd hwy HD9 HL9 HR9 H79 HFF
            go_wp2_with (first
              | (with_reducible refine wpl_loada (op := ⟨some 35, _, _, _, _, _⟩) aggR rfl (.tmp 7) rfl g7 0 rfl _ (recC x) (recC x) h710 rfl (by simp [recC]) ?_)
              | ((with_reducible refine wpl_storea aggR rfl (.tmp 5) (.tmp 35) rfl gl (recC x) rfl rfl _ _ hl10 rfl rfl (recC_one x) ?_); intro w11 hB11 hF11))
            have hF011 := frm_join w HF10.out hF11 (fun i hi => by omega)
            have hr11 := HR10.out.frm hF11 (fun e => by omega) (fun j hj e => by have h1 := HDR.out j hj; omega)
            go_frame
            go_roundw
            case rel =>
              exact ⟨0 + 1, by omega, by have := hF11.size; have := HN10.out; omega, ⟨HD10.out.frm hF11 (fun e => by omega) (fun e => by omega), by rw [show 14 * (0 + 1) = 14 * 0 + 14 by omega]; exact hr11, by rw [HGL.out]; exact hB11, hF011.out⟩⟩
            case measure => rw [hr11.left, HLF.out]; simp only [List.length_drop]; have := HLN.out; omega
          · have hwp : ¬ ((whyL (R.take 0) x : Nat) : Int) = 0 := by omega
            have HWY := hide hwy
            obtain ⟨y, hy⟩ : ∃ y, y = whyL (R.take 0) x := ⟨_, rfl⟩
            rw [← hy] at hwp ⊢
            have HY := hide hy
            clear hwy hy hd10 hf10
            have HFF := hide hF10
            go_wp2_with fail
            go_ret2
            exact ⟨none, false, rfl, HFF.out, .inr ⟨rfl, fun h => by have h1 := ((step_iff HOKT.out HXIN.out).1 (HT1.out h.2)).2; have h2 := HWY.out; omega, rfl⟩⟩
        · have hk1 : (0 : Int) < (k : Int) := by omega
          have cl0 : w7.cell? ⟨gl, 0, none⟩ = some (.int .u16 (y.a : Int)) := HL6.out.cell 0
          have cl1 : w7.cell? ⟨gl, 1, none⟩ = some (.int .u32 (y.f : Int)) := HL6.out.cell 1
          have cl2 : w7.cell? ⟨gl, 2, none⟩ = some (.int .u32 (y.t : Int)) := HL6.out.cell 2
          have cl3 : w7.cell? ⟨gl, 3, none⟩ = some (.int .u32 (y.l : Int)) := HL6.out.cell 3
          have c70 : w7.cell? ⟨g7, 0, none⟩ = some (.int .u16 (x.a : Int)) := HB6.out.cell 0
          have c71 : w7.cell? ⟨g7, 1, none⟩ = some (.int .u32 (x.f : Int)) := HB6.out.cell 1
          have c72 : w7.cell? ⟨g7, 2, none⟩ = some (.int .u32 (x.t : Int)) := HB6.out.cell 2
          have c73 : w7.cell? ⟨g7, 3, none⟩ = some (.int .u32 (x.l : Int)) := HB6.out.cell 3
          have hcp := compare_any y x w7
          obtain ⟨q, hq⟩ : ∃ q, q = cmpI y x := ⟨_, rfl⟩
          rw [← hq] at hcp
          have HSG := hide (cmp_sign y x)
          rw [← hq] at HSG
          have HCP := hide hcp
          clear hcp hq
          go_wp2_with fail
          refine HCP.out.mono ?_
          rintro e w8 ⟨rfl, hgr8⟩
          have hf8 := grown_frm hgr8
          have HD9 := hide (HD6.out.frm0 hf8)
          have HL9 := hide (HL6.out.frm0a hf8)
          have HR9 := hide (HR6.out.frm hf8 (fun h => h) (fun _ _ h => h))
          have H79 := hide (HB6.out.frm0a hf8)
          have HFF := hide (frm_false_trans HF6.out hf8)
          have HN11 : Hid (N3 ≤ w8.heap.size) := Nat.le_trans HN10.out hf8.size
          clear HCP HD6 HL6 HR6 HB6 HF6 hgr8 hf8 cl0 cl1 cl2 cl3 c70 c71 c72 c73 HN10
          have HN10 := HN11
          by_cases hyx : y.lt x
          · have hq0 : ¬ (0 : Int) ≤ q := by have := HSG.out.1 hyx; omega
            have HLT : Hid (R.take k = [] ∨ ((R.take k).getLastD default).lt x) := .inr (by rw [← HY.out]; exact hyx)
            have c70 : w8.cell? ⟨g7, 0, none⟩ = some (.int .u16 (x.a : Int)) := H79.out.cell 0
            have c71 : w8.cell? ⟨g7, 1, none⟩ = some (.int .u32 (x.f : Int)) := H79.out.cell 1
            have c72 : w8.cell? ⟨g7, 2, none⟩ = some (.int .u32 (x.t : Int)) := H79.out.cell 2
            have c73 : w8.cell? ⟨g7, 3, none⟩ = some (.int .u32 (x.l : Int)) := H79.out.cell 3
            clear HSG
            go_wp2_with fail
            clear c70 c71 c72 c73
            have hq1 : decide ((0 : Int) ≤ q) = false := decide_eq_false (by omega)
            refine (add_any g bm (R.take k) x w8 HD9.out HXIN.out).mono ?_
            rintro e w10 ⟨rfl, hd10, hf10⟩
            have hF10 : Frm (fun _ => False) w w10 := (frm_join w HFF.out hf10 (fun i hi => by have := HORD.out.1; omega)).out
            rcases Nat.eq_zero_or_pos (whyL (R.take k) x) with hwy | hwy
            · have hadd : addL (R.take k) x = R.take (k + 1) := by rw [step_add HOKT.out HLT.out hwy, HTS.out]
              rw [hadd] at hd10
              rw [hwy]
              have hne10 : ∀ i, i = bm → i ≠ gl ∧ i ≠ gr ∧ i ≠ g7 := fun i hi => by have := HORD.out; have := HG7.out.2.2.2.1; omega
              have hl10 := HL9.out.frm hf10 (fun e => (hne10 _ e).1 rfl)
              have hr10 := HR9.out.frm hf10 (fun e => (hne10 _ e).2.1 rfl) (fun j hj e => by have h1 := HDR.out j hj; have h2 := HORD.out; omega)
              have h710 := H79.out.frm hf10 (fun e => (hne10 _ e).2.2 rfl)
              have HD10 := hide hd10
              have HR10 := hide hr10
              have HF10 := hide hF10
              have HORD2 := HORD.out
              have hz10 := hf10.size
              clear hd10 hr10 hF10 hf10 hne10 hadd hwy HD9 HL9 HR9 H79 HFF
              go_wp2_with (first
                | (with_reducible refine wpl_loada (op := ⟨some 35, _, _, _, _, _⟩) aggR rfl (.tmp 7) rfl g7 0 rfl _ (recC x) (recC x) h710 rfl (by simp [recC]) ?_)
                | ((with_reducible refine wpl_storea aggR rfl (.tmp 5) (.tmp 35) rfl gl (recC x) rfl rfl _ _ hl10 rfl rfl (recC_one x) ?_); intro w11 hB11 hF11))
              have hF011 := frm_join w HF10.out hF11 (fun i hi => by omega)
              have hr11 := HR10.out.frm hF11 (fun e => by omega) (fun j hj e => by have h1 := HDR.out j hj; omega)
              go_frame
              go_roundw
              case rel =>
                exact ⟨k + 1, by omega, by have := hF11.size; have := HN10.out; omega, ⟨HD10.out.frm hF11 (fun e => by omega) (fun e => by omega), by rw [show 14 * (k + 1) = 14 * k + 14 by omega]; exact hr11, by rw [HGL.out]; exact hB11, hF011.out⟩⟩
              case measure => rw [hr11.left, HLF.out]; simp only [List.length_drop]; have := HLN.out; omega
            · have hwp : ¬ ((whyL (R.take k) x : Nat) : Int) = 0 := by omega
              have HWY := hide hwy
              obtain ⟨y, hy⟩ : ∃ y, y = whyL (R.take k) x := ⟨_, rfl⟩
              rw [← hy] at hwp ⊢
              have HY := hide hy
              clear hwy hy hd10 hf10
              have HFF := hide hF10
              go_wp2_with fail
              go_ret2
              exact ⟨none, false, rfl, HFF.out, .inr ⟨rfl, fun h => by have h1 := ((step_iff HOKT.out HXIN.out).1 (HT1.out h.2)).2; have h2 := HWY.out; omega, rfl⟩⟩
          · have hq0 : (0 : Int) ≤ q := HSG.out.2 hyx
            have HNL : Hid (¬ (R.take k = [] ∨ ((R.take k).getLastD default).lt x)) := fun h => by
              rcases h with h | h
              · have := HKL.out; rw [h] at this; simp at this; omega
              · rw [← HY.out] at h; exact hyx h
            clear HSG hyx
            go_wp2_with fail
            go_ret2
            exact ⟨none, false, rfl, HFF.out, .inr ⟨rfl, fun h => HNL.out ((step_iff HOKT.out HXIN.out).1 (HT1.out h.2)).1, rfl⟩⟩
      · obtain rfl : k = n / 14 := by omega
        have hz0 : ((n - 14 * (n / 14) : Nat) : Int) = 0 := by omega
        have hz1 : n - 14 * (n / 14) = 0 := by omega
        rw [hz1]
        have hall : R.take (n / 14) = R := List.take_of_length_le (by rw [HRL.out]; exact Nat.le_refl _)
        have hdd := HI.out.dir
        rw [hall] at hdd
        have HDD := hide hdd
        have HFE := hide HI.out.frm
        clear hall hdd HI
        go_wp2_with fail
        go_ret2
        exact ⟨some ⟨g, 0, none⟩, true, rfl, HFE.out, .inl ⟨rfl, ⟨by rw [HLN.out]; exact h14, HDD.out.ok⟩, g, bm, rfl, HDD.out, HORD.out.2.1, HORD.out.1⟩⟩
  · have h14' : ¬ ((n : Int) % 14) = 0 := by omega
    have h14'' : ¬ Int.tmod (n : Int) 14 = 0 := by rw [Int.tmod_eq_emod_of_nonneg (by omega)]; exact h14'
    have hb14 : ((n : Int) % 14 != 0) = true := by simp [h14']
    go_enter Tryd.func41, Tryd.ntmps41
    go_wp2_with fail
    go_ret2
    exact ⟨none, false, rfl, Frm.refl _ _, .inr ⟨rfl, fun h => h14 (by rw [← HLN.out]; exact h.1), rfl⟩⟩
end Go.Proofs.YtjicnfkodieaaaaDoor
