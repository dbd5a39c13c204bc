/-
  DirectApart: the walk.
-/
import Derived.Test.YtjicnfkodieaaaaDoorDsT
namespace Go.Proofs.YtjicnfkodieaaaaDoor
set_option linter.unusedVariables false
set_option linter.unusedSimpArgs false
open Go.RowKit

/-- Where the first loop stands. -/
structure ApInv (w : World) (g bm g2 bm2 ad : Nat) (L : List Rec) (k : Nat) (wr : World) : Prop where
  one : Liv w wr g bm (foldL (L.take k))
  two : Liv w wr g2 bm2 (ofNode ad (foldL (L.take k)))

set_option maxHeartbeats 8000000 in
set_option maxRecDepth 100000 in
theorem apart_walk (A0 : Option Addr) (n0 c0 : Nat) (L : List Rec) (ad : Nat) (A2 : Option Addr) (n2 c2 : Nat) (es : List Nat) (w : World) (hG : Gl w) (hg0 : 2 ≤ w.heap.size)
    (hL : RRow w A0 n0 L) (hc0 : n0 ≤ c0) (hm0 : c0 ≤ 9223372036854775807) (had : ad < 65536) (hE : Rds w A2 n2 (cellsW es)) (hEb : ∀ n ∈ es, n < 4294967296) (hc2 : n2 ≤ c2) (hm2 : c2 ≤ 9223372036854775807) :
    Calls Tryd.prog 8 #[.slice A0 n0 c0, .int .u16 (ad : Int), .slice A2 n2 c2] w fun e w' => e = .returned (.bool true) ∧ Below w.heap.size w w' := by
  have HL := hide hL
  have HE := hide hE
  have HR0 := hide (run_start w hG hg0)
  have HLN : Hid (L.length = n0) := hL.1
  clear hL hE hG hEb
  go_enter Tryd.func8, Tryd.ntmps8
  go_wp2_with fail
  refine (shown9 w _ HR0.out).mono ?_
  rintro e w1 ⟨rfl, f1⟩
  have HR1 := hide (HR0.out.frm0 f1)
  clear f1 HR0
  go_wp2_with fail
  refine (lnew w w1 HR1.out).mono ?_
  rintro e w2 ⟨g, bm, rfl, h2, f2, hg2, hb2⟩
  have hlt2 := h2.lt
  have H2 := hide h2
  clear h2 f2 HR1
  go_wp2_with fail
  refine (lnew w w2 H2.out.run).mono ?_
  rintro e w3 ⟨g', bm', rfl, h3, f3, hg3, hb3⟩
  have HNE : Hid (bm < g' ∧ bm < bm' ∧ g < bm' ∧ g < g' ∧ g ≠ bm) := ⟨by omega, by omega, by omega, by omega, hlt2.2.2⟩
  have HST : Hid (ApInv w g bm g' bm' ad L 0 w3) := ⟨H2.out.frm0 f3, h3⟩
  clear h3 f3 H2 hlt2 hg2 hb2 hg3 hb3
  go_wp2_with fail
  go_loopw [10] (fun i wr => ∃ k : Nat, k ≤ n0 ∧ k ≤ 50 ∧ i = .int .i64 k ∧ ApInv w g bm g' bm' ad L k wr) (fun i _ => 50 - (intOf i).toNat)
  case atStart => exact ⟨0, by omega, by omega, rfl, HST.out⟩
  case round =>
    clear HST
    obtain ⟨k, hk, hk5, rfl, hi⟩ := hrel
    have HI := hide hi
    clear hi
    by_cases hlt : k < n0
    · have hlt' : (k : Int) < (n0 : Int) := by omega
      by_cases h50 : k < 50
      · have h50' : (k : Int) < 50 := by omega
        obtain ⟨p, rfl, hat⟩ := HL.out.at (by omega)
        obtain ⟨x, hx⟩ : ∃ x, x = L.getD k default := ⟨_, rfl⟩
        have HX := hide hx
        have HXI : Hid x.in32 := by show _; rw [hx]; exact HL.out.in k hlt
        have hxc := hat wr HI.out.one.run.below k hlt
        have hat' : ∀ w', Below w.heap.size w w' → ∀ q u, (recC x)[q]? = some u → w'.cell? ((p.add (k * 4)).add q) = some u := fun w' f q u hq => hat w' f k hlt q u (by rw [← hx]; exact hq)
        rw [← hx] at hxc
        have HAT := hide hat'
        clear hx hat hat'
        go_wp2_with (with_reducible refine wpl_loadr (op := ⟨some 40, _, _, _, _, _⟩) rfl (.tmp 39) rfl (p.add (k * 4)) rfl x hxc ?_)
        refine (ladd HI.out.one x HXI.out).mono ?_
        rintro e w4 ⟨rfl, h4, f4⟩
        have HDL : Hid ((foldL (L.take k)).length < 64) := by show _ < _; have := foldL_length L k; omega
        have HS : Hid (foldL (L.take (k + 1)) = addL (foldL (L.take k)) x) := by show _ = _; rw [foldL_succ L k (by rw [HLN.out]; exact hlt), HX.out]
        have HOK := hide HI.out.one.dir.ok
        have htwo := HI.out.two.frm f4 (fun e => by have := HNE.out; omega) (fun e => by have := HNE.out; omega) (fun i hi => by rw [hi]; exact h4.low.2)
        have H4 := hide h4
        have HT4 := hide htwo
        have hc4 := HAT.out w4 h4.run.below
        have q0 : w4.cell? (p.add (k * 4)) = some (.int .u16 (x.a : Int)) := by have := hc4 0 _ rfl; rwa [addr_add0] at this
        have q1 : w4.cell? ⟨(p.add (k * 4)).block, (p.add (k * 4)).off + 1, none⟩ = some (.int .u32 (x.f : Int)) := by have := hc4 1 _ rfl; rwa [add_q _ 1 (by decide)] at this
        have q2 : w4.cell? ⟨(p.add (k * 4)).block, (p.add (k * 4)).off + 2, none⟩ = some (.int .u32 (x.t : Int)) := by have := hc4 2 _ rfl; rwa [add_q _ 2 (by decide)] at this
        have q3 : w4.cell? ⟨(p.add (k * 4)).block, (p.add (k * 4)).off + 3, none⟩ = some (.int .u32 (x.l : Int)) := by have := hc4 3 _ rfl; rwa [add_q _ 3 (by decide)] at this
        obtain ⟨D, hD⟩ : ∃ D, D = foldL (L.take k) := ⟨_, rfl⟩
        rw [← hD] at HDL HS HOK HT4 H4 ⊢
        obtain ⟨y, hy⟩ : ∃ y, y = whyL D x := ⟨_, rfl⟩
        rw [← hy]
        have HY := hide hy
        have HNA := hide (node_add HOK.out HXI.out HDL.out ad)
        clear hc4 htwo h4 f4 hxc hD hy HI
        by_cases ha : x.a = ad
        · subst ha
          have hwn : whyL (ofNode x.a D) x = y := by rw [why_node HDL.out, HY.out]
          have HADD := hide (ladd_is HT4.out x HXI.out y (addL (ofNode x.a D) x) hwn rfl)
          clear hwn
          go_wp2_with fail
          refine HADD.out.mono ?_
          rintro e w5 ⟨rfl, h5, f5⟩
          have H5 := hide (H4.out.frm f5 (fun e => by have := HNE.out; omega) (fun e => by have := HNE.out; omega) (fun i hi => by rw [hi]; exact h5.low.2))
          have HT5 := hide h5
          clear h5 f5 HADD H4 HT4 q0 q1 q2 q3
          go_wp2_with fail
          go_roundw
          case rel => exact ⟨k + 1, by omega, by omega, by go_num, ⟨by rw [HS.out]; exact H5.out, by rw [HS.out, HNA.out, if_pos trivial]; exact HT5.out⟩⟩
          case measure => simp [intOf]; omega
        · have ha' : ((x.a : Int) == (ad : Int)) = false := by simp; omega
          have ha2 : ¬ (x.a : Int) = (ad : Int) := by omega
          go_wp2_with fail
          go_roundw
          case rel => exact ⟨k + 1, by omega, by omega, by go_num, ⟨by rw [HS.out]; exact H4.out, by rw [HS.out, HNA.out, if_neg ha]; exact HT4.out⟩⟩
          case measure => simp [intOf]; omega
      · obtain rfl : k = 50 := by omega
        obtain ⟨D, hD⟩ : ∃ D, D = foldL (L.take 50) := ⟨_, rfl⟩
        have H4 := hide HI.out.one
        have HT4 := hide HI.out.two
        rw [← hD] at H4 HT4
        clear hD HI
        go_wp2_with fail
        have HB0 := hide (show Liv w wr g bm D ∧ Liv w wr g' bm' (ofNode ad D) from ⟨H4.out, HT4.out⟩)
        clear H4 HT4
        go_loopw [12] (fun i wr => ∃ j : Nat, j ≤ n2 ∧ j ≤ 30 ∧ i = .int .i64 j ∧ Liv w wr g bm D ∧ Liv w wr g' bm' (ofNode ad D)) (fun i _ => 30 - (intOf i).toNat)
        case atStart => exact ⟨0, by omega, by omega, rfl, HB0.out⟩
        case round =>
          clear HB0
          obtain ⟨j, hj, hj3, rfl, hi1, hi2⟩ := hrel
          have H5 := hide hi1
          have HT5 := hide hi2
          clear hi1 hi2
          by_cases hlt2 : j < n2
          · have hlt2' : (j : Int) < (n2 : Int) := by omega
            by_cases h30 : j < 30
            · have h30' : (j : Int) < 30 := by omega
              obtain ⟨p2, rfl, hc2'⟩ := HE.out.2 (by omega)
              have hel : es.length = n2 := by have := HE.out.1; rwa [cellsW_length] at this
              obtain ⟨v, hv⟩ : ∃ v, v = es.getD j 0 := ⟨_, rfl⟩
              have hcv : ∀ w', Below w.heap.size w w' → w'.cell? (p2.add j) = some (.int .u32 (v : Int)) := fun w' f => by
                have h1 := hc2' j _ (cellsW_at es j (by omega))
                rw [f.cell (World.block_lt_of_cell? w _ h1), h1, hv]
              have HCV := hide hcv
              have cv := hcv _ H5.out.run.below
              obtain ⟨r, hr⟩ : ∃ r, r = foundR D ad v := ⟨_, rfl⟩
              obtain ⟨b, hb⟩ : ∃ b, b = foundB D ad v := ⟨_, rfl⟩
              have HF1 := hide (lfind_is H5.out ad v r b hr.symm hb.symm)
              have hn1 := found_node D ad v
              have HFN : Hid (foundR (ofNode ad D) ad v = r ∧ foundB (ofNode ad D) ad v = b) := ⟨by rw [hn1.1, hr], by rw [hn1.2, hb]⟩
              clear hcv hv hr hb hn1 hel hc2'
              go_wp2_with fail
              refine HF1.out.mono ?_
              rintro e w6 ⟨rfl, h6, f6⟩
              have hz6 := f6.size
              have H6 := hide h6
              have HT6 := hide (HT5.out.frm0 f6)
              clear h6 f6 HF1 H5 HT5 cv
              go_wp2_with (first
                | ((with_reducible refine wpl_alloca (op := ⟨some 13, _, _, _, _, _⟩) rfl _ rfl _ zeroR ?_); intro g13 w7 hB7 hs7 hF7)
                | ((refine wpl_storea aggR rfl (.tmp 13) (.tmp 77) rfl g13 (recC r) rfl rfl _ _ hB7 rfl rfl (recC_one r) ?_); intro w8 hB8 hF8; have hF68 := frm_join w6 hF7 hF8 (fun i hi => by omega); have H8 := hide (H6.out.frm0 hF68.out); have HT8 := hide (HT6.out.frm0 hF68.out); have HB8 := hide hB8; have cv := HCV.out w8 H8.out.run.below; clear hB7 hB8 hF7 hF8 hF68 hs7 H6 HT6))
              refine (lfind_is HT8.out ad v r b HFN.out.1 HFN.out.2).mono ?_
              rintro e w9 ⟨rfl, h9, f9⟩
              have H9 := hide (H8.out.frm0 f9)
              have HT9 := hide h9
              have HB9 := hide (HB8.out.frm0a f9)
              clear h9 f9 H8 HT8 HB8 cv
              go_wp2_with (first
                | ((with_reducible refine wpl_alloca (op := ⟨some 15, _, _, _, _, _⟩) rfl _ rfl _ zeroR ?_); intro g15 w10 hB10 hs10 hF10)
                | ((refine wpl_storea aggR rfl (.tmp 15) (.tmp 87) rfl g15 (recC r) rfl rfl _ _ hB10 rfl rfl (recC_one r) ?_); intro w11 hB11 hF11; have hF911 := frm_join w9 hF10 hF11 (fun i hi => by omega); have H11 := hide (H9.out.frm0 hF911.out); have HT11 := hide (HT9.out.frm0 hF911.out); have hB13 := blk_lit (HB9.out.frm0a hF911.out); have hB15 := blk_lit hB11; clear hB11 hB10 hF10 hF11 hF911 hs10 H9 HT9 HB9)
                | (with_reducible refine wpl_loada (op := ⟨some 89, _, _, _, _, _⟩) aggR rfl (.tmp 13) rfl g13 0 rfl _ [.int .u16 (r.a : Int), .int .u32 (r.f : Int), .int .u32 (r.t : Int), .int .u32 (r.l : Int)] [.int .u16 (r.a : Int), .int .u32 (r.f : Int), .int .u32 (r.t : Int), .int .u32 (r.l : Int)] hB13 (take4 _ _ _ _) (len4 _ _ _ _) ?_)
                | (with_reducible refine wpl_loada (op := ⟨some 90, _, _, _, _, _⟩) aggR rfl (.tmp 15) rfl g15 0 rfl _ [.int .u16 (r.a : Int), .int .u32 (r.f : Int), .int .u32 (r.t : Int), .int .u32 (r.l : Int)] [.int .u16 (r.a : Int), .int .u32 (r.f : Int), .int .u32 (r.t : Int), .int .u32 (r.l : Int)] hB15 (take4 _ _ _ _) (len4 _ _ _ _) ?_))
              go_roundw
              case rel => exact ⟨j + 1, by omega, by omega, by go_num, H11.out, HT11.out⟩
              case measure => simp [intOf]; omega
            · obtain rfl : j = 30 := by omega
              have HBEL := hide H5.out.run.below
              clear H5 HT5
              go_wp2_with fail
              go_ret
              exact ⟨rfl, HBEL.out⟩
          · obtain rfl : j = n2 := by omega
            have hlt2' : ¬ (j : Int) < (j : Int) := by omega
            have HBEL := hide H5.out.run.below
            clear H5 HT5
            go_wp2_with fail
            go_ret
            exact ⟨rfl, HBEL.out⟩
    · obtain rfl : k = n0 := by omega
      have hlt' : ¬ (k : Int) < (k : Int) := by omega
      obtain ⟨D, hD⟩ : ∃ D, D = foldL (L.take k) := ⟨_, rfl⟩
      have H4 := hide HI.out.one
      have HT4 := hide HI.out.two
      rw [← hD] at H4 HT4
      clear hD HI
      go_wp2_with fail
      have HB0 := hide (show Liv w wr g bm D ∧ Liv w wr g' bm' (ofNode ad D) from ⟨H4.out, HT4.out⟩)
      clear H4 HT4
      go_loopw [12] (fun i wr => ∃ j : Nat, j ≤ n2 ∧ j ≤ 30 ∧ i = .int .i64 j ∧ Liv w wr g bm D ∧ Liv w wr g' bm' (ofNode ad D)) (fun i _ => 30 - (intOf i).toNat)
      case atStart => exact ⟨0, by omega, by omega, rfl, HB0.out⟩
      case round =>
        clear HB0
        obtain ⟨j, hj, hj3, rfl, hi1, hi2⟩ := hrel
        have H5 := hide hi1
        have HT5 := hide hi2
        clear hi1 hi2
        by_cases hlt2 : j < n2
        · have hlt2' : (j : Int) < (n2 : Int) := by omega
          by_cases h30 : j < 30
          · have h30' : (j : Int) < 30 := by omega
            obtain ⟨p2, rfl, hc2'⟩ := HE.out.2 (by omega)
            have hel : es.length = n2 := by have := HE.out.1; rwa [cellsW_length] at this
            obtain ⟨v, hv⟩ : ∃ v, v = es.getD j 0 := ⟨_, rfl⟩
            have hcv : ∀ w', Below w.heap.size w w' → w'.cell? (p2.add j) = some (.int .u32 (v : Int)) := fun w' f => by
              have h1 := hc2' j _ (cellsW_at es j (by omega))
              rw [f.cell (World.block_lt_of_cell? w _ h1), h1, hv]
            have HCV := hide hcv
            have cv := hcv _ H5.out.run.below
            obtain ⟨r, hr⟩ : ∃ r, r = foundR D ad v := ⟨_, rfl⟩
            obtain ⟨b, hb⟩ : ∃ b, b = foundB D ad v := ⟨_, rfl⟩
            have HF1 := hide (lfind_is H5.out ad v r b hr.symm hb.symm)
            have hn1 := found_node D ad v
            have HFN : Hid (foundR (ofNode ad D) ad v = r ∧ foundB (ofNode ad D) ad v = b) := ⟨by rw [hn1.1, hr], by rw [hn1.2, hb]⟩
            clear hcv hv hr hb hn1 hel hc2'
            go_wp2_with fail
            refine HF1.out.mono ?_
            rintro e w6 ⟨rfl, h6, f6⟩
            have hz6 := f6.size
            have H6 := hide h6
            have HT6 := hide (HT5.out.frm0 f6)
            clear h6 f6 HF1 H5 HT5 cv
            go_wp2_with (first
              | ((with_reducible refine wpl_alloca (op := ⟨some 13, _, _, _, _, _⟩) rfl _ rfl _ zeroR ?_); intro g13 w7 hB7 hs7 hF7)
              | ((refine wpl_storea aggR rfl (.tmp 13) (.tmp 77) rfl g13 (recC r) rfl rfl _ _ hB7 rfl rfl (recC_one r) ?_); intro w8 hB8 hF8; have hF68 := frm_join w6 hF7 hF8 (fun i hi => by omega); have H8 := hide (H6.out.frm0 hF68.out); have HT8 := hide (HT6.out.frm0 hF68.out); have HB8 := hide hB8; have cv := HCV.out w8 H8.out.run.below; clear hB7 hB8 hF7 hF8 hF68 hs7 H6 HT6))
            refine (lfind_is HT8.out ad v r b HFN.out.1 HFN.out.2).mono ?_
            rintro e w9 ⟨rfl, h9, f9⟩
            have H9 := hide (H8.out.frm0 f9)
            have HT9 := hide h9
            have HB9 := hide (HB8.out.frm0a f9)
            clear h9 f9 H8 HT8 HB8 cv
            go_wp2_with (first
              | ((with_reducible refine wpl_alloca (op := ⟨some 15, _, _, _, _, _⟩) rfl _ rfl _ zeroR ?_); intro g15 w10 hB10 hs10 hF10)
              | ((refine wpl_storea aggR rfl (.tmp 15) (.tmp 87) rfl g15 (recC r) rfl rfl _ _ hB10 rfl rfl (recC_one r) ?_); intro w11 hB11 hF11; have hF911 := frm_join w9 hF10 hF11 (fun i hi => by omega); have H11 := hide (H9.out.frm0 hF911.out); have HT11 := hide (HT9.out.frm0 hF911.out); have hB13 := blk_lit (HB9.out.frm0a hF911.out); have hB15 := blk_lit hB11; clear hB11 hB10 hF10 hF11 hF911 hs10 H9 HT9 HB9)
              | (with_reducible refine wpl_loada (op := ⟨some 89, _, _, _, _, _⟩) aggR rfl (.tmp 13) rfl g13 0 rfl _ [.int .u16 (r.a : Int), .int .u32 (r.f : Int), .int .u32 (r.t : Int), .int .u32 (r.l : Int)] [.int .u16 (r.a : Int), .int .u32 (r.f : Int), .int .u32 (r.t : Int), .int .u32 (r.l : Int)] hB13 (take4 _ _ _ _) (len4 _ _ _ _) ?_)
              | (with_reducible refine wpl_loada (op := ⟨some 90, _, _, _, _, _⟩) aggR rfl (.tmp 15) rfl g15 0 rfl _ [.int .u16 (r.a : Int), .int .u32 (r.f : Int), .int .u32 (r.t : Int), .int .u32 (r.l : Int)] [.int .u16 (r.a : Int), .int .u32 (r.f : Int), .int .u32 (r.t : Int), .int .u32 (r.l : Int)] hB15 (take4 _ _ _ _) (len4 _ _ _ _) ?_))
            go_roundw
            case rel => exact ⟨j + 1, by omega, by omega, by go_num, H11.out, HT11.out⟩
            case measure => simp [intOf]; omega
          · obtain rfl : j = 30 := by omega
            have HBEL := hide H5.out.run.below
            clear H5 HT5
            go_wp2_with fail
            go_ret
            exact ⟨rfl, HBEL.out⟩
        · obtain rfl : j = n2 := by omega
          have hlt2' : ¬ (j : Int) < (j : Int) := by omega
          have HBEL := hide H5.out.run.below
          clear H5 HT5
          go_wp2_with fail
          go_ret
          exact ⟨rfl, HBEL.out⟩
end Go.Proofs.YtjicnfkodieaaaaDoor
