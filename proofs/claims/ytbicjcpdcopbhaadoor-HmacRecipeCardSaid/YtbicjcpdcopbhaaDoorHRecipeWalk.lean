/-
  HmacRecipe, walked.
-/
import Derived.Test.YtbicjcpdcopbhaaDoorCuts
namespace Go.Proofs.YtbicjcpdcopbhaaDoor
set_option linter.unusedVariables false
set_option linter.unusedSimpArgs false
open Go.RowKit

theorem mac_long (x m : List UInt8) : macL (keyL x) m = macL x m := by
  have h : keyL (keyL x) = keyL x := by
    have := keyL_le x
    generalize keyL x = k at *
    unfold keyL
    rw [if_neg (by omega)]
  rw [macL, macL, padK, padK, h]
structure RecInv (w : World) (g8 g9 : Nat) (one two : List UInt8) (wr : World) : Prop where
  one : Blk wr g8 5 (cellsB one).toArray
  two : Blk wr g9 5 (cellsB two).toArray
  run : Run w wr
theorem mixx_get (c : UInt8) (l : List UInt8) (k : Nat) (hl : l.length = 64) (hk : k < 64) : (cellsB (mix (xorL c l) l k))[k]? = some (.int .u8 ((l.getD k 0).toNat : Int)) := by
  rw [cellsB_get, mix_at _ _ _ (xorL_length c l) (by omega), ← cellsB_get, getD_byte _ _ (by omega)]
theorem mixx_set (c : UInt8) (l : List UInt8) (k : Nat) (hl : l.length = 64) (hk : k < 64) : (cellsB (mix (xorL c l) l k)).set k (.int .u8 ((l.getD k 0 ^^^ c).toNat : Int)) = cellsB (mix (xorL c l) l (k + 1)) := by
  rw [cellsB_set, mix_set (xorL c l) l k (l.getD k 0 ^^^ c) (xorL_length c l) (by omega) (by
        rw [xorL, List.getElem?_map, List.getD_eq_getElem?_getD, List.getElem?_eq_getElem (by omega)]; rfl)]

set_option maxHeartbeats 16000000 in
set_option maxRecDepth 100000 in
theorem hrecipe_walk (a0 : Option Addr) (len0 cap0 : Nat) (l0 : List UInt8) (a1 : Option Addr) (len1 cap1 : Nat) (l1 : List UInt8) (w : World) (hG : Gl w) (hg0 : 2 ≤ w.heap.size) (h0 : Rds w a0 len0 (cellsB l0)) (hl0 : len0 ≤ cap0) (hm0 : cap0 ≤ 9223372036854775807) (h1 : Rds w a1 len1 (cellsB l1)) (hl1 : len1 ≤ cap1) (hm1 : cap1 ≤ 9223372036854775807) :
    Calls Tryd.prog 11 #[.slice a0 len0 cap0, .slice a1 len1 cap1] w fun e w' => e = .returned (.bool true) ∧ Below w.heap.size w w' := by
  obtain ⟨m0, HM0, ml0, mr0, me0⟩ := nat_min len0 200
  clear me0
  have HR0 := hide (h0.take m0 ml0)
  rw [cellsB_take] at HR0
  have HX0 : Hid ((l0.take m0).length = m0) := by have := HR0.out.1; rwa [cellsB_length] at this
  generalize l0.take m0 = x0 at *
  have hy0 : x0.length ≤ 200 := by rw [HX0.out]; exact mr0
  have hc0 : m0 ≤ cap0 := by omega
  clear h0
  obtain ⟨m1, HM1, ml1, mr1, me1⟩ := nat_min len1 500
  clear me1
  have HR1 := hide (h1.take m1 ml1)
  rw [cellsB_take] at HR1
  have HX1 : Hid ((l1.take m1).length = m1) := by have := HR1.out.1; rwa [cellsB_length] at this
  generalize l1.take m1 = x1 at *
  have hy1 : x1.length ≤ 500 := by rw [HX1.out]; exact mr1
  have hc1 : m1 ≤ cap1 := by omega
  clear h1
  go_enter Tryd.func11, Tryd.ntmps11
  go_wp2_with fail
  refine (hshown_run w hG hg0).mono ?_
  rintro e w1 ⟨rfl, hR⟩
  have hsw1 := hR.size
  have hov := World.ownsRow_made (e := 5) (size := 1) (base := w1.heap.size) w1 #[] 0 (Nat.le_refl _) (by simp [maxLen]) (by simp)
  have hFa : Frm (fun _ => False) w1 (w1.alloc (.cells #[] 5)) := Frm.alloc _ _ _
  have HRW := hide ((HR0.out.below hR.below).frm hFa (fun _ _ _ h => h))
  have hb1 : (0 + m0) * 1 ≤ 140737488355328 := by omega
  have hb2 : 0 + m0 ≤ 140737488355328 := by omega
  by_cases h64 : 64 < m0
  · have h64' : (64 : Int) < (m0 : Int) := by omega
    go_wp2_with (first
      | (refine wpl_min rfl (.tmp 15) (.const (.int .i64 200)) _ _ rfl _ (len0 : Int) 200 (m0 : Int) rfl rfl HM0.out ?_)
      | (refine wpl_min rfl (.tmp 20) (.const (.int .i64 500)) _ _ rfl _ (len1 : Int) 500 (m1 : Int) rfl rfl HM1.out ?_)
      | (refine wpl_app one_u8 rfl (.tmp 23) (.tmp 24) rfl _ w1.heap.size (.slice (some ⟨w1.heap.size, 0, none⟩) 0 0) 0 _ rfl hov a0 m0 cap0 (cellsB x0) rfl HRW.out (cellsB_one _) hb1 hb2 hFa.size ?_; intro A3 c3 w3 hown3 hg3 hat3; rw [Nat.zero_add]))
    have F13 : Frm (fun k => k = w1.heap.size) w1 w3 := (hFa.mono (T := fun k => k = w1.heap.size) (fun _ _ h => h.elim)).trans (Frm.of_grown hg3) (fun j _ h => (by simpa [Value.ownBlock] using h : j = w1.heap.size))
    have hR3 := hR.frm F13 (fun k hk => by omega)
    rw [Nat.zero_add, List.nil_append] at hown3
    have hp3 : Prt w3 (.slice A3 m0 c3) x0 := prt_own (B := w1.heap.size) (by rw [HX0.out]; exact hown3)
    refine (sums_run w w3 [.slice A3 m0 c3] [x0] x0 (.cons hp3 .nil) (by simp) hR3 (by omega) (by simp)).mono ?_
    rintro e w4 ⟨rfl, F4, R4⟩
    clear hov hFa HRW hown3 hg3 hat3 F13 hR3 hp3 F4 hR hb1 hb2
    have HKx : Hid (keyL x0 = shaL x0) := by show _ = _; unfold keyL; rw [if_pos (by rw [HX0.out]; exact h64)]
    have HKl := hide (shaL_length x0)
    have HKC := hide (shaC_length x0)
    have HML2 : Hid (macL (shaL x0) x1 = macL x0 x1) := by show _ = _; rw [← HKx.out]; exact mac_long x0 x1
    obtain ⟨kx, hkx⟩ : ∃ kx, kx = shaL x0 := ⟨_, rfl⟩
    rw [← hkx] at HKx HKl HKC HML2 ⊢
    clear hkx
    have hsl32 := sl32
    have hb1 : (0 + 32) * 1 ≤ 140737488355328 := by omega
    have hb2 : 0 + 32 ≤ 140737488355328 := by omega
    go_wp2_with (first
      | ((with_reducible refine wpl_alloca (op := ⟨some 7, _, _, _, _, _⟩) rfl _ rfl _ zero32 ?_); intro g7 w5 hB5 hs5 hF5)
      | ((with_reducible refine wpl_storea agg32 rfl (.tmp 7) (.tmp 31) rfl g7 (cellsB kx) rfl rfl _ _ hB5 HKC.out zero32_size (cellsB_one _) ?_); intro w6 hB6 hF6; have hov := World.ownsRow_made (e := 5) (size := 1) (base := w6.heap.size) w6 #[] 0 (Nat.le_refl _) (by simp [maxLen]) (by simp); have hFa : Frm (fun _ => False) w6 (w6.alloc (.cells #[] 5)) := Frm.alloc _ _ _; have rr := (hB6.frm hFa (fun h => h)).rds; rw [HKC.out] at rr)
      | (refine wpl_app one_u8 rfl (.tmp 32) (.tmp 33) rfl _ w6.heap.size (.slice (some ⟨w6.heap.size, 0, none⟩) 0 0) 0 _ rfl hov (some ⟨g7, 0, none⟩) 32 32 (cellsB kx) rfl rr (cellsB_one _) hb1 hb2 hFa.size ?_; intro A8 c8 w8 hown8 hg8 hat8; rw [Nat.zero_add]))
    have hg7 : w.heap.size ≤ g7 := by have := R4.size; omega
    have R6 := (R4.frm hF5 (fun _ h => h.elim)).frm hF6 (fun k hk => by omega)
    have F68 : Frm (fun k => k = w6.heap.size) w6 w8 := (hFa.mono (T := fun k => k = w6.heap.size) (fun _ _ h => h.elim)).trans (Frm.of_grown hg8) (fun j _ h => (by simpa [Value.ownBlock] using h : j = w6.heap.size))
    have R8 := R6.frm F68 (fun k hk => by have := R6.size; omega)
    rw [Nat.zero_add, List.nil_append] at hown8
    have hc8 : 32 ≤ c8 := by
      rcases hown8.2 with ⟨_, h0⟩ | ⟨_, _, _, hv, _, _, hnc, _⟩
      · omega
      · injection hv with _ _ h3; omega
    have rd8 := (Seg.of_own hown8).rds
    clear hB5 hF5 hB6 hF6 hov hFa rr hb1 hb2 hown8 hg8 hat8 F68 R4 R6
    refine (mac_row w w8 A8 32 c8 kx [.slice a1 m1 cap1] [x1] x1 rd8 hc8 (by omega) (.cons (prt_old HR1.out HX1.out hc1 R8.below) .nil) (by simp) R8 (by omega) (by simp)).mono ?_
    rintro e w9 ⟨rfl, F9, R9⟩
    rw [HML2.out]
    have rd9 := rd8.frm F9 (fun _ _ _ h => h)
    clear rd8 R8 F9
    go_wp2_with fail
    refine (mac_row w w9 a0 m0 cap0 x0 [.slice a1 m1 cap1] [x1] x1 (HR0.out.below R9.below) hc0 (by omega) (.cons (prt_old HR1.out HX1.out hc1 R9.below) .nil) (by simp) R9 (by omega) (by simp)).mono ?_
    rintro e w10 ⟨rfl, F10, R10⟩
    have HRO := hide (rd9.frm F10 (fun _ _ _ h => h))
    have HLT : Hid (0 < 32 → ∀ a, A8 = some a → a.block < w10.heap.size) := fun _ a ha => by
      obtain ⟨a', ha', hcc⟩ := HRO.out.2 (by omega)
      rw [ha] at ha'
      injection ha' with ha'
      subst ha'
      have h0 : (cellsB kx)[0]? = some _ := List.getElem?_eq_getElem (by rw [HRO.out.1]; omega)
      have := World.block_lt_of_cell? w10 _ (hcc 0 _ h0)
      rwa [add_block] at this
    have HMN : Hid (32 = Nat.min 32 64) := rfl
    have q0 := eq_same (macL x0 x1) (macL_length _ _)
    have hgd := guard32
    clear rd9 F10 R9
    have HSP : Hid (splice (cellsB (List.replicate 64 0)) 0 (cellsB (kx.take 32)) = cellsB (padK x0)) := by
      show _ = _
      have := pad_splice kx (by rw [HKl.out]; omega)
      rw [HKl.out] at this
      rw [this, padK, HKx.out, HKl.out]
    have HPL := hide (padK_length x0)
    obtain ⟨pk, hpk⟩ : ∃ pk, pk = padK x0 := ⟨_, rfl⟩
    have HMD : Hid (macL x0 x1 = shaL (xorL 92 pk ++ shaL (xorL 54 pk ++ x1))) := by show _ = _; rw [hpk]; rfl
    rw [← hpk] at HSP HPL
    clear hpk
    go_wp2_with (first
      | ((with_reducible refine wpl_make8 (op := ⟨some 44, _, _, _, _, _⟩) rfl _ rfl .i64 64 64 rfl rfl (by omega) ?_); intro g8 w11 hB11 hs11 hF11)
      | ((with_reducible refine wpl_make8 (op := ⟨some 45, _, _, _, _, _⟩) rfl _ rfl .i64 64 64 rfl rfl (by omega) ?_); intro g9 w12 hB12 hs12 hF12; have rr := (HRO.out.frm hF11 (fun _ _ _ h => h)).frm hF12 (fun _ _ _ h => h); have B8 := hB11.frm hF12 (fun h => h); have hn89 : g8 ≠ g9 := (by have := hB11.lt; omega))
      | ((with_reducible refine wpl_copyR rfl (.tmp 46) (.tmp 47) rfl g8 0 64 64 A8 32 c8 32 rfl rfl (cellsB (List.replicate 64 0)) _ B8 kx rr HMN.out (by decide) ?_); intro w13 B13 F13; rw [HSP.out] at B13; have rr2 := rr.frm F13 (fun hp a ha => by have := HLT.out hp a ha; omega); have B9 := hB12.frm F13 (fun h => hn89 h.symm))
      | ((with_reducible refine wpl_copyR rfl (.tmp 49) (.tmp 50) rfl g9 0 64 64 A8 32 c8 32 rfl rfl (cellsB (List.replicate 64 0)) _ B9 kx rr2 HMN.out (by decide) ?_); intro w14 B14 F14; rw [HSP.out] at B14))
    have hg8 : w.heap.size ≤ g8 := by have := R10.size; omega
    have hg9 : w.heap.size ≤ g9 := by have := R10.size; have := hF11.size; omega
    have HI : Hid (RecInv w g8 g9 (mix (xorL 54 pk) pk 0) (mix (xorL 92 pk) pk 0) w14) := by
      rw [Hid, mix_zero, mix_zero]
      exact ⟨B13.frm F14 hn89, B14, (((R10.frm hF11 (fun _ h => h.elim)).frm hF12 (fun _ h => h.elim)).frm F13 (fun k hk => by omega)).frm F14 (fun k hk => by omega)⟩
    clear hB11 hF11 hB12 hF12 rr B8 B13 F13 rr2 B9 B14 F14 HSP HRO HLT HMN R10
    go_loopw [10] (fun i wr => ∃ k : Nat, k ≤ 64 ∧ i = .int .i64 k ∧ RecInv w g8 g9 (mix (xorL 54 pk) pk k) (mix (xorL 92 pk) pk k) wr) (fun i _ => 64 - (intOf i).toNat)
    case atStart => exact ⟨0, by omega, rfl, HI.out⟩
    case round =>
      clear HI
      obtain ⟨k, hk, rfl, hi⟩ := hrel
      by_cases hlt : k < 64
      · have c1 : wr.cell? ⟨g8, k, none⟩ = some (.int .u8 ((pk.getD k 0).toNat : Int)) := by rw [hi.one.cell, List.getElem?_toArray]; exact mixx_get 54 pk k HPL.out hlt
        have c2 : wr.cell? ⟨g9, k, none⟩ = some (.int .u8 ((pk.getD k 0).toNat : Int)) := by rw [hi.two.cell, List.getElem?_toArray]; exact mixx_get 92 pk k HPL.out hlt
        have f1 := hi.one.frozen k
        have f2 := hi.two.frozen k
        have b1 := byte_xor (pk.getD k 0) 54
        have b2 := byte_xor (pk.getD k 0) 92
        have s1 := mixx_set 54 pk k HPL.out hlt
        have s2 := mixx_set 92 pk k HPL.out hlt
        have S1 := hi.one.set k (.int .u8 ((pk.getD k 0 ^^^ 54).toNat : Int))
        rw [List.setIfInBounds_toArray, s1] at S1
        have G1 : Frm (fun j => j = g8) wr (wr.setCell ⟨g8, k, none⟩ (.int .u8 ((pk.getD k 0 ^^^ 54).toNat : Int))) := Frm.setCell _ _ _ (fun j => j = g8) rfl
        have T1 := hi.two.frm G1 (fun h => hn89 h.symm)
        have c2' := cell_frm G1 c2 (fun h => hn89 h.symm)
        have f2' := T1.frozen k
        have T2 := T1.set k (.int .u8 ((pk.getD k 0 ^^^ 92).toNat : Int))
        rw [List.setIfInBounds_toArray, s2] at T2
        have G2 : Frm (fun j => j = g9) (wr.setCell ⟨g8, k, none⟩ (.int .u8 ((pk.getD k 0 ^^^ 54).toNat : Int))) ((wr.setCell ⟨g8, k, none⟩ (.int .u8 ((pk.getD k 0 ^^^ 54).toNat : Int))).setCell ⟨g9, k, none⟩ (.int .u8 ((pk.getD k 0 ^^^ 92).toNat : Int))) := Frm.setCell _ _ _ (fun j => j = g9) rfl
        have FIN : Hid (RecInv w g8 g9 (mix (xorL 54 pk) pk (k + 1)) (mix (xorL 92 pk) pk (k + 1)) ((wr.setCell ⟨g8, k, none⟩ (.int .u8 ((pk.getD k 0 ^^^ 54).toNat : Int))).setCell ⟨g9, k, none⟩ (.int .u8 ((pk.getD k 0 ^^^ 92).toNat : Int)))) := ⟨S1.frm G2 hn89, T2, (hi.run.frm G1 (fun j hj => by omega)).frm G2 (fun j hj => by omega)⟩
        have b1' : bits .xor .u8 ((pk.getD k 0).toNat : Int) 54 = ((pk.getD k 0 ^^^ 54).toNat : Int) := b1
        have b2' : bits .xor .u8 ((pk.getD k 0).toNat : Int) 92 = ((pk.getD k 0 ^^^ 92).toNat : Int) := b2
        clear b1 b2 s1 s2 S1 G1 T1 T2 G2 hi
        generalize (pk.getD k 0 ^^^ 54).toNat = p1 at *
        generalize (pk.getD k 0 ^^^ 92).toNat = p2 at *
        generalize (pk.getD k 0).toNat = p0 at *
        go_wp2_with fail
        go_roundw
        case rel => first | exact ⟨k + 1, by omega, by go_num, FIN.out⟩ | ((repeat apply Exists.intro); exact ⟨⟨k + 1, by omega, by go_num, FIN.out⟩, rfl⟩)
        case measure => simp [intOf]; omega
      · obtain rfl : k = 64 := by omega
        have HXO : Hid ((xorL 54 pk).length = 64) := by show _ = _; rw [xorL_length]; exact HPL.out
        have HXT : Hid ((xorL 92 pk).length = 64) := by show _ = _; rw [xorL_length]; exact HPL.out
        have h1 := hi.one
        have h2 := hi.two
        have hr := hi.run
        rw [mix_all _ _ _ (xorL_length 54 pk) (by rw [HPL.out]; exact Nat.le_refl _)] at h1
        rw [mix_all _ _ _ (xorL_length 92 pk) (by rw [HPL.out]; exact Nat.le_refl _)] at h2
        clear hi
        generalize xorL 54 pk = ip at *
        generalize xorL 92 pk = op at *
        have hA1 : All2 wr [.slice (some ⟨g8, 0, none⟩) 64 64, .slice a1 m1 cap1] [ip, x1] := .cons ⟨_, _, by rw [HXO.out], by rw [HXO.out]; exact Nat.le_refl _, by have := h1.rds; rw [cellsB_length] at this; exact this⟩ (.cons (prt_old HR1.out HX1.out hc1 hr.below) .nil)
        have HS1 := hide (sums_run w wr [.slice (some ⟨g8, 0, none⟩) 64 64, .slice a1 m1 cap1] [ip, x1] (ip ++ x1) hA1 (by simp) hr (by rw [List.length_append, HXO.out]; omega) (by simp))
        have HFL := hide (shaL_length (ip ++ x1))
        have HFC := hide (shaC_length (ip ++ x1))
        have HMR := hide (fun W (hR : Run w W) PA (hrow : Rds W PA 1 [.slice a1 m1 cap1]) => mac_now w W a0 m0 cap0 x0 PA 1 1 [.slice a1 m1 cap1] [x1] x1 (HR0.out.below hR.below) hc0 (by omega) hrow (.cons (prt_old HR1.out HX1.out hc1 hR.below) .nil) (by simp) hR (by omega) (by simp))
        rw [HMD.out] at HMR
        clear hA1 h1
        obtain ⟨fs, hfs⟩ : ∃ fs, fs = shaL (ip ++ x1) := ⟨_, rfl⟩
        rw [← hfs] at HFL HFC HS1 HMR
        clear hfs
        go_wp2_with fail
        refine HS1.out.mono ?_
        rintro e w15 ⟨rfl, F15, R15⟩
        have B15 := h2.frm F15 (fun h => h)
        clear h2 hr F15 HS1
        go_wp2_with (first
          | ((with_reducible refine wpl_alloca (op := ⟨some 11, _, _, _, _, _⟩) rfl _ rfl _ zero32 ?_); intro g11 w16 hB16 hs16 hF16)
          | ((with_reducible refine wpl_storea agg32 rfl (.tmp 11) (.tmp 75) rfl g11 (cellsB fs) rfl rfl _ _ hB16 HFC.out zero32_size (cellsB_one _) ?_); intro w17 hB17 hF17))
        have hg11 : w.heap.size ≤ g11 := by have := R15.size; omega
        have hn911 : g9 ≠ g11 := by have := B15.lt; omega
        have FF : Frm (fun j => j = g11) w15 w17.drew := ((hF16.mono (T := fun j => j = g11) (fun _ _ h => h.elim)).trans hF17 (fun _ _ h => h)).drew
        have T0 := B15.frm FF hn911
        have X0 : Blk w17.drew g11 25 (cellsB fs).toArray := hB17
        have R0 := R15.frm FF (fun j hj => by omega)
        have hsl32 := sl32
        have q1 := eq_same (shaL (op ++ fs)) (shaL_length _)
        have hgd := guard32
        have HSM := hide (fun W (hR : Run w W) PA (hT : Blk W g9 5 (cellsB op).toArray) (hX : Blk W g11 25 (cellsB fs).toArray) (hrow : Rds W PA 2 [.slice (some ⟨g9, 0, none⟩) 64 64, .slice (some ⟨g11, 0, none⟩) 32 32]) => sums_now w W PA 2 2 [.slice (some ⟨g9, 0, none⟩) 64 64, .slice (some ⟨g11, 0, none⟩) 32 32] [op, fs] (op ++ fs) hrow (.cons ⟨_, _, by rw [HXT.out], by rw [HXT.out]; exact Nat.le_refl _, by have := hT.rds; rw [cellsB_length] at this; exact this⟩ (.cons ⟨_, _, by rw [HFL.out], by rw [HFL.out]; exact Nat.le_refl _, by have := hX.rds; rw [cellsB_length] at this; exact this⟩ .nil)) (by simp) hR (by rw [List.length_append, HXT.out, HFL.out]; omega) (by simp))
        obtain ⟨ans, hans⟩ : ∃ ans, ans = shaL (op ++ fs) := ⟨_, rfl⟩
        rw [← hans] at q1 HSM HMR
        clear hans hB16 hF16 hB17 hF17 FF B15 R15
        refine wp_region_held_drew (S := fun _ => True) (by kernel_rfl) (True.intro) ?_
        intro hHeld
        obtain ⟨W0, hW0⟩ : ∃ W', W' = w17.drew := ⟨_, rfl⟩
        rw [← hW0] at T0 X0 R0 ⊢
        clear hW0
        refine wpAnyH_take (i := 0) (v := ?v1) rfl (by kernel_rfl) (by kernel_rfl) (by kernel_rfl) (fun _ _ _ h => h) (Or.inl ⟨by rfl, ?hy1⟩) (by assumption) ?rest1
        case hy1 => (intro w hSw; (try dsimp only at hSw); go_simp; try with_reducible rfl)
        try simp only [Act.put, List.getElem_toArray, List.getElem_cons_zero, List.setIfInBounds_toArray, List.set_cons_zero, List.set_cons_succ]
        refine wpAnyH_take (i := 1) (v := ?v2) rfl (by kernel_rfl) (by kernel_rfl) (by kernel_rfl) (fun _ _ _ h => h) (Or.inl ⟨by rfl, ?hy2⟩) (by assumption) ?rest2
        case hy2 => (intro w hSw; (try dsimp only at hSw); go_simp; try with_reducible rfl)
        try simp only [Act.put, List.getElem_toArray, List.getElem_cons_zero, List.getElem_cons_succ, List.setIfInBounds_toArray, List.set_cons_zero, List.set_cons_succ]
        refine wpAnyH_take (i := 2) (v := ?v3) rfl (by kernel_rfl) (by kernel_rfl) (by kernel_rfl) (fun _ _ _ h => h) (Or.inl ⟨by rfl, ?hy3⟩) (by assumption) ?rest3
        case hy3 => (intro w hSw; (try dsimp only at hSw); go_simp; try with_reducible rfl)
        try simp only [Act.put, List.getElem_toArray, List.getElem_cons_zero, List.getElem_cons_succ, List.setIfInBounds_toArray, List.set_cons_zero, List.set_cons_succ]
        refine wpAnyH_take (i := 3) (v := ?v4) rfl (by kernel_rfl) (by kernel_rfl) (by kernel_rfl) (fun _ _ _ h => h) (Or.inl ⟨by rfl, ?hy4⟩) (by assumption) ?rest4
        case hy4 => (intro w hSw; (try dsimp only at hSw); go_simp; try with_reducible rfl)
        try simp only [Act.put, List.getElem_toArray, List.getElem_cons_zero, List.getElem_cons_succ, List.setIfInBounds_toArray, List.set_cons_zero, List.set_cons_succ]
        refine wpAnyH_take (i := 6) (v := ?v5) rfl (by kernel_rfl) (by kernel_rfl) (by kernel_rfl) (fun _ _ _ h => h) (Or.inl ⟨by rfl, ?hy5⟩) (by assumption) ?rest5
        case hy5 => (intro w hSw; (try dsimp only at hSw); go_simp; try with_reducible rfl)
        try simp only [Act.put, List.getElem_toArray, List.getElem_cons_zero, List.getElem_cons_succ, List.setIfInBounds_toArray, List.set_cons_zero, List.set_cons_succ]
        refine wpAnyH_take (i := 7) (v := ?v6) rfl (by kernel_rfl) (by kernel_rfl) (by kernel_rfl) (fun _ _ _ h => h) (Or.inl ⟨by rfl, ?hy6⟩) (by assumption) ?rest6
        case hy6 => (intro w hSw; (try dsimp only at hSw); go_simp; try with_reducible rfl)
        try simp only [Act.put, List.getElem_toArray, List.getElem_cons_zero, List.getElem_cons_succ, List.setIfInBounds_toArray, List.set_cons_zero, List.set_cons_succ]
        refine wpAnyH_ready (rs := [4, 8]) (by kernel_rfl) (by simp) ?_
        refine AllReadyH.cons rfl (fun K hK => ?_) ?_
        · go_simp
          have F1 : Frm (fun _ => False) W0 (W0.alloc (.cells #[.slice a1 m1 cap1] 24)) := Frm.alloc _ _ _
          have Q1 := alloc_rds W0 [.slice a1 m1 cap1] 24 (0, 0)
          obtain ⟨W1, hW1⟩ : ∃ W', W' = W0.alloc (.cells #[.slice a1 m1 cap1] 24) := ⟨_, rfl⟩
          rw [show W0.alloc (.cells [.slice a1 m1 cap1].toArray 24) = W1 from hW1.symm] at Q1
          rw [← hW1] at F1 ⊢
          clear hW1
          obtain ⟨gQ, hgQ⟩ : ∃ g', g' = W0.heap.size := ⟨_, rfl⟩
          rw [← hgQ] at Q1 ⊢
          clear hgQ
          have T1 := T0.frm F1 (fun h => h)
          have X1 := X0.frm F1 (fun h => h)
          have R1 := R0.frm F1 (fun _ h => h.elim)
          refine hK.out _ _ (True.intro) (fun hHeld => ?_)
          clear hK K
          refine wpAnyH_ready (rs := [5, 8]) (by kernel_rfl) (by simp) ?_
          refine AllReadyH.cons rfl (fun K hK => ?_) ?_
          · go_simp
            refine (HMR.out _ R1 (some ⟨gQ, 0, none⟩) Q1).mono ?_
            rintro e W2 ⟨rfl, F2, _⟩
            have T2 := T1.frm F2 (fun h => h)
            have X2 := X1.frm F2 (fun h => h)
            have R2 := R1.frm F2 (fun _ h => h.elim)
            refine hK.out _ _ (True.intro) (fun hHeld => ?_)
            clear hK K
            refine wpAnyH_ready (rs := [8]) (by kernel_rfl) (by simp) ?_
            refine AllReadyH.cons rfl (fun K hK => ?_) AllReadyH.nil
            go_simp
            have F3 : Frm (fun _ => False) W2 (W2.alloc (.cells #[.slice (some ⟨g9, 0, none⟩) 64 64, .slice (some ⟨g11, 0, none⟩) 32 32] 24)) := Frm.alloc _ _ _
            have P3 := alloc_rds W2 [.slice (some ⟨g9, 0, none⟩) 64 64, .slice (some ⟨g11, 0, none⟩) 32 32] 24 (0, 0)
            obtain ⟨W3, hW3⟩ : ∃ W', W' = W2.alloc (.cells #[.slice (some ⟨g9, 0, none⟩) 64 64, .slice (some ⟨g11, 0, none⟩) 32 32] 24) := ⟨_, rfl⟩
            rw [show W2.alloc (.cells [.slice (some ⟨g9, 0, none⟩) 64 64, .slice (some ⟨g11, 0, none⟩) 32 32].toArray 24) = W3 from hW3.symm] at P3
            rw [← hW3] at F3 ⊢
            clear hW3
            obtain ⟨gP, hgP⟩ : ∃ g', g' = W2.heap.size := ⟨_, rfl⟩
            rw [← hgP] at P3 ⊢
            clear hgP
            have T3 := T2.frm F3 (fun h => h)
            have X3 := X2.frm F3 (fun h => h)
            have R3 := R2.frm F3 (fun _ h => h.elim)
            refine hK.out _ _ (True.intro) (fun hHeld => ?_)
            clear hK K
            refine wpAnyH_ready (rs := [9]) (by kernel_rfl) (by simp) ?_
            refine AllReadyH.cons rfl (fun K hK => ?_) AllReadyH.nil
            go_simp
            refine (HSM.out _ R3 (some ⟨gP, 0, none⟩) T3 X3 P3).mono ?_
            rintro e W4 ⟨rfl, F4, _⟩
            have T4 := T3.frm F4 (fun h => h)
            have X4 := X3.frm F4 (fun h => h)
            have R4 := R3.frm F4 (fun _ h => h.elim)
            refine hK.out _ _ (True.intro) (fun hHeld => ?_)
            clear hK K
            refine wpAnyH_take (i := 10) (v := ?v7) rfl (by kernel_rfl) (by kernel_rfl) (by kernel_rfl) (fun _ _ _ h => h) (Or.inl ⟨by rfl, ?hy7⟩) (by assumption) ?rest7
            case hy7 => (intro w hSw; (try dsimp only at hSw); go_simp; try with_reducible rfl)
            try simp only [Act.put, List.getElem_toArray, List.getElem_cons_zero, List.getElem_cons_succ, List.setIfInBounds_toArray, List.set_cons_zero, List.set_cons_succ]
            refine wpAnyH_take (i := 11) (v := ?v8) rfl (by kernel_rfl) (by kernel_rfl) (by kernel_rfl) (fun _ _ _ h => h) (Or.inl ⟨by rfl, ?hy8⟩) (by assumption) ?rest8
            case hy8 => (intro w hSw; (try dsimp only at hSw); go_simp; try with_reducible rfl)
            try simp only [Act.put, List.getElem_toArray, List.getElem_cons_zero, List.getElem_cons_succ, List.setIfInBounds_toArray, List.set_cons_zero, List.set_cons_succ]
            refine wpAnyH_take (i := 12) (v := ?v9) rfl (by kernel_rfl) (by kernel_rfl) (by kernel_rfl) (fun _ _ _ h => h) (Or.inl ⟨by rfl, ?hy9⟩) (by assumption) ?rest9
            case hy9 => (intro w hSw; (try dsimp only at hSw); go_simp; try with_reducible rfl)
            try simp only [Act.put, List.getElem_toArray, List.getElem_cons_zero, List.getElem_cons_succ, List.setIfInBounds_toArray, List.set_cons_zero, List.set_cons_succ]
            refine wpAnyH_done (by kernel_rfl) ?_ _
            go_wp2
            go_ret
            exact ⟨rfl, R4.below⟩
          refine AllReadyH.cons rfl (fun K hK => ?_) AllReadyH.nil
          go_simp
          have F2 : Frm (fun _ => False) W1 (W1.alloc (.cells #[.slice (some ⟨g9, 0, none⟩) 64 64, .slice (some ⟨g11, 0, none⟩) 32 32] 24)) := Frm.alloc _ _ _
          have P2 := alloc_rds W1 [.slice (some ⟨g9, 0, none⟩) 64 64, .slice (some ⟨g11, 0, none⟩) 32 32] 24 (0, 0)
          obtain ⟨W2, hW2⟩ : ∃ W', W' = W1.alloc (.cells #[.slice (some ⟨g9, 0, none⟩) 64 64, .slice (some ⟨g11, 0, none⟩) 32 32] 24) := ⟨_, rfl⟩
          rw [show W1.alloc (.cells [.slice (some ⟨g9, 0, none⟩) 64 64, .slice (some ⟨g11, 0, none⟩) 32 32].toArray 24) = W2 from hW2.symm] at P2
          rw [← hW2] at F2 ⊢
          clear hW2
          obtain ⟨gP, hgP⟩ : ∃ g', g' = W1.heap.size := ⟨_, rfl⟩
          rw [← hgP] at P2 ⊢
          clear hgP
          have T2 := T1.frm F2 (fun h => h)
          have X2 := X1.frm F2 (fun h => h)
          have R2 := R1.frm F2 (fun _ h => h.elim)
          have Q2 := Q1.frm F2 (fun _ _ _ h => h)
          refine hK.out _ _ (True.intro) (fun hHeld => ?_)
          clear hK K
          refine wpAnyH_ready (rs := [5]) (by kernel_rfl) (by simp) ?_
          refine AllReadyH.cons rfl (fun K hK => ?_) AllReadyH.nil
          go_simp
          refine (HMR.out _ R2 (some ⟨gQ, 0, none⟩) Q2).mono ?_
          rintro e W3 ⟨rfl, F3, _⟩
          have T3 := T2.frm F3 (fun h => h)
          have X3 := X2.frm F3 (fun h => h)
          have R3 := R2.frm F3 (fun _ h => h.elim)
          have P3 := P2.frm F3 (fun _ _ _ h => h)
          refine hK.out _ _ (True.intro) (fun hHeld => ?_)
          clear hK K
          refine wpAnyH_ready (rs := [9]) (by kernel_rfl) (by simp) ?_
          refine AllReadyH.cons rfl (fun K hK => ?_) AllReadyH.nil
          go_simp
          refine (HSM.out _ R3 (some ⟨gP, 0, none⟩) T3 X3 P3).mono ?_
          rintro e W4 ⟨rfl, F4, _⟩
          have T4 := T3.frm F4 (fun h => h)
          have X4 := X3.frm F4 (fun h => h)
          have R4 := R3.frm F4 (fun _ h => h.elim)
          refine hK.out _ _ (True.intro) (fun hHeld => ?_)
          clear hK K
          refine wpAnyH_take (i := 10) (v := ?v10) rfl (by kernel_rfl) (by kernel_rfl) (by kernel_rfl) (fun _ _ _ h => h) (Or.inl ⟨by rfl, ?hy10⟩) (by assumption) ?rest10
          case hy10 => (intro w hSw; (try dsimp only at hSw); go_simp; try with_reducible rfl)
          try simp only [Act.put, List.getElem_toArray, List.getElem_cons_zero, List.getElem_cons_succ, List.setIfInBounds_toArray, List.set_cons_zero, List.set_cons_succ]
          refine wpAnyH_take (i := 11) (v := ?v11) rfl (by kernel_rfl) (by kernel_rfl) (by kernel_rfl) (fun _ _ _ h => h) (Or.inl ⟨by rfl, ?hy11⟩) (by assumption) ?rest11
          case hy11 => (intro w hSw; (try dsimp only at hSw); go_simp; try with_reducible rfl)
          try simp only [Act.put, List.getElem_toArray, List.getElem_cons_zero, List.getElem_cons_succ, List.setIfInBounds_toArray, List.set_cons_zero, List.set_cons_succ]
          refine wpAnyH_take (i := 12) (v := ?v12) rfl (by kernel_rfl) (by kernel_rfl) (by kernel_rfl) (fun _ _ _ h => h) (Or.inl ⟨by rfl, ?hy12⟩) (by assumption) ?rest12
          case hy12 => (intro w hSw; (try dsimp only at hSw); go_simp; try with_reducible rfl)
          try simp only [Act.put, List.getElem_toArray, List.getElem_cons_zero, List.getElem_cons_succ, List.setIfInBounds_toArray, List.set_cons_zero, List.set_cons_succ]
          refine wpAnyH_done (by kernel_rfl) ?_ _
          go_wp2
          go_ret
          exact ⟨rfl, R4.below⟩
        refine AllReadyH.cons rfl (fun K hK => ?_) AllReadyH.nil
        go_simp
        have F1 : Frm (fun _ => False) W0 (W0.alloc (.cells #[.slice (some ⟨g9, 0, none⟩) 64 64, .slice (some ⟨g11, 0, none⟩) 32 32] 24)) := Frm.alloc _ _ _
        have P1 := alloc_rds W0 [.slice (some ⟨g9, 0, none⟩) 64 64, .slice (some ⟨g11, 0, none⟩) 32 32] 24 (0, 0)
        obtain ⟨W1, hW1⟩ : ∃ W', W' = W0.alloc (.cells #[.slice (some ⟨g9, 0, none⟩) 64 64, .slice (some ⟨g11, 0, none⟩) 32 32] 24) := ⟨_, rfl⟩
        rw [show W0.alloc (.cells [.slice (some ⟨g9, 0, none⟩) 64 64, .slice (some ⟨g11, 0, none⟩) 32 32].toArray 24) = W1 from hW1.symm] at P1
        rw [← hW1] at F1 ⊢
        clear hW1
        obtain ⟨gP, hgP⟩ : ∃ g', g' = W0.heap.size := ⟨_, rfl⟩
        rw [← hgP] at P1 ⊢
        clear hgP
        have T1 := T0.frm F1 (fun h => h)
        have X1 := X0.frm F1 (fun h => h)
        have R1 := R0.frm F1 (fun _ h => h.elim)
        refine hK.out _ _ (True.intro) (fun hHeld => ?_)
        clear hK K
        refine wpAnyH_ready (rs := [4]) (by kernel_rfl) (by simp) ?_
        refine AllReadyH.cons rfl (fun K hK => ?_) AllReadyH.nil
        go_simp
        have F2 : Frm (fun _ => False) W1 (W1.alloc (.cells #[.slice a1 m1 cap1] 24)) := Frm.alloc _ _ _
        have Q2 := alloc_rds W1 [.slice a1 m1 cap1] 24 (0, 0)
        obtain ⟨W2, hW2⟩ : ∃ W', W' = W1.alloc (.cells #[.slice a1 m1 cap1] 24) := ⟨_, rfl⟩
        rw [show W1.alloc (.cells [.slice a1 m1 cap1].toArray 24) = W2 from hW2.symm] at Q2
        rw [← hW2] at F2 ⊢
        clear hW2
        obtain ⟨gQ, hgQ⟩ : ∃ g', g' = W1.heap.size := ⟨_, rfl⟩
        rw [← hgQ] at Q2 ⊢
        clear hgQ
        have T2 := T1.frm F2 (fun h => h)
        have X2 := X1.frm F2 (fun h => h)
        have R2 := R1.frm F2 (fun _ h => h.elim)
        have P2 := P1.frm F2 (fun _ _ _ h => h)
        refine hK.out _ _ (True.intro) (fun hHeld => ?_)
        clear hK K
        refine wpAnyH_ready (rs := [5]) (by kernel_rfl) (by simp) ?_
        refine AllReadyH.cons rfl (fun K hK => ?_) AllReadyH.nil
        go_simp
        refine (HMR.out _ R2 (some ⟨gQ, 0, none⟩) Q2).mono ?_
        rintro e W3 ⟨rfl, F3, _⟩
        have T3 := T2.frm F3 (fun h => h)
        have X3 := X2.frm F3 (fun h => h)
        have R3 := R2.frm F3 (fun _ h => h.elim)
        have P3 := P2.frm F3 (fun _ _ _ h => h)
        refine hK.out _ _ (True.intro) (fun hHeld => ?_)
        clear hK K
        refine wpAnyH_ready (rs := [9]) (by kernel_rfl) (by simp) ?_
        refine AllReadyH.cons rfl (fun K hK => ?_) AllReadyH.nil
        go_simp
        refine (HSM.out _ R3 (some ⟨gP, 0, none⟩) T3 X3 P3).mono ?_
        rintro e W4 ⟨rfl, F4, _⟩
        have T4 := T3.frm F4 (fun h => h)
        have X4 := X3.frm F4 (fun h => h)
        have R4 := R3.frm F4 (fun _ h => h.elim)
        refine hK.out _ _ (True.intro) (fun hHeld => ?_)
        clear hK K
        refine wpAnyH_take (i := 10) (v := ?v13) rfl (by kernel_rfl) (by kernel_rfl) (by kernel_rfl) (fun _ _ _ h => h) (Or.inl ⟨by rfl, ?hy13⟩) (by assumption) ?rest13
        case hy13 => (intro w hSw; (try dsimp only at hSw); go_simp; try with_reducible rfl)
        try simp only [Act.put, List.getElem_toArray, List.getElem_cons_zero, List.getElem_cons_succ, List.setIfInBounds_toArray, List.set_cons_zero, List.set_cons_succ]
        refine wpAnyH_take (i := 11) (v := ?v14) rfl (by kernel_rfl) (by kernel_rfl) (by kernel_rfl) (fun _ _ _ h => h) (Or.inl ⟨by rfl, ?hy14⟩) (by assumption) ?rest14
        case hy14 => (intro w hSw; (try dsimp only at hSw); go_simp; try with_reducible rfl)
        try simp only [Act.put, List.getElem_toArray, List.getElem_cons_zero, List.getElem_cons_succ, List.setIfInBounds_toArray, List.set_cons_zero, List.set_cons_succ]
        refine wpAnyH_take (i := 12) (v := ?v15) rfl (by kernel_rfl) (by kernel_rfl) (by kernel_rfl) (fun _ _ _ h => h) (Or.inl ⟨by rfl, ?hy15⟩) (by assumption) ?rest15
        case hy15 => (intro w hSw; (try dsimp only at hSw); go_simp; try with_reducible rfl)
        try simp only [Act.put, List.getElem_toArray, List.getElem_cons_zero, List.getElem_cons_succ, List.setIfInBounds_toArray, List.set_cons_zero, List.set_cons_succ]
        refine wpAnyH_done (by kernel_rfl) ?_ _
        go_wp2
        go_ret
        exact ⟨rfl, R4.below⟩
  · have h64' : ¬ ((64 : Int) < (m0 : Int)) := by omega
    have HKx : Hid (keyL x0 = x0) := by show _ = _; unfold keyL; rw [if_neg (by rw [HX0.out]; exact h64)]
    have HKl : Hid (x0.length = m0) := HX0.out
    obtain ⟨kx, hkx⟩ : ∃ kx, kx = x0 := ⟨_, rfl⟩
    have HMN : Hid (m0 = Nat.min m0 64) := (Nat.min_eq_left (by omega)).symm
    have HSPx : Hid (splice (cellsB (List.replicate 64 0)) 0 (cellsB (kx.take m0)) = cellsB (padK x0)) := by
      show _ = _
      rw [hkx]
      have := pad_splice x0 (by rw [HKl.out]; omega)
      rw [HKl.out] at this
      rw [this, padK, HKx.out, HKl.out]
    have HSP := HSPx
    clear HSPx
    have HPL := hide (padK_length x0)
    obtain ⟨pk, hpk⟩ : ∃ pk, pk = padK x0 := ⟨_, rfl⟩
    have HMD : Hid (macL x0 x1 = shaL (xorL 92 pk ++ shaL (xorL 54 pk ++ x1))) := by show _ = _; rw [hpk]; rfl
    rw [← hpk] at HSP HPL
    clear hpk
    go_wp2_with (first
      | (refine wpl_min rfl (.tmp 15) (.const (.int .i64 200)) _ _ rfl _ (len0 : Int) 200 (m0 : Int) rfl rfl HM0.out ?_)
      | (refine wpl_min rfl (.tmp 20) (.const (.int .i64 500)) _ _ rfl _ (len1 : Int) 500 (m1 : Int) rfl rfl HM1.out ?_)
      | (refine wpl_app one_u8 rfl (.tmp 23) (.tmp 24) rfl _ w1.heap.size (.slice (some ⟨w1.heap.size, 0, none⟩) 0 0) 0 _ rfl hov a0 m0 cap0 (cellsB x0) rfl HRW.out (cellsB_one _) hb1 hb2 hFa.size ?_; intro A3 c3 w3 hown3 hg3 hat3; rw [Nat.zero_add]; have F13 : Frm (fun k => k = w1.heap.size) w1 w3 := (hFa.mono (T := fun k => k = w1.heap.size) (fun _ _ h => h.elim)).trans (Frm.of_grown hg3) (fun j _ h => (by simpa [Value.ownBlock] using h : j = w1.heap.size)); have R3 := hR.frm F13 (fun k hk => by omega); rw [Nat.zero_add, List.nil_append] at hown3; have HRO := hide (Seg.of_own hown3).rds; rw [show cellsB x0 = cellsB kx by rw [hkx]] at HRO; have HLT : Hid (0 < m0 → ∀ a, A3 = some a → a.block < w3.heap.size) := (fun hp a ha => by obtain ⟨a', ha', hcc⟩ := HRO.out.2 hp; rw [ha] at ha'; injection ha' with ha'; subst ha'; have h0 : (cellsB kx)[0]? = some _ := List.getElem?_eq_getElem (by rw [HRO.out.1]; omega); have := World.block_lt_of_cell? w3 _ (hcc 0 _ h0); rwa [add_block] at this); clear hov hFa HRW hown3 hg3 hat3 F13 hb1 hb2 hkx)
      | ((with_reducible refine wpl_make8 (op := ⟨some 44, _, _, _, _, _⟩) rfl _ rfl .i64 64 64 rfl rfl (by omega) ?_); intro g8 w11 hB11 hs11 hF11)
      | ((with_reducible refine wpl_make8 (op := ⟨some 45, _, _, _, _, _⟩) rfl _ rfl .i64 64 64 rfl rfl (by omega) ?_); intro g9 w12 hB12 hs12 hF12; have rr := (HRO.out.frm hF11 (fun _ _ _ h => h)).frm hF12 (fun _ _ _ h => h); have B8 := hB11.frm hF12 (fun h => h); have hn89 : g8 ≠ g9 := (by have := hB11.lt; omega))
      | ((with_reducible refine wpl_copyR rfl (.tmp 46) (.tmp 47) rfl g8 0 64 64 A3 m0 c3 m0 rfl rfl (cellsB (List.replicate 64 0)) _ B8 kx rr HMN.out (by decide) ?_); intro w13 B13 F13; rw [HSP.out] at B13; have rr2 := rr.frm F13 (fun hp a ha => by have := HLT.out hp a ha; omega); have B9 := hB12.frm F13 (fun h => hn89 h.symm))
      | ((with_reducible refine wpl_copyR rfl (.tmp 49) (.tmp 50) rfl g9 0 64 64 A3 m0 c3 m0 rfl rfl (cellsB (List.replicate 64 0)) _ B9 kx rr2 HMN.out (by decide) ?_); intro w14 B14 F14; rw [HSP.out] at B14))
    have hg8 : w.heap.size ≤ g8 := by have := R3.size; omega
    have hg9 : w.heap.size ≤ g9 := by have := R3.size; have := hF11.size; omega
    have HI : Hid (RecInv w g8 g9 (mix (xorL 54 pk) pk 0) (mix (xorL 92 pk) pk 0) w14) := by
      rw [Hid, mix_zero, mix_zero]
      exact ⟨B13.frm F14 hn89, B14, (((R3.frm hF11 (fun _ h => h.elim)).frm hF12 (fun _ h => h.elim)).frm F13 (fun k hk => by omega)).frm F14 (fun k hk => by omega)⟩
    clear hB11 hF11 hB12 hF12 rr B8 B13 F13 rr2 B9 B14 F14 HSP HRO HLT HMN R3
    go_loopw [10] (fun i wr => ∃ k : Nat, k ≤ 64 ∧ i = .int .i64 k ∧ RecInv w g8 g9 (mix (xorL 54 pk) pk k) (mix (xorL 92 pk) pk k) wr) (fun i _ => 64 - (intOf i).toNat)
    case atStart => exact ⟨0, by omega, rfl, HI.out⟩
    case round =>
      clear HI
      obtain ⟨k, hk, rfl, hi⟩ := hrel
      by_cases hlt : k < 64
      · have c1 : wr.cell? ⟨g8, k, none⟩ = some (.int .u8 ((pk.getD k 0).toNat : Int)) := by rw [hi.one.cell, List.getElem?_toArray]; exact mixx_get 54 pk k HPL.out hlt
        have c2 : wr.cell? ⟨g9, k, none⟩ = some (.int .u8 ((pk.getD k 0).toNat : Int)) := by rw [hi.two.cell, List.getElem?_toArray]; exact mixx_get 92 pk k HPL.out hlt
        have f1 := hi.one.frozen k
        have f2 := hi.two.frozen k
        have b1 := byte_xor (pk.getD k 0) 54
        have b2 := byte_xor (pk.getD k 0) 92
        have s1 := mixx_set 54 pk k HPL.out hlt
        have s2 := mixx_set 92 pk k HPL.out hlt
        have S1 := hi.one.set k (.int .u8 ((pk.getD k 0 ^^^ 54).toNat : Int))
        rw [List.setIfInBounds_toArray, s1] at S1
        have G1 : Frm (fun j => j = g8) wr (wr.setCell ⟨g8, k, none⟩ (.int .u8 ((pk.getD k 0 ^^^ 54).toNat : Int))) := Frm.setCell _ _ _ (fun j => j = g8) rfl
        have T1 := hi.two.frm G1 (fun h => hn89 h.symm)
        have c2' := cell_frm G1 c2 (fun h => hn89 h.symm)
        have f2' := T1.frozen k
        have T2 := T1.set k (.int .u8 ((pk.getD k 0 ^^^ 92).toNat : Int))
        rw [List.setIfInBounds_toArray, s2] at T2
        have G2 : Frm (fun j => j = g9) (wr.setCell ⟨g8, k, none⟩ (.int .u8 ((pk.getD k 0 ^^^ 54).toNat : Int))) ((wr.setCell ⟨g8, k, none⟩ (.int .u8 ((pk.getD k 0 ^^^ 54).toNat : Int))).setCell ⟨g9, k, none⟩ (.int .u8 ((pk.getD k 0 ^^^ 92).toNat : Int))) := Frm.setCell _ _ _ (fun j => j = g9) rfl
        have FIN : Hid (RecInv w g8 g9 (mix (xorL 54 pk) pk (k + 1)) (mix (xorL 92 pk) pk (k + 1)) ((wr.setCell ⟨g8, k, none⟩ (.int .u8 ((pk.getD k 0 ^^^ 54).toNat : Int))).setCell ⟨g9, k, none⟩ (.int .u8 ((pk.getD k 0 ^^^ 92).toNat : Int)))) := ⟨S1.frm G2 hn89, T2, (hi.run.frm G1 (fun j hj => by omega)).frm G2 (fun j hj => by omega)⟩
        have b1' : bits .xor .u8 ((pk.getD k 0).toNat : Int) 54 = ((pk.getD k 0 ^^^ 54).toNat : Int) := b1
        have b2' : bits .xor .u8 ((pk.getD k 0).toNat : Int) 92 = ((pk.getD k 0 ^^^ 92).toNat : Int) := b2
        clear b1 b2 s1 s2 S1 G1 T1 T2 G2 hi
        generalize (pk.getD k 0 ^^^ 54).toNat = p1 at *
        generalize (pk.getD k 0 ^^^ 92).toNat = p2 at *
        generalize (pk.getD k 0).toNat = p0 at *
        go_wp2_with fail
        go_roundw
        case rel => first | exact ⟨k + 1, by omega, by go_num, FIN.out⟩ | ((repeat apply Exists.intro); exact ⟨⟨k + 1, by omega, by go_num, FIN.out⟩, rfl⟩)
        case measure => simp [intOf]; omega
      · obtain rfl : k = 64 := by omega
        have HXO : Hid ((xorL 54 pk).length = 64) := by show _ = _; rw [xorL_length]; exact HPL.out
        have HXT : Hid ((xorL 92 pk).length = 64) := by show _ = _; rw [xorL_length]; exact HPL.out
        have h1 := hi.one
        have h2 := hi.two
        have hr := hi.run
        rw [mix_all _ _ _ (xorL_length 54 pk) (by rw [HPL.out]; exact Nat.le_refl _)] at h1
        rw [mix_all _ _ _ (xorL_length 92 pk) (by rw [HPL.out]; exact Nat.le_refl _)] at h2
        clear hi
        generalize xorL 54 pk = ip at *
        generalize xorL 92 pk = op at *
        have hA1 : All2 wr [.slice (some ⟨g8, 0, none⟩) 64 64, .slice a1 m1 cap1] [ip, x1] := .cons ⟨_, _, by rw [HXO.out], by rw [HXO.out]; exact Nat.le_refl _, by have := h1.rds; rw [cellsB_length] at this; exact this⟩ (.cons (prt_old HR1.out HX1.out hc1 hr.below) .nil)
        have HS1 := hide (sums_run w wr [.slice (some ⟨g8, 0, none⟩) 64 64, .slice a1 m1 cap1] [ip, x1] (ip ++ x1) hA1 (by simp) hr (by rw [List.length_append, HXO.out]; omega) (by simp))
        have HFL := hide (shaL_length (ip ++ x1))
        have HFC := hide (shaC_length (ip ++ x1))
        have HMR := hide (fun W (hR : Run w W) PA (hrow : Rds W PA 1 [.slice a1 m1 cap1]) => mac_now w W a0 m0 cap0 x0 PA 1 1 [.slice a1 m1 cap1] [x1] x1 (HR0.out.below hR.below) hc0 (by omega) hrow (.cons (prt_old HR1.out HX1.out hc1 hR.below) .nil) (by simp) hR (by omega) (by simp))
        rw [HMD.out] at HMR
        clear hA1 h1
        obtain ⟨fs, hfs⟩ : ∃ fs, fs = shaL (ip ++ x1) := ⟨_, rfl⟩
        rw [← hfs] at HFL HFC HS1 HMR
        clear hfs
        go_wp2_with fail
        refine HS1.out.mono ?_
        rintro e w15 ⟨rfl, F15, R15⟩
        have B15 := h2.frm F15 (fun h => h)
        clear h2 hr F15 HS1
        go_wp2_with (first
          | ((with_reducible refine wpl_alloca (op := ⟨some 11, _, _, _, _, _⟩) rfl _ rfl _ zero32 ?_); intro g11 w16 hB16 hs16 hF16)
          | ((with_reducible refine wpl_storea agg32 rfl (.tmp 11) (.tmp 75) rfl g11 (cellsB fs) rfl rfl _ _ hB16 HFC.out zero32_size (cellsB_one _) ?_); intro w17 hB17 hF17))
        have hg11 : w.heap.size ≤ g11 := by have := R15.size; omega
        have hn911 : g9 ≠ g11 := by have := B15.lt; omega
        have FF : Frm (fun j => j = g11) w15 w17.drew := ((hF16.mono (T := fun j => j = g11) (fun _ _ h => h.elim)).trans hF17 (fun _ _ h => h)).drew
        have T0 := B15.frm FF hn911
        have X0 : Blk w17.drew g11 25 (cellsB fs).toArray := hB17
        have R0 := R15.frm FF (fun j hj => by omega)
        have hsl32 := sl32
        have q1 := eq_same (shaL (op ++ fs)) (shaL_length _)
        have hgd := guard32
        have HSM := hide (fun W (hR : Run w W) PA (hT : Blk W g9 5 (cellsB op).toArray) (hX : Blk W g11 25 (cellsB fs).toArray) (hrow : Rds W PA 2 [.slice (some ⟨g9, 0, none⟩) 64 64, .slice (some ⟨g11, 0, none⟩) 32 32]) => sums_now w W PA 2 2 [.slice (some ⟨g9, 0, none⟩) 64 64, .slice (some ⟨g11, 0, none⟩) 32 32] [op, fs] (op ++ fs) hrow (.cons ⟨_, _, by rw [HXT.out], by rw [HXT.out]; exact Nat.le_refl _, by have := hT.rds; rw [cellsB_length] at this; exact this⟩ (.cons ⟨_, _, by rw [HFL.out], by rw [HFL.out]; exact Nat.le_refl _, by have := hX.rds; rw [cellsB_length] at this; exact this⟩ .nil)) (by simp) hR (by rw [List.length_append, HXT.out, HFL.out]; omega) (by simp))
        obtain ⟨ans, hans⟩ : ∃ ans, ans = shaL (op ++ fs) := ⟨_, rfl⟩
        rw [← hans] at q1 HSM HMR
        clear hans hB16 hF16 hB17 hF17 FF B15 R15
        refine wp_region_held_drew (S := fun _ => True) (by kernel_rfl) (True.intro) ?_
        intro hHeld
        obtain ⟨W0, hW0⟩ : ∃ W', W' = w17.drew := ⟨_, rfl⟩
        rw [← hW0] at T0 X0 R0 ⊢
        clear hW0
        refine wpAnyH_take (i := 0) (v := ?v16) rfl (by kernel_rfl) (by kernel_rfl) (by kernel_rfl) (fun _ _ _ h => h) (Or.inl ⟨by rfl, ?hy16⟩) (by assumption) ?rest16
        case hy16 => (intro w hSw; (try dsimp only at hSw); go_simp; try with_reducible rfl)
        try simp only [Act.put, List.getElem_toArray, List.getElem_cons_zero, List.setIfInBounds_toArray, List.set_cons_zero, List.set_cons_succ]
        refine wpAnyH_take (i := 1) (v := ?v17) rfl (by kernel_rfl) (by kernel_rfl) (by kernel_rfl) (fun _ _ _ h => h) (Or.inl ⟨by rfl, ?hy17⟩) (by assumption) ?rest17
        case hy17 => (intro w hSw; (try dsimp only at hSw); go_simp; try with_reducible rfl)
        try simp only [Act.put, List.getElem_toArray, List.getElem_cons_zero, List.getElem_cons_succ, List.setIfInBounds_toArray, List.set_cons_zero, List.set_cons_succ]
        refine wpAnyH_take (i := 2) (v := ?v18) rfl (by kernel_rfl) (by kernel_rfl) (by kernel_rfl) (fun _ _ _ h => h) (Or.inl ⟨by rfl, ?hy18⟩) (by assumption) ?rest18
        case hy18 => (intro w hSw; (try dsimp only at hSw); go_simp; try with_reducible rfl)
        try simp only [Act.put, List.getElem_toArray, List.getElem_cons_zero, List.getElem_cons_succ, List.setIfInBounds_toArray, List.set_cons_zero, List.set_cons_succ]
        refine wpAnyH_take (i := 3) (v := ?v19) rfl (by kernel_rfl) (by kernel_rfl) (by kernel_rfl) (fun _ _ _ h => h) (Or.inl ⟨by rfl, ?hy19⟩) (by assumption) ?rest19
        case hy19 => (intro w hSw; (try dsimp only at hSw); go_simp; try with_reducible rfl)
        try simp only [Act.put, List.getElem_toArray, List.getElem_cons_zero, List.getElem_cons_succ, List.setIfInBounds_toArray, List.set_cons_zero, List.set_cons_succ]
        refine wpAnyH_take (i := 6) (v := ?v20) rfl (by kernel_rfl) (by kernel_rfl) (by kernel_rfl) (fun _ _ _ h => h) (Or.inl ⟨by rfl, ?hy20⟩) (by assumption) ?rest20
        case hy20 => (intro w hSw; (try dsimp only at hSw); go_simp; try with_reducible rfl)
        try simp only [Act.put, List.getElem_toArray, List.getElem_cons_zero, List.getElem_cons_succ, List.setIfInBounds_toArray, List.set_cons_zero, List.set_cons_succ]
        refine wpAnyH_take (i := 7) (v := ?v21) rfl (by kernel_rfl) (by kernel_rfl) (by kernel_rfl) (fun _ _ _ h => h) (Or.inl ⟨by rfl, ?hy21⟩) (by assumption) ?rest21
        case hy21 => (intro w hSw; (try dsimp only at hSw); go_simp; try with_reducible rfl)
        try simp only [Act.put, List.getElem_toArray, List.getElem_cons_zero, List.getElem_cons_succ, List.setIfInBounds_toArray, List.set_cons_zero, List.set_cons_succ]
        refine wpAnyH_ready (rs := [4, 8]) (by kernel_rfl) (by simp) ?_
        refine AllReadyH.cons rfl (fun K hK => ?_) ?_
        · go_simp
          have F1 : Frm (fun _ => False) W0 (W0.alloc (.cells #[.slice a1 m1 cap1] 24)) := Frm.alloc _ _ _
          have Q1 := alloc_rds W0 [.slice a1 m1 cap1] 24 (0, 0)
          obtain ⟨W1, hW1⟩ : ∃ W', W' = W0.alloc (.cells #[.slice a1 m1 cap1] 24) := ⟨_, rfl⟩
          rw [show W0.alloc (.cells [.slice a1 m1 cap1].toArray 24) = W1 from hW1.symm] at Q1
          rw [← hW1] at F1 ⊢
          clear hW1
          obtain ⟨gQ, hgQ⟩ : ∃ g', g' = W0.heap.size := ⟨_, rfl⟩
          rw [← hgQ] at Q1 ⊢
          clear hgQ
          have T1 := T0.frm F1 (fun h => h)
          have X1 := X0.frm F1 (fun h => h)
          have R1 := R0.frm F1 (fun _ h => h.elim)
          refine hK.out _ _ (True.intro) (fun hHeld => ?_)
          clear hK K
          refine wpAnyH_ready (rs := [5, 8]) (by kernel_rfl) (by simp) ?_
          refine AllReadyH.cons rfl (fun K hK => ?_) ?_
          · go_simp
            refine (HMR.out _ R1 (some ⟨gQ, 0, none⟩) Q1).mono ?_
            rintro e W2 ⟨rfl, F2, _⟩
            have T2 := T1.frm F2 (fun h => h)
            have X2 := X1.frm F2 (fun h => h)
            have R2 := R1.frm F2 (fun _ h => h.elim)
            refine hK.out _ _ (True.intro) (fun hHeld => ?_)
            clear hK K
            refine wpAnyH_ready (rs := [8]) (by kernel_rfl) (by simp) ?_
            refine AllReadyH.cons rfl (fun K hK => ?_) AllReadyH.nil
            go_simp
            have F3 : Frm (fun _ => False) W2 (W2.alloc (.cells #[.slice (some ⟨g9, 0, none⟩) 64 64, .slice (some ⟨g11, 0, none⟩) 32 32] 24)) := Frm.alloc _ _ _
            have P3 := alloc_rds W2 [.slice (some ⟨g9, 0, none⟩) 64 64, .slice (some ⟨g11, 0, none⟩) 32 32] 24 (0, 0)
            obtain ⟨W3, hW3⟩ : ∃ W', W' = W2.alloc (.cells #[.slice (some ⟨g9, 0, none⟩) 64 64, .slice (some ⟨g11, 0, none⟩) 32 32] 24) := ⟨_, rfl⟩
            rw [show W2.alloc (.cells [.slice (some ⟨g9, 0, none⟩) 64 64, .slice (some ⟨g11, 0, none⟩) 32 32].toArray 24) = W3 from hW3.symm] at P3
            rw [← hW3] at F3 ⊢
            clear hW3
            obtain ⟨gP, hgP⟩ : ∃ g', g' = W2.heap.size := ⟨_, rfl⟩
            rw [← hgP] at P3 ⊢
            clear hgP
            have T3 := T2.frm F3 (fun h => h)
            have X3 := X2.frm F3 (fun h => h)
            have R3 := R2.frm F3 (fun _ h => h.elim)
            refine hK.out _ _ (True.intro) (fun hHeld => ?_)
            clear hK K
            refine wpAnyH_ready (rs := [9]) (by kernel_rfl) (by simp) ?_
            refine AllReadyH.cons rfl (fun K hK => ?_) AllReadyH.nil
            go_simp
            refine (HSM.out _ R3 (some ⟨gP, 0, none⟩) T3 X3 P3).mono ?_
            rintro e W4 ⟨rfl, F4, _⟩
            have T4 := T3.frm F4 (fun h => h)
            have X4 := X3.frm F4 (fun h => h)
            have R4 := R3.frm F4 (fun _ h => h.elim)
            refine hK.out _ _ (True.intro) (fun hHeld => ?_)
            clear hK K
            refine wpAnyH_take (i := 10) (v := ?v22) rfl (by kernel_rfl) (by kernel_rfl) (by kernel_rfl) (fun _ _ _ h => h) (Or.inl ⟨by rfl, ?hy22⟩) (by assumption) ?rest22
            case hy22 => (intro w hSw; (try dsimp only at hSw); go_simp; try with_reducible rfl)
            try simp only [Act.put, List.getElem_toArray, List.getElem_cons_zero, List.getElem_cons_succ, List.setIfInBounds_toArray, List.set_cons_zero, List.set_cons_succ]
            refine wpAnyH_take (i := 11) (v := ?v23) rfl (by kernel_rfl) (by kernel_rfl) (by kernel_rfl) (fun _ _ _ h => h) (Or.inl ⟨by rfl, ?hy23⟩) (by assumption) ?rest23
            case hy23 => (intro w hSw; (try dsimp only at hSw); go_simp; try with_reducible rfl)
            try simp only [Act.put, List.getElem_toArray, List.getElem_cons_zero, List.getElem_cons_succ, List.setIfInBounds_toArray, List.set_cons_zero, List.set_cons_succ]
            refine wpAnyH_take (i := 12) (v := ?v24) rfl (by kernel_rfl) (by kernel_rfl) (by kernel_rfl) (fun _ _ _ h => h) (Or.inl ⟨by rfl, ?hy24⟩) (by assumption) ?rest24
            case hy24 => (intro w hSw; (try dsimp only at hSw); go_simp; try with_reducible rfl)
            try simp only [Act.put, List.getElem_toArray, List.getElem_cons_zero, List.getElem_cons_succ, List.setIfInBounds_toArray, List.set_cons_zero, List.set_cons_succ]
            refine wpAnyH_done (by kernel_rfl) ?_ _
            go_wp2
            go_ret
            exact ⟨rfl, R4.below⟩
          refine AllReadyH.cons rfl (fun K hK => ?_) AllReadyH.nil
          go_simp
          have F2 : Frm (fun _ => False) W1 (W1.alloc (.cells #[.slice (some ⟨g9, 0, none⟩) 64 64, .slice (some ⟨g11, 0, none⟩) 32 32] 24)) := Frm.alloc _ _ _
          have P2 := alloc_rds W1 [.slice (some ⟨g9, 0, none⟩) 64 64, .slice (some ⟨g11, 0, none⟩) 32 32] 24 (0, 0)
          obtain ⟨W2, hW2⟩ : ∃ W', W' = W1.alloc (.cells #[.slice (some ⟨g9, 0, none⟩) 64 64, .slice (some ⟨g11, 0, none⟩) 32 32] 24) := ⟨_, rfl⟩
          rw [show W1.alloc (.cells [.slice (some ⟨g9, 0, none⟩) 64 64, .slice (some ⟨g11, 0, none⟩) 32 32].toArray 24) = W2 from hW2.symm] at P2
          rw [← hW2] at F2 ⊢
          clear hW2
          obtain ⟨gP, hgP⟩ : ∃ g', g' = W1.heap.size := ⟨_, rfl⟩
          rw [← hgP] at P2 ⊢
          clear hgP
          have T2 := T1.frm F2 (fun h => h)
          have X2 := X1.frm F2 (fun h => h)
          have R2 := R1.frm F2 (fun _ h => h.elim)
          have Q2 := Q1.frm F2 (fun _ _ _ h => h)
          refine hK.out _ _ (True.intro) (fun hHeld => ?_)
          clear hK K
          refine wpAnyH_ready (rs := [5]) (by kernel_rfl) (by simp) ?_
          refine AllReadyH.cons rfl (fun K hK => ?_) AllReadyH.nil
          go_simp
          refine (HMR.out _ R2 (some ⟨gQ, 0, none⟩) Q2).mono ?_
          rintro e W3 ⟨rfl, F3, _⟩
          have T3 := T2.frm F3 (fun h => h)
          have X3 := X2.frm F3 (fun h => h)
          have R3 := R2.frm F3 (fun _ h => h.elim)
          have P3 := P2.frm F3 (fun _ _ _ h => h)
          refine hK.out _ _ (True.intro) (fun hHeld => ?_)
          clear hK K
          refine wpAnyH_ready (rs := [9]) (by kernel_rfl) (by simp) ?_
          refine AllReadyH.cons rfl (fun K hK => ?_) AllReadyH.nil
          go_simp
          refine (HSM.out _ R3 (some ⟨gP, 0, none⟩) T3 X3 P3).mono ?_
          rintro e W4 ⟨rfl, F4, _⟩
          have T4 := T3.frm F4 (fun h => h)
          have X4 := X3.frm F4 (fun h => h)
          have R4 := R3.frm F4 (fun _ h => h.elim)
          refine hK.out _ _ (True.intro) (fun hHeld => ?_)
          clear hK K
          refine wpAnyH_take (i := 10) (v := ?v25) rfl (by kernel_rfl) (by kernel_rfl) (by kernel_rfl) (fun _ _ _ h => h) (Or.inl ⟨by rfl, ?hy25⟩) (by assumption) ?rest25
          case hy25 => (intro w hSw; (try dsimp only at hSw); go_simp; try with_reducible rfl)
          try simp only [Act.put, List.getElem_toArray, List.getElem_cons_zero, List.getElem_cons_succ, List.setIfInBounds_toArray, List.set_cons_zero, List.set_cons_succ]
          refine wpAnyH_take (i := 11) (v := ?v26) rfl (by kernel_rfl) (by kernel_rfl) (by kernel_rfl) (fun _ _ _ h => h) (Or.inl ⟨by rfl, ?hy26⟩) (by assumption) ?rest26
          case hy26 => (intro w hSw; (try dsimp only at hSw); go_simp; try with_reducible rfl)
          try simp only [Act.put, List.getElem_toArray, List.getElem_cons_zero, List.getElem_cons_succ, List.setIfInBounds_toArray, List.set_cons_zero, List.set_cons_succ]
          refine wpAnyH_take (i := 12) (v := ?v27) rfl (by kernel_rfl) (by kernel_rfl) (by kernel_rfl) (fun _ _ _ h => h) (Or.inl ⟨by rfl, ?hy27⟩) (by assumption) ?rest27
          case hy27 => (intro w hSw; (try dsimp only at hSw); go_simp; try with_reducible rfl)
          try simp only [Act.put, List.getElem_toArray, List.getElem_cons_zero, List.getElem_cons_succ, List.setIfInBounds_toArray, List.set_cons_zero, List.set_cons_succ]
          refine wpAnyH_done (by kernel_rfl) ?_ _
          go_wp2
          go_ret
          exact ⟨rfl, R4.below⟩
        refine AllReadyH.cons rfl (fun K hK => ?_) AllReadyH.nil
        go_simp
        have F1 : Frm (fun _ => False) W0 (W0.alloc (.cells #[.slice (some ⟨g9, 0, none⟩) 64 64, .slice (some ⟨g11, 0, none⟩) 32 32] 24)) := Frm.alloc _ _ _
        have P1 := alloc_rds W0 [.slice (some ⟨g9, 0, none⟩) 64 64, .slice (some ⟨g11, 0, none⟩) 32 32] 24 (0, 0)
        obtain ⟨W1, hW1⟩ : ∃ W', W' = W0.alloc (.cells #[.slice (some ⟨g9, 0, none⟩) 64 64, .slice (some ⟨g11, 0, none⟩) 32 32] 24) := ⟨_, rfl⟩
        rw [show W0.alloc (.cells [.slice (some ⟨g9, 0, none⟩) 64 64, .slice (some ⟨g11, 0, none⟩) 32 32].toArray 24) = W1 from hW1.symm] at P1
        rw [← hW1] at F1 ⊢
        clear hW1
        obtain ⟨gP, hgP⟩ : ∃ g', g' = W0.heap.size := ⟨_, rfl⟩
        rw [← hgP] at P1 ⊢
        clear hgP
        have T1 := T0.frm F1 (fun h => h)
        have X1 := X0.frm F1 (fun h => h)
        have R1 := R0.frm F1 (fun _ h => h.elim)
        refine hK.out _ _ (True.intro) (fun hHeld => ?_)
        clear hK K
        refine wpAnyH_ready (rs := [4]) (by kernel_rfl) (by simp) ?_
        refine AllReadyH.cons rfl (fun K hK => ?_) AllReadyH.nil
        go_simp
        have F2 : Frm (fun _ => False) W1 (W1.alloc (.cells #[.slice a1 m1 cap1] 24)) := Frm.alloc _ _ _
        have Q2 := alloc_rds W1 [.slice a1 m1 cap1] 24 (0, 0)
        obtain ⟨W2, hW2⟩ : ∃ W', W' = W1.alloc (.cells #[.slice a1 m1 cap1] 24) := ⟨_, rfl⟩
        rw [show W1.alloc (.cells [.slice a1 m1 cap1].toArray 24) = W2 from hW2.symm] at Q2
        rw [← hW2] at F2 ⊢
        clear hW2
        obtain ⟨gQ, hgQ⟩ : ∃ g', g' = W1.heap.size := ⟨_, rfl⟩
        rw [← hgQ] at Q2 ⊢
        clear hgQ
        have T2 := T1.frm F2 (fun h => h)
        have X2 := X1.frm F2 (fun h => h)
        have R2 := R1.frm F2 (fun _ h => h.elim)
        have P2 := P1.frm F2 (fun _ _ _ h => h)
        refine hK.out _ _ (True.intro) (fun hHeld => ?_)
        clear hK K
        refine wpAnyH_ready (rs := [5]) (by kernel_rfl) (by simp) ?_
        refine AllReadyH.cons rfl (fun K hK => ?_) AllReadyH.nil
        go_simp
        refine (HMR.out _ R2 (some ⟨gQ, 0, none⟩) Q2).mono ?_
        rintro e W3 ⟨rfl, F3, _⟩
        have T3 := T2.frm F3 (fun h => h)
        have X3 := X2.frm F3 (fun h => h)
        have R3 := R2.frm F3 (fun _ h => h.elim)
        have P3 := P2.frm F3 (fun _ _ _ h => h)
        refine hK.out _ _ (True.intro) (fun hHeld => ?_)
        clear hK K
        refine wpAnyH_ready (rs := [9]) (by kernel_rfl) (by simp) ?_
        refine AllReadyH.cons rfl (fun K hK => ?_) AllReadyH.nil
        go_simp
        refine (HSM.out _ R3 (some ⟨gP, 0, none⟩) T3 X3 P3).mono ?_
        rintro e W4 ⟨rfl, F4, _⟩
        have T4 := T3.frm F4 (fun h => h)
        have X4 := X3.frm F4 (fun h => h)
        have R4 := R3.frm F4 (fun _ h => h.elim)
        refine hK.out _ _ (True.intro) (fun hHeld => ?_)
        clear hK K
        refine wpAnyH_take (i := 10) (v := ?v28) rfl (by kernel_rfl) (by kernel_rfl) (by kernel_rfl) (fun _ _ _ h => h) (Or.inl ⟨by rfl, ?hy28⟩) (by assumption) ?rest28
        case hy28 => (intro w hSw; (try dsimp only at hSw); go_simp; try with_reducible rfl)
        try simp only [Act.put, List.getElem_toArray, List.getElem_cons_zero, List.getElem_cons_succ, List.setIfInBounds_toArray, List.set_cons_zero, List.set_cons_succ]
        refine wpAnyH_take (i := 11) (v := ?v29) rfl (by kernel_rfl) (by kernel_rfl) (by kernel_rfl) (fun _ _ _ h => h) (Or.inl ⟨by rfl, ?hy29⟩) (by assumption) ?rest29
        case hy29 => (intro w hSw; (try dsimp only at hSw); go_simp; try with_reducible rfl)
        try simp only [Act.put, List.getElem_toArray, List.getElem_cons_zero, List.getElem_cons_succ, List.setIfInBounds_toArray, List.set_cons_zero, List.set_cons_succ]
        refine wpAnyH_take (i := 12) (v := ?v30) rfl (by kernel_rfl) (by kernel_rfl) (by kernel_rfl) (fun _ _ _ h => h) (Or.inl ⟨by rfl, ?hy30⟩) (by assumption) ?rest30
        case hy30 => (intro w hSw; (try dsimp only at hSw); go_simp; try with_reducible rfl)
        try simp only [Act.put, List.getElem_toArray, List.getElem_cons_zero, List.getElem_cons_succ, List.setIfInBounds_toArray, List.set_cons_zero, List.set_cons_succ]
        refine wpAnyH_done (by kernel_rfl) ?_ _
        go_wp2
        go_ret
        exact ⟨rfl, R4.below⟩
end Go.Proofs.YtbicjcpdcopbhaaDoor
