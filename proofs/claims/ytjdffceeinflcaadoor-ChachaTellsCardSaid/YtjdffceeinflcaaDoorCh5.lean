/-
  chacha: a block.
-/
import Derived.Test.YtjdffceeinflcaaDoorCh4
namespace Go.Proofs.YtjdffceeinflcaaDoor
set_option linter.unusedVariables false
open Go.RowKit

def outC (ws : List Nat) (k : Nat) : List UInt8 := (ws.take k).flatMap le4 ++ List.replicate (64 - 4 * k) 0
theorem outC_length (ws : List Nat) (k : Nat) (h : ws.length = 16) (hk : k ≤ 16) : (outC ws k).length = 64 := by
  rw [outC, List.length_append, flatle_length, List.length_take, List.length_replicate]
  omega
theorem outC_step (ws : List Nat) (k : Nat) (h : ws.length = 16) (hk : k < 16) : splice (cellsB (outC ws k)) (4 * k) (cellsB (le4 (ws.getD k 0))) = cellsB (outC ws (k + 1)) := by
  have h1 : outC ws k = (ws.take k).flatMap le4 ++ (List.replicate 4 0 ++ List.replicate (64 - 4 * (k + 1)) 0) := by
    rw [outC, List.replicate_append_replicate]
    congr 2
    omega
  rw [h1, cellsB_append, cellsB_append, splice_mid _ _ _ _ _ (by rw [cellsB_length, flatle_length, List.length_take]; omega) (by rw [cellsB_length, cellsB_length, le4_length]; rfl), ← cellsB_append, ← cellsB_append]
  congr 1
  have h2 : ws[k]? = some (ws.getD k 0) := by rw [List.getD_eq_getElem?_getD, List.getElem?_eq_getElem (by omega)]; rfl
  rw [outC, List.take_add_one, h2, List.flatMap_append]
  simp
theorem outC_all (ws : List Nat) (h : ws.length = 16) : outC ws 16 = ws.flatMap le4 := by
  rw [outC, List.take_of_length_le (by omega)]
  simp
theorem chaL_eq (key : List UInt8) (ctr : Nat) (nonce : List UInt8) : chaL key ctr nonce = (plus (mixL (chaWords (chaAll key ctr nonce)) 10) (chaWords (chaAll key ctr nonce))).flatMap le4 := by
  rw [chaL, plus, mixL_eq _ (chaWords_length _)]

structure BlockInv (w : World) (g6 g7 g9 : Nat) (S : List Nat) (l : List UInt8) (wr : World) : Prop where
  out : Blk wr g9 27 (cellsB l).toArray
  res : Blk wr g6 27 (cellsB (List.replicate 64 0)).toArray
  was : Blk wr g7 42 (cellsW S).toArray
  below : Below w.heap.size w wr

set_option maxHeartbeats 4000000 in
theorem block_any (key nonce : List UInt8) (ctr : Nat) (w : World) (hG : Gc w) (hg0 : 2 ≤ w.heap.size) (hk : key.length = 32) (hn : nonce.length = 12) (hc : ctr < 4294967296) :
    Calls Tryd.prog 11 #[.agg (cellsB key).toArray, .int .u32 (ctr : Int), .agg (cellsB nonce).toArray] w fun e w' => e = .returned (.agg (cellsB (chaL key ctr nonce)).toArray) ∧ Below w.heap.size w w' := by
  have hF0 : Frm (fun _ => False) w ((w.alloc (.cells (cellsB key).toArray 23)).alloc (.cells (cellsB nonce).toArray 25)) := Frm.two _ _ _
  have hBK := (Blk.new w 23 (cellsB key).toArray).frm (Frm.alloc (w.alloc (.cells (cellsB key).toArray 23)) (.cells (cellsB nonce).toArray 25) (fun _ => False)) (fun h => h)
  have hBN := Blk.new (w.alloc (.cells (cellsB key).toArray 23)) 25 (cellsB nonce).toArray
  rw [show (w.alloc (.cells (cellsB key).toArray 23)).heap.size = w.heap.size + 1 by simp] at hBN
  rw [chaL_eq]
  have HSL := hide (chaWords_length (chaAll key ctr nonce))
  have HSW := hide (chaWords_ws (chaAll key ctr nonce))
  have HSA := hide (fun w hG => start_any key nonce ctr w hG hk hn hc)
  have HKL : Hid ((cellsB key).length = 32) := by show _ = _; rw [cellsB_length, hk]
  have HNL : Hid ((cellsB nonce).length = 12) := by show _ = _; rw [cellsB_length, hn]
  generalize chaWords (chaAll key ctr nonce) = S at *
  have HML : Hid ((mixL S 10).length = 16) := by show _ = _; rw [mixL_length, HSL.out]
  have HMW : Hid (Ws (mixL S 10)) := mixL_ws HSW.out _
  have HMA := hide (fun w hG h2 => mixed_any S w hG HSL.out HSW.out h2)
  generalize mixL S 10 = M at *
  have HXK : Hid (((cellsB key).drop 0).take 32 = cellsB key) := by show _ = _; rw [List.drop_zero, List.take_of_length_le (by rw [HKL.out]; exact Nat.le_refl _)]
  have HXN : Hid (((cellsB nonce).drop 0).take 12 = cellsB nonce) := by show _ = _; rw [List.drop_zero, List.take_of_length_le (by rw [HNL.out]; exact Nat.le_refl _)]
  have HLS : Hid ((cellsW S).length = 16) := by show _ = _; rw [cellsW_length, HSL.out]
  have HLM : Hid ((cellsW M).length = 16) := by show _ = _; rw [cellsW_length, HML.out]
  have HXS : Hid (((cellsW S).drop 0).take 16 = cellsW S) := by show _ = _; rw [List.drop_zero, List.take_of_length_le (by rw [HLS.out]; exact Nat.le_refl _)]
  have HXM : Hid (((cellsW M).drop 0).take 16 = cellsW M) := by show _ = _; rw [List.drop_zero, List.take_of_length_le (by rw [HLM.out]; exact Nat.le_refl _)]
  have HZW : Hid ((cellsW (List.replicate 16 0)).toArray.size = 16) := rfl
  have HPL : Hid ((plus M S).length = 16) := by show _ = _; rw [plus_length _ _ (by rw [HML.out, HSL.out]), HML.out]
  have HPA : Hid (∀ k, k < 16 → (plus M S).getD k 0 = ad (M.getD k 0) (S.getD k 0)) := fun k hk => by
    rw [List.getD_eq_getElem?_getD, plus_at M S k (by rw [HML.out]; exact hk) (by rw [HSL.out]; exact hk)]; rfl
  have HIX : Hid (∀ (k : Nat), k < 16 → ∀ w, Sem.run Tryd.prog (Instr.index 42 (.agg (cellsW M).toArray) (.int .i64 (k : Int))) w = .ok (.int .u32 (M.getD k 0 : Nat)) w) := fun k hk w =>
    run_index_agg under16w underU32 sizeU32 (cellsW M) k _ hk (cellsW_at M k (by rw [HML.out]; exact hk)) w
  generalize hPP : plus M S = PP at *
  clear hPP
  clear hk hn hc
  go_enter Tryd.func11, Tryd.ntmps11
  go_wp2_with (first
    | ((with_reducible refine wpl_alloca (op := ⟨some 6, _, _, _, _, _⟩) rfl _ rfl _ zero64b ?_); intro g6 w1 hB1 hs1 hF1; have hF01 := hF0.trans hF1 (fun _ _ h => h); have hBK1 := hBK.frm hF1 (fun h => h); have hBN1 := hBN.frm hF1 (fun h => h))
    | (with_reducible refine wpl_loada (op := ⟨some 12, _, _, _, _, _⟩) aggK rfl _ rfl w.heap.size 0 rfl _ _ _ hBK1 HXK.out (by rw [HKL.out]; exact Nat.le_refl _) ?_)
    | (with_reducible refine wpl_loada (op := ⟨some 14, _, _, _, _, _⟩) agg12 rfl _ rfl (w.heap.size + 1) 0 rfl _ _ _ hBN1 HXN.out (by rw [HNL.out]; exact Nat.le_refl _) ?_))
  refine (HSA.out w1 (hG.frm0 hF01)).mono ?_
  rintro e w2 ⟨rfl, hb2⟩
  have hF2 : Frm (fun _ => False) w1 w2 := Frm.of_below hb2
  have hF02 := hF01.trans hF2 (fun _ _ h => h)
  have hB12 := hB1.frm hF2 (fun h => h)
  have hs6 : w.heap.size ≤ g6 := by have := hF0.size; omega
  clear hBK hBN hBK1 hBN1 hb2 hF2 hB1 HSA hF0 hF1 hs1 hF01
  go_wp2_with (first
    | ((with_reducible refine wpl_alloca (op := ⟨some 7, _, _, _, _, _⟩) rfl _ rfl _ zero16w ?_); intro g7 w3 hB3 hs3 hF3)
    | ((with_reducible refine wpl_storea agg16w rfl (.tmp 7) (.tmp 15) rfl g7 (cellsW S) rfl rfl _ _ hB3 HLS.out HZW.out (cellsW_one _) ?_); intro w4 hB4 hF4)
    | (with_reducible refine wpl_loada (op := ⟨some 16, _, _, _, _, _⟩) agg16w rfl _ rfl g7 0 rfl _ _ _ hB4 HXS.out (by rw [HLS.out]; exact Nat.le_refl _) ?_))
  have hs7 : w.heap.size ≤ g7 := by have := hF02.size; omega
  have hF04 : Frm (fun k => k = g7) w w4 := ((hF02.trans hF3 (fun _ _ h => h)).mono (T := fun k => k = g7) (fun _ _ h => h.elim)).trans hF4 (fun _ _ h => h)
  have hn67 : g6 ≠ g7 := by have := hB12.lt; omega
  have hB14 := (hB12.frm hF3 (fun h => h)).frm hF4 hn67
  have hG4 := hG.frm hF04 (by omega) (by omega)
  refine (HMA.out w4 hG4 (by have := hF04.size; omega)).mono ?_
  rintro e w5 ⟨rfl, hb5⟩
  have hF5 : Frm (fun _ => False) w4 w5 := Frm.of_below hb5
  have hB15 := hB14.frm hF5 (fun h => h)
  have hB75 := hB4.frm hF5 (fun h => h)
  have hF05 := hF04.trans hF5 (fun _ _ h => h.elim)
  clear hB14 hb5 hF5 hB4 hB3 hF3 hF4 HMA hG4 hF04 hB12 hF02 hs3 hG
  go_wp2_with (first
    | ((with_reducible refine wpl_alloca (op := ⟨some 8, _, _, _, _, _⟩) rfl _ rfl _ zero16w ?_); intro g8 w6 hB6 hs8 hF6)
    | ((with_reducible refine wpl_storea agg16w rfl (.tmp 8) (.tmp 17) rfl g8 (cellsW M) rfl rfl _ _ hB6 HLM.out HZW.out (cellsW_one _) ?_); intro w7 hB7 hF7)
    | ((with_reducible refine wpl_alloca (op := ⟨some 9, _, _, _, _, _⟩) rfl _ rfl _ zero64b ?_); intro g9 w8 hB8 hs9 hF8; have hB78 := hB7.frm hF8 (fun h => h))
    | (with_reducible refine wpl_loada (op := ⟨some 18, _, _, _, _, _⟩) agg16w rfl _ rfl g8 0 rfl _ _ _ hB78 HXM.out (by rw [HLM.out]; exact Nat.le_refl _) ?_))
  have hn68 : g6 ≠ g8 := by have := hB15.lt; omega
  have hn78 : g7 ≠ g8 := by have := hB75.lt; omega
  have hn69 : g6 ≠ g9 := by have := hB15.lt; have := hF6.size; have := hF7.size; omega
  have hn79 : g7 ≠ g9 := by have := hB75.lt; have := hF6.size; have := hF7.size; omega
  have hs89 : w.heap.size ≤ g8 := by have := hF05.size; omega
  have hs99 : w.heap.size ≤ g9 := by have := hF05.size; have := hF6.size; have := hF7.size; omega
  have hF08 : Frm (fun k => k = g7 ∨ k = g8) w w8 := (((hF05.mono (T := fun k => k = g7 ∨ k = g8) (fun _ _ h => .inl h)).trans hF6 (fun _ _ h => h.elim)).trans hF7 (fun _ _ h => .inr h)).trans hF8 (fun _ _ h => h.elim)
  have HST : Hid (BlockInv w g6 g7 g9 S (outC PP 0) w8) := by
    exact ⟨hB8, ((hB15.frm hF6 (fun h => h)).frm hF7 hn68).frm hF8 (fun h => h), ((hB75.frm hF6 (fun h => h)).frm hF7 hn78).frm hF8 (fun h => h), hF08.below (Nat.le_refl _) (fun k hk => by omega)⟩
  clear hB15 hB75 hF05 hB6 hF6 hB7 hF7 hB8 hF8 hB78 hF08 hs8 hs9
  go_loopw [19] (fun i wr => ∃ k : Nat, k ≤ 16 ∧ i = .int .i64 k ∧ BlockInv w g6 g7 g9 S (outC PP k) wr) (fun i _ => 16 - (intOf i).toNat)
  case atStart => exact ⟨0, by omega, rfl, HST.out⟩
  case round =>
    clear HST
    obtain ⟨k, hk, rfl, hi⟩ := hrel
    by_cases hlt : k < 16
    · have hidx := HIX.out k hlt
      have hstep := outC_step PP k HPL.out hlt
      rw [HPA.out k hlt] at hstep
      have hsl : ∀ w, Sem.run Tryd.prog (Instr.sliceAt 27 (.pointer (some ⟨g9, 0, none⟩)) (some (.int .i64 (4 * (k : Int)))) none none) w = .ok (.slice (some ⟨g9, 4 * k, none⟩) (64 - 4 * k) (64 - 4 * k)) w := fun w => by
        have := run_slice_arr (P := Tryd.prog) (t := 27) (e := 5) (N := 64) under64b size8 g9 0 .i64 (4 * k) (by omega) w
        simpa using this
      have HOL : Hid ((cellsB (outC PP k)).length = 64) := by show _ = _; rw [cellsB_length, outC_length PP k HPL.out hk]
      have hc1 : wr.cell? ⟨g7, k, none⟩ = some (.int .u32 ((S.getD k 0 : Nat) : Int)) := by rw [hi.was.cell, List.getElem?_toArray]; exact cellsW_at _ _ (by rw [HSL.out]; exact hlt)
      have hadd : IntKind.u32.wrap ((M.getD k 0 : Int) + (S.getD k 0 : Int)) = (ad (M.getD k 0) (S.getD k 0) : Nat) := by rw [IntKind.wrap_u32']; exact ad_int _ _
      have hw4 : IntKind.i64.wrap (4 * (k : Int)) = 4 * (k : Int) := IntWalk.i64_in _ (by omega)
      have hv := ad_lt (M.getD k 0) (S.getD k 0)
      have HSTP := hide hstep
      have HV := hide hv
      clear hstep hv
      generalize M.getD k 0 = x at *
      generalize S.getD k 0 = y at *
      generalize ad x y = z at *
      have FD : Frm (fun _ => False) wr wr.drew := (Frm.refl _ _).drew
      have HO : Hid (Blk wr.drew g9 27 (cellsB (outC PP k)).toArray) := hi.out.frm FD (fun h => h)
      have HI := hide hi
      clear hi
      go_wp2_with fail
      go_still_tail 8, (by kernel_rfl)
      change wpList _ _ _ _ _ wr.drew
      go_wp2_with fail
      refine (put_any g9 (4 * k) (64 - 4 * k) (64 - 4 * k) z _ _ wr.drew (by omega) (by omega) HV.out HO.out (by rw [HOL.out]; omega)).mono ?_
      rintro e w9 ⟨rfl, hB9, hF9⟩
      have FIN : Hid (BlockInv w g6 g7 g9 S (outC PP (k + 1)) w9) := by
        rw [HSTP.out] at hB9
        have f := (FD.mono (T := fun k => k = g9) (fun _ _ h => h.elim)).trans hF9 (fun _ _ h => h)
        exact ⟨hB9, HI.out.res.frm f hn69, HI.out.was.frm f hn79, below_frm HI.out.below f HI.out.below.size (fun k hk => by omega)⟩
      clear hB9 hF9
      go_wp2_with fail
      go_roundw
      case rel => first | exact ⟨k + 1, by omega, by go_num, FIN.out⟩ | ((repeat apply Exists.intro); exact ⟨⟨k + 1, by omega, by go_num, FIN.out⟩, rfl⟩)
      case measure => simp [intOf]; omega
    · obtain rfl : k = 16 := by omega
      rw [outC_all _ HPL.out] at hi
      have hb := hi.out
      have hres := hi.res
      have hbel := hi.below
      have HL : Hid ((cellsB (PP.flatMap le4)).length = 64) := by show _ = _; rw [cellsB_length, flatle_length, HPL.out]
      have HX : Hid (((cellsB (PP.flatMap le4)).drop 0).take 64 = cellsB (PP.flatMap le4)) := by show _ = _; rw [List.drop_zero, List.take_of_length_le (by rw [HL.out]; exact Nat.le_refl _)]
      clear hi
      obtain ⟨out, hout⟩ : ∃ out, out = PP.flatMap le4 := ⟨_, rfl⟩
      rw [← hout] at hb HL HX
      have HOUT := hide hout
      clear hout
      go_wp2_with (first
        | (with_reducible refine wpl_loada (op := ⟨some 33, _, _, _, _, _⟩) agg64b rfl _ rfl g9 0 rfl _ _ _ hb HX.out (by rw [HL.out]; exact Nat.le_refl _) ?_)
        | ((with_reducible refine wpl_storea agg64b rfl (.tmp 6) (.tmp 33) rfl g6 (cellsB out) rfl rfl _ _ hres HL.out rfl (cellsB_one _) ?_); intro w14 hB14 hF14))
      refine ret_agg agg64b rfl rfl g6 _ _ rfl hB14 HL.out ⟨by rw [HOUT.out], below_frm hbel hF14 hbel.size (by intro i hi; omega)⟩
end Go.Proofs.YtjdffceeinflcaaDoor
