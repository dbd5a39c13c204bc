/-
  Streams.
-/
import Derived.Test.YtoiiiflnnhkjbaaGreatDoorOChA
import Derived.Lib.SlBytesConst
namespace Go.Proofs.YtoiiiflnnhkjbaaGreatDoor
set_option linter.unusedVariables false
open Go.RowKit

def outC (ws : List Nat) (k : Nat) : List UInt8 := (ws.take k).flatMap le4 ++ List.replicate (64 - 4 * k) 0
theorem outC_length (ws : List Nat) (k : Nat) (h : ws.length = 16) (hk : k ≤ 16) : (outC ws k).length = 64 := by
  rw [outC, List.length_append, flatle_length, List.length_take, List.length_replicate]
  omega
theorem outC_step (ws : List Nat) (k : Nat) (h : ws.length = 16) (hk : k < 16) : splice (cellsB (outC ws k)) (4 * k) (cellsB (le4 (ws.getD k 0))) = cellsB (outC ws (k + 1)) := by
  have h1 : outC ws k = (ws.take k).flatMap le4 ++ (List.replicate 4 0 ++ List.replicate (64 - 4 * (k + 1)) 0) := by
    rw [outC, List.replicate_append_replicate]
    congr 2
    omega
  rw [h1, cellsB_append, cellsB_append, splice_mid _ _ _ _ _ (by rw [cellsB_length, flatle_length, List.length_take]; omega) (by rw [cellsB_length, cellsB_length, le4_length]; rfl), ← cellsB_append, ← cellsB_append]
  congr 1
  have h2 : ws[k]? = some (ws.getD k 0) := by rw [List.getD_eq_getElem?_getD, List.getElem?_eq_getElem (by omega)]; rfl
  rw [outC, List.take_add_one, h2, List.flatMap_append]
  simp
theorem outC_all (ws : List Nat) (h : ws.length = 16) : outC ws 16 = ws.flatMap le4 := by
  rw [outC, List.take_of_length_le (by omega)]
  simp
theorem chaL_eq (key : List UInt8) (ctr : Nat) (nonce : List UInt8) : chaL key ctr nonce = (plus (mixL (chaWords (chaAll key ctr nonce)) 10) (chaWords (chaAll key ctr nonce))).flatMap le4 := by
  rw [chaL, plus, mixL_eq _ (chaWords_length _)]
structure BlockInv (w : World) (g6 g7 g9 : Nat) (S : List Nat) (l : List UInt8) (wr : World) : Prop where
  out : Blk wr g9 84 (cellsB l).toArray
  res : Blk wr g6 84 (cellsB (List.replicate 64 0)).toArray
  was : Blk wr g7 160 (cellsW S).toArray
  below : Below w.heap.size w wr
set_option maxRecDepth 100000 in
set_option maxHeartbeats 4000000 in
theorem block_any (key nonce : List UInt8) (ctr : Nat) (w : World) (hG : Gc w) (hg0 : 4 ≤ w.heap.size) (hk : key.length = 32) (hn : nonce.length = 12) (hc : ctr < 4294967296) :
    Calls Tryz.prog 69 #[.agg (cellsB key).toArray, .int .u32 (ctr : Int), .agg (cellsB nonce).toArray] w fun e w' => e = .returned (.agg (cellsB (chaL key ctr nonce)).toArray) ∧ Below w.heap.size w w' := by
  have hF0 : Frm (fun _ => False) w ((w.alloc (.cells (cellsB key).toArray 26)).alloc (.cells (cellsB nonce).toArray 103)) := Frm.two _ _ _
  have hBK := (Blk.new w 26 (cellsB key).toArray).frm (Frm.alloc (w.alloc (.cells (cellsB key).toArray 26)) (.cells (cellsB nonce).toArray 103) (fun _ => False)) (fun h => h)
  have hBN := Blk.new (w.alloc (.cells (cellsB key).toArray 26)) 103 (cellsB nonce).toArray
  rw [show (w.alloc (.cells (cellsB key).toArray 26)).heap.size = w.heap.size + 1 by simp] at hBN
  rw [chaL_eq]
  have HSL := hide (chaWords_length (chaAll key ctr nonce))
  have HSW := hide (chaWords_ws (chaAll key ctr nonce))
  have HSA := hide (fun w hG => start_any key nonce ctr w hG hk hn hc)
  have HKL : Hid ((cellsB key).length = 32) := by show _ = _; rw [cellsB_length, hk]
  have HNL : Hid ((cellsB nonce).length = 12) := by show _ = _; rw [cellsB_length, hn]
  generalize chaWords (chaAll key ctr nonce) = S at *
  have HML : Hid ((mixL S 10).length = 16) := by show _ = _; rw [mixL_length, HSL.out]
  have HMW : Hid (Ws (mixL S 10)) := mixL_ws HSW.out _
  have HMA := hide (fun w hG h2 => mixed_any S w hG HSL.out HSW.out h2)
  generalize mixL S 10 = M at *
  have HXK : Hid (((cellsB key).drop 0).take 32 = cellsB key) := by show _ = _; rw [List.drop_zero, List.take_of_length_le (by rw [HKL.out]; exact Nat.le_refl _)]
  have HXN : Hid (((cellsB nonce).drop 0).take 12 = cellsB nonce) := by show _ = _; rw [List.drop_zero, List.take_of_length_le (by rw [HNL.out]; exact Nat.le_refl _)]
  have HLS : Hid ((cellsW S).length = 16) := by show _ = _; rw [cellsW_length, HSL.out]
  have HLM : Hid ((cellsW M).length = 16) := by show _ = _; rw [cellsW_length, HML.out]
  have HXS : Hid (((cellsW S).drop 0).take 16 = cellsW S) := by show _ = _; rw [List.drop_zero, List.take_of_length_le (by rw [HLS.out]; exact Nat.le_refl _)]
  have HXM : Hid (((cellsW M).drop 0).take 16 = cellsW M) := by show _ = _; rw [List.drop_zero, List.take_of_length_le (by rw [HLM.out]; exact Nat.le_refl _)]
  have HZW : Hid ((cellsW (List.replicate 16 0)).toArray.size = 16) := rfl
  have HPL : Hid ((plus M S).length = 16) := by show _ = _; rw [plus_length _ _ (by rw [HML.out, HSL.out]), HML.out]
  have HPA : Hid (∀ k, k < 16 → (plus M S).getD k 0 = ad (M.getD k 0) (S.getD k 0)) := fun k hk => by
    rw [List.getD_eq_getElem?_getD, plus_at M S k (by rw [HML.out]; exact hk) (by rw [HSL.out]; exact hk)]; rfl
  have HIX : Hid (∀ (k : Nat), k < 16 → ∀ w, Sem.run Tryz.prog (Instr.index 160 (.agg (cellsW M).toArray) (.int .i64 (k : Int))) w = .ok (.int .u32 (M.getD k 0 : Nat)) w) := fun k hk w =>
    run_index_agg under16w underU32 sizeU32 (cellsW M) k _ hk (cellsW_at M k (by rw [HML.out]; exact hk)) w
  generalize hPP : plus M S = PP at *
  clear hPP
  clear hk hn hc
  go_enter Tryz.func69, Tryz.ntmps69
  go_wp2_with (first
    | ((with_reducible refine wpl_alloca (op := ⟨some 6, _, _, _, _, _⟩) rfl _ rfl _ zero64b ?_); intro g6 w1 hB1 hs1 hF1; have hF01 := hF0.trans hF1 (fun _ _ h => h); have hBK1 := hBK.frm hF1 (fun h => h); have hBN1 := hBN.frm hF1 (fun h => h))
    | (with_reducible refine wpl_loada (op := ⟨some 12, _, _, _, _, _⟩) aggK rfl _ rfl w.heap.size 0 rfl _ _ _ hBK1 HXK.out (by rw [HKL.out]; exact Nat.le_refl _) ?_)
    | (with_reducible refine wpl_loada (op := ⟨some 14, _, _, _, _, _⟩) agg12 rfl _ rfl (w.heap.size + 1) 0 rfl _ _ _ hBN1 HXN.out (by rw [HNL.out]; exact Nat.le_refl _) ?_))
  refine (HSA.out w1 (hG.frm0 hF01)).mono ?_
  rintro e w2 ⟨rfl, hb2⟩
  have hF2 : Frm (fun _ => False) w1 w2 := Frm.of_below hb2
  have hF02 := hF01.trans hF2 (fun _ _ h => h)
  have hB12 := hB1.frm hF2 (fun h => h)
  have hs6 : w.heap.size ≤ g6 := by have := hF0.size; omega
  clear hBK hBN hBK1 hBN1 hb2 hF2 hB1 HSA hF0 hF1 hs1 hF01
  go_wp2_with (first
    | ((with_reducible refine wpl_alloca (op := ⟨some 7, _, _, _, _, _⟩) rfl _ rfl _ zero16w ?_); intro g7 w3 hB3 hs3 hF3)
    | ((with_reducible refine wpl_storea agg16w rfl (.tmp 7) (.tmp 15) rfl g7 (cellsW S) rfl rfl _ _ hB3 HLS.out HZW.out (cellsW_one _) ?_); intro w4 hB4 hF4)
    | (with_reducible refine wpl_loada (op := ⟨some 16, _, _, _, _, _⟩) agg16w rfl _ rfl g7 0 rfl _ _ _ hB4 HXS.out (by rw [HLS.out]; exact Nat.le_refl _) ?_))
  have hs7 : w.heap.size ≤ g7 := by have := hF02.size; omega
  have hF04 : Frm (fun k => k = g7) w w4 := ((hF02.trans hF3 (fun _ _ h => h)).mono (T := fun k => k = g7) (fun _ _ h => h.elim)).trans hF4 (fun _ _ h => h)
  have hn67 : g6 ≠ g7 := by have := hB12.lt; omega
  have hB14 := (hB12.frm hF3 (fun h => h)).frm hF4 hn67
  have hG4 := hG.frm hF04 (by omega) (by omega)
  refine (HMA.out w4 hG4 (by have := hF04.size; omega)).mono ?_
  rintro e w5 ⟨rfl, hb5⟩
  have hF5 : Frm (fun _ => False) w4 w5 := Frm.of_below hb5
  have hB15 := hB14.frm hF5 (fun h => h)
  have hB75 := hB4.frm hF5 (fun h => h)
  have hF05 := hF04.trans hF5 (fun _ _ h => h.elim)
  clear hB14 hb5 hF5 hB4 hB3 hF3 hF4 HMA hG4 hF04 hB12 hF02 hs3 hG
  go_wp2_with (first
    | ((with_reducible refine wpl_alloca (op := ⟨some 8, _, _, _, _, _⟩) rfl _ rfl _ zero16w ?_); intro g8 w6 hB6 hs8 hF6)
    | ((with_reducible refine wpl_storea agg16w rfl (.tmp 8) (.tmp 17) rfl g8 (cellsW M) rfl rfl _ _ hB6 HLM.out HZW.out (cellsW_one _) ?_); intro w7 hB7 hF7)
    | ((with_reducible refine wpl_alloca (op := ⟨some 9, _, _, _, _, _⟩) rfl _ rfl _ zero64b ?_); intro g9 w8 hB8 hs9 hF8; have hB78 := hB7.frm hF8 (fun h => h))
    | (with_reducible refine wpl_loada (op := ⟨some 18, _, _, _, _, _⟩) agg16w rfl _ rfl g8 0 rfl _ _ _ hB78 HXM.out (by rw [HLM.out]; exact Nat.le_refl _) ?_))
  have hn68 : g6 ≠ g8 := by have := hB15.lt; omega
  have hn78 : g7 ≠ g8 := by have := hB75.lt; omega
  have hn69 : g6 ≠ g9 := by have := hB15.lt; have := hF6.size; have := hF7.size; omega
  have hn79 : g7 ≠ g9 := by have := hB75.lt; have := hF6.size; have := hF7.size; omega
  have hs89 : w.heap.size ≤ g8 := by have := hF05.size; omega
  have hs99 : w.heap.size ≤ g9 := by have := hF05.size; have := hF6.size; have := hF7.size; omega
  have hF08 : Frm (fun k => k = g7 ∨ k = g8) w w8 := (((hF05.mono (T := fun k => k = g7 ∨ k = g8) (fun _ _ h => .inl h)).trans hF6 (fun _ _ h => h.elim)).trans hF7 (fun _ _ h => .inr h)).trans hF8 (fun _ _ h => h.elim)
  have HST : Hid (BlockInv w g6 g7 g9 S (outC PP 0) w8) := by
    exact ⟨hB8, ((hB15.frm hF6 (fun h => h)).frm hF7 hn68).frm hF8 (fun h => h), ((hB75.frm hF6 (fun h => h)).frm hF7 hn78).frm hF8 (fun h => h), hF08.below (Nat.le_refl _) (fun k hk => by omega)⟩
  clear hB15 hB75 hF05 hB6 hF6 hB7 hF7 hB8 hF8 hB78 hF08 hs8 hs9
  go_loopw [19] (fun i wr => ∃ k : Nat, k ≤ 16 ∧ i = .int .i64 k ∧ BlockInv w g6 g7 g9 S (outC PP k) wr) (fun i _ => 16 - (intOf i).toNat)
  case atStart => exact ⟨0, by omega, rfl, HST.out⟩
  case round =>
    clear HST
    obtain ⟨k, hk, rfl, hi⟩ := hrel
    by_cases hlt : k < 16
    · have hidx := HIX.out k hlt
      have hstep := outC_step PP k HPL.out hlt
      rw [HPA.out k hlt] at hstep
      have hsl : ∀ w, Sem.run Tryz.prog (Instr.sliceAt 84 (.pointer (some ⟨g9, 0, none⟩)) (some (.int .i64 (4 * (k : Int)))) none none) w = .ok (.slice (some ⟨g9, 4 * k, none⟩) (64 - 4 * k) (64 - 4 * k)) w := fun w => by
        have := run_slice_arr (P := Tryz.prog) (t := 84) (e := 5) (N := 64) under64b size8 g9 0 .i64 (4 * k) (by omega) w
        simpa using this
      have HOL : Hid ((cellsB (outC PP k)).length = 64) := by show _ = _; rw [cellsB_length, outC_length PP k HPL.out hk]
      have hc1 : wr.cell? ⟨g7, k, none⟩ = some (.int .u32 ((S.getD k 0 : Nat) : Int)) := by rw [hi.was.cell, List.getElem?_toArray]; exact cellsW_at _ _ (by rw [HSL.out]; exact hlt)
      have hadd : IntKind.u32.wrap ((M.getD k 0 : Int) + (S.getD k 0 : Int)) = (ad (M.getD k 0) (S.getD k 0) : Nat) := by rw [IntKind.wrap_u32']; exact ad_int _ _
      have hw4 : IntKind.i64.wrap (4 * (k : Int)) = 4 * (k : Int) := IntWalk.i64_in _ (by omega)
      have hv := ad_lt (M.getD k 0) (S.getD k 0)
      have HSTP := hide hstep
      have HV := hide hv
      clear hstep hv
      generalize M.getD k 0 = x at *
      generalize S.getD k 0 = y at *
      generalize ad x y = z at *
      have FD : Frm (fun _ => False) wr wr.drew := (Frm.refl _ _).drew
      have HO : Hid (Blk wr.drew g9 84 (cellsB (outC PP k)).toArray) := hi.out.frm FD (fun h => h)
      have HI := hide hi
      clear hi
      go_wp2_with fail
      go_still_tail 8, (by kernel_rfl)
      change wpList _ _ _ _ _ wr.drew
      go_wp2_with fail
      refine (cput_any g9 (4 * k) (64 - 4 * k) (64 - 4 * k) z _ _ wr.drew (by omega) (by omega) HV.out HO.out (by rw [HOL.out]; omega)).mono ?_
      rintro e w9 ⟨rfl, hB9, hF9⟩
      have FIN : Hid (BlockInv w g6 g7 g9 S (outC PP (k + 1)) w9) := by
        rw [HSTP.out] at hB9
        have f := (FD.mono (T := fun k => k = g9) (fun _ _ h => h.elim)).trans hF9 (fun _ _ h => h)
        exact ⟨hB9, HI.out.res.frm f hn69, HI.out.was.frm f hn79, below_frm HI.out.below f HI.out.below.size (fun k hk => by omega)⟩
      clear hB9 hF9
      go_wp2_with fail
      go_roundw
      case rel => first | exact ⟨k + 1, by omega, by go_num, FIN.out⟩ | ((repeat apply Exists.intro); exact ⟨⟨k + 1, by omega, by go_num, FIN.out⟩, rfl⟩)
      case measure => simp [intOf]; omega
    · obtain rfl : k = 16 := by omega
      rw [outC_all _ HPL.out] at hi
      have hb := hi.out
      have hres := hi.res
      have hbel := hi.below
      have HL : Hid ((cellsB (PP.flatMap le4)).length = 64) := by show _ = _; rw [cellsB_length, flatle_length, HPL.out]
      have HX : Hid (((cellsB (PP.flatMap le4)).drop 0).take 64 = cellsB (PP.flatMap le4)) := by show _ = _; rw [List.drop_zero, List.take_of_length_le (by rw [HL.out]; exact Nat.le_refl _)]
      clear hi
      obtain ⟨out, hout⟩ : ∃ out, out = PP.flatMap le4 := ⟨_, rfl⟩
      rw [← hout] at hb HL HX
      have HOUT := hide hout
      clear hout
      go_wp2_with (first
        | (with_reducible refine wpl_loada (op := ⟨some 33, _, _, _, _, _⟩) agg64b rfl _ rfl g9 0 rfl _ _ _ hb HX.out (by rw [HL.out]; exact Nat.le_refl _) ?_)
        | ((with_reducible refine wpl_storea agg64b rfl (.tmp 6) (.tmp 33) rfl g6 (cellsB out) rfl rfl _ _ hres HL.out rfl (cellsB_one _) ?_); intro w14 hB14 hF14))
      refine ret_agg agg64b rfl rfl g6 _ _ rfl hB14 HL.out ⟨by rw [HOUT.out], below_frm hbel hF14 hbel.size (by intro i hi; omega)⟩
def xorB (a b : List UInt8) : List UInt8 := List.zipWith (· ^^^ ·) a b
theorem xorB_length (a b : List UInt8) : (xorB a b).length = min a.length b.length := by simp [xorB]
theorem xorB_at (a b : List UInt8) (k : Nat) (ha : k < a.length) (hb : k < b.length) : (xorB a b)[k]? = some (a.getD k 0 ^^^ b.getD k 0) := by
  simp [xorB, List.getElem?_zipWith, List.getD_eq_getElem?_getD, List.getElem?_eq_getElem ha, List.getElem?_eq_getElem hb]
/-- A row of bytes that a call made: a block of its own. -/
def Made (w : World) (l : List UInt8) (e : Ending) (w' : World) : Prop :=
  ∃ g, e = .returned (.slice (some ⟨g, 0, none⟩) l.length l.length) ∧ Blk w' g 5 (cellsB l).toArray ∧ w.heap.size ≤ g ∧ Below w.heap.size w w'
set_option maxRecDepth 100000 in
set_option maxHeartbeats 2000000 in
theorem xor_any (A B : Option Addr) (n m c d : Nat) (a b : List UInt8) (w : World) (hA : Rds w A n (cellsB a)) (hB : Rds w B m (cellsB b)) (hn : n ≤ 1000000) (hm : m ≤ 1000000) :
    Calls Tryz.prog 28 #[.slice A n c, .slice B m d] w (Made w (xorB a b)) := by
  have hal : a.length = n := by have := hA.1; rwa [cellsB_length] at this
  have hbl : b.length = m := by have := hB.1; rwa [cellsB_length] at this
  obtain ⟨k0, HM, kl, kr, ke⟩ := nat_min n m
  have HXL : Hid ((xorB a b).length = k0) := by show _ = _; rw [xorB_length, hal, hbl, ke]
  have HXA : Hid (∀ k, k < k0 → (xorB a b)[k]? = some (a.getD k 0 ^^^ b.getD k 0)) := fun k hk => xorB_at a b k (by omega) (by omega)
  have Hal := hide hal
  have Hbl := hide hbl
  have HA := hide hA
  have HB := hide hB
  unfold Made
  have HE : Hid (k0 = (xorB a b).length) := HXL.out.symm
  rw [HXL.out]
  obtain ⟨T, hT⟩ : ∃ T, T = xorB a b := ⟨_, rfl⟩
  rw [← hT] at HXL HXA HE ⊢
  clear hT hA hB hal hbl ke
  go_enter Tryz.func28, Tryz.ntmps28
  go_wp2_with (first
    | (with_reducible refine wpl_min (op := ⟨some 11, _, _, _, _, _⟩) rfl _ _ _ _ rfl _ _ _ (k0 : Int) rfl rfl HM.out ?_)
    | ((with_reducible refine wpl_make8 (op := ⟨some 12, _, _, _, _, _⟩) rfl _ rfl .i64 (k0 : Int) k0 rfl rfl (by omega) ?_); intro g w1 hB1 hs1 hF1))
  have HZ : Hid ((List.replicate k0 (0 : UInt8)).length = k0) := List.length_replicate
  have HST : Hid (Blk w1 g 5 (cellsB (mix T (List.replicate k0 0) 0)).toArray ∧ Below w.heap.size w w1) := ⟨by rw [mix_zero]; exact hB1, hF1.below (Nat.le_refl _) (fun _ h => h.elim)⟩
  clear hB1 hF1 HM
  go_loopw [15] (fun i wr => ∃ k : Nat, k ≤ k0 ∧ i = .int .i64 k ∧ Blk wr g 5 (cellsB (mix T (List.replicate k0 0) k)).toArray ∧ Below w.heap.size w wr) (fun i _ => k0 - (intOf i).toNat)
  case atStart => exact ⟨0, by omega, rfl, HST.out⟩
  case round =>
    clear HST
    obtain ⟨k, hk, rfl, hi, hbel⟩ := hrel
    by_cases hlt : k < k0
    · obtain ⟨pa, rfl, hca⟩ := HA.out.2 (by omega)
      obtain ⟨pb, rfl, hcb⟩ := HB.out.2 (by omega)
      have ca0 := hca k _ (getD_byte a k (by rw [Hal.out]; omega))
      have cb0 := hcb k _ (getD_byte b k (by rw [Hbl.out]; omega))
      have ca : wr.cell? (pa.add k) = some (.int .u8 ((a.getD k 0).toNat : Int)) := by rw [hbel.cell (World.block_lt_of_cell? w _ ca0)]; exact ca0
      have cb : wr.cell? (pb.add k) = some (.int .u8 ((b.getD k 0).toNat : Int)) := by rw [hbel.cell (World.block_lt_of_cell? w _ cb0)]; exact cb0
      have hx := byte_xor (a.getD k 0) (b.getD k 0)
      have hset := mix_set T (List.replicate k0 0) k (a.getD k 0 ^^^ b.getD k 0) (by rw [HXL.out, HZ.out]) (by rw [HZ.out]; exact hlt) (HXA.out k hlt)
      have hf1 := hi.frozen k
      have i1 : (k : Int) < (n : Int) := by omega
      have i2 : (k : Int) < (m : Int) := by omega
      have i3 : (k : Int) < (k0 : Int) := by omega
      have hl0 : (cellsB (mix T (List.replicate k0 0) k)).length = k0 := by rw [cellsB_length, mix_length _ _ _ (by rw [HXL.out, HZ.out]), HZ.out]
      obtain ⟨vo, hvo⟩ : ∃ v, wr.cell? ⟨g, k, none⟩ = some v := ⟨(cellsB (mix T (List.replicate k0 0) k))[k]'(by omega), by rw [hi.cell, List.getElem?_toArray, List.getElem?_eq_getElem (by omega)]⟩
      have fin : Blk (wr.drew.setCell ⟨g, k, none⟩ (.int .u8 ((a.getD k 0 ^^^ b.getD k 0).toNat : Int))) g 5 (cellsB (mix T (List.replicate k0 0) (k + 1))).toArray ∧ Below w.heap.size w (wr.drew.setCell ⟨g, k, none⟩ (.int .u8 ((a.getD k 0 ^^^ b.getD k 0).toNat : Int))) := by
        have hb := hi.set k (.int .u8 ((a.getD k 0 ^^^ b.getD k 0).toNat : Int))
        rw [List.setIfInBounds_toArray, cellsB_set, hset] at hb
        have f : Frm (fun i => i = g) wr (wr.drew.setCell ⟨g, k, none⟩ (.int .u8 ((a.getD k 0 ^^^ b.getD k 0).toNat : Int))) := ((Frm.refl _ _).drew).trans (Frm.setCell _ _ _ (fun i => i = g) rfl) (fun _ _ h => h)
        exact ⟨hb, below_frm hbel f hbel.size (fun i hi => by omega)⟩
      have FIN := hide fin
      clear fin hset hi hbel hca hcb ca0 cb0 hl0 HA HB
      generalize (a.getD k 0 ^^^ b.getD k 0).toNat = z at *
      generalize (a.getD k 0).toNat = x at *
      generalize (b.getD k 0).toNat = y at *
      go_wp2_with fail
      go_still_tail 12, (by kernel_rfl)
      have hf1' : wr.drew.frozen? ⟨g, k, none⟩ = false := hf1
      have hvo' : wr.drew.cell? ⟨g, k, none⟩ = some vo := hvo
      change wpList _ _ _ _ _ wr.drew
      go_wp2
      go_roundw
      case rel => first | exact ⟨k + 1, by omega, by go_num, FIN.out⟩ | ((repeat apply Exists.intro); exact ⟨⟨k + 1, by omega, by go_num, FIN.out⟩, rfl⟩)
      case measure => simp [intOf]; omega
    · obtain rfl : k = k0 := by omega
      rw [mix_all _ _ _ (by rw [HXL.out, HZ.out]) (by rw [HZ.out]; exact Nat.le_refl _)] at hi
      go_wp2_with fail
      go_ret
      exact ⟨g, rfl, hi, hs1, hbel⟩
theorem blocks_mid (key nonce : List UInt8) (c i : Nat) (h : i < c) : ((blocksL key nonce c).drop (64 * i)).take 64 = chaL key i nonce := by
  induction c with
  | zero => omega
  | succ c ih =>
    rw [blocksL]
    by_cases hi : i < c
    · rw [List.drop_append_of_le_length (by rw [blocksL_length]; omega), List.take_append_of_le_length (by rw [List.length_drop, blocksL_length]; omega)]
      exact ih hi
    · have : i = c := by omega
      subst this
      rw [List.drop_left' (by rw [blocksL_length]), List.take_of_length_le (by rw [chaL_length]; exact Nat.le_refl _)]
theorem stream_mid (key nonce : List UInt8) (n i k : Nat) (h : 64 * i + k ≤ n) (hk : k ≤ 64) (hi : 64 * i < n) : ((streamL key nonce n).drop (64 * i)).take k = (chaL key i nonce).take k := by
  rw [streamL, List.drop_take, List.take_take, ← blocks_mid key nonce ((n + 63) / 64) i (by omega), List.take_take]
  congr 1
  omega
theorem stream_splice (T Z : List UInt8) (m k : Nat) (h : T.length = Z.length) (hm : m + k ≤ T.length) : splice (cellsB (mix T Z m)) m (cellsB ((T.drop m).take k)) = cellsB (mix T Z (m + k)) := by
  have h1 : ((T.drop m).take k).length = k := by rw [List.length_take, List.length_drop]; omega
  have h2 : (mix T Z m).take m = T.take m := by rw [mix, List.take_append_of_le_length (by rw [List.length_take]; omega), List.take_take, Nat.min_self]
  have h3 : (mix T Z m).drop (m + k) = Z.drop (m + k) := by
    rw [mix, ← List.drop_drop, List.drop_left' (by rw [List.length_take]; omega), List.drop_drop]
  rw [splice, cellsB_length, h1, cellsB_take, cellsB_drop, h2, h3, ← cellsB_append, ← cellsB_append, mix, List.take_add, List.append_assoc]
structure StreamInv (w : World) (gk gn g : Nat) (key nonce : List UInt8) (l : List UInt8) (wr : World) : Prop where
  key : Blk wr gk 26 (cellsB key).toArray
  nonce : Blk wr gn 103 (cellsB nonce).toArray
  out : Blk wr g 5 (cellsB l).toArray
  gc : Gc wr
  below : Below w.heap.size w wr
set_option maxRecDepth 100000 in
set_option maxHeartbeats 4000000 in
theorem stream_any (key nonce : List UInt8) (n : Nat) (w : World) (hG : Gc w) (hg0 : 4 ≤ w.heap.size) (hk : key.length = 32) (hno : nonce.length = 12) (hn : n ≤ 1000000) :
    Calls Tryz.prog 48 #[.agg (cellsB key).toArray, .agg (cellsB nonce).toArray, .int .i64 (n : Int)] w (Made w (streamL key nonce n)) := by
  have hF0 : Frm (fun _ => False) w ((w.alloc (.cells (cellsB key).toArray 26)).alloc (.cells (cellsB nonce).toArray 103)) := Frm.two _ _ _
  have hBK := (Blk.new w 26 (cellsB key).toArray).frm (Frm.alloc (w.alloc (.cells (cellsB key).toArray 26)) (.cells (cellsB nonce).toArray 103) (fun _ => False)) (fun h => h)
  have hBN := Blk.new (w.alloc (.cells (cellsB key).toArray 26)) 103 (cellsB nonce).toArray
  rw [show (w.alloc (.cells (cellsB key).toArray 26)).heap.size = w.heap.size + 1 by simp] at hBN
  have HKL : Hid ((cellsB key).length = 32) := by show _ = _; rw [cellsB_length, hk]
  have HNL : Hid ((cellsB nonce).length = 12) := by show _ = _; rw [cellsB_length, hno]
  have HXK : Hid (((cellsB key).drop 0).take 32 = cellsB key) := by show _ = _; rw [List.drop_zero, List.take_of_length_le (by rw [HKL.out]; exact Nat.le_refl _)]
  have HXN : Hid (((cellsB nonce).drop 0).take 12 = cellsB nonce) := by show _ = _; rw [List.drop_zero, List.take_of_length_le (by rw [HNL.out]; exact Nat.le_refl _)]
  have HTL : Hid ((streamL key nonce n).length = n) := streamL_length _ _ _
  have HTM : Hid (∀ i k, 64 * i + k ≤ n → k ≤ 64 → 64 * i < n → ((streamL key nonce n).drop (64 * i)).take k = (chaL key i nonce).take k) := fun i k h1 h2 h3 => stream_mid key nonce n i k h1 h2 h3
  have HBA := hide (fun ctr w hG h2 hc => block_any key nonce ctr w hG h2 hk hno hc)
  obtain ⟨CH, hCH⟩ : ∃ CH : Nat → List UInt8, CH = fun i => chaL key i nonce := ⟨_, rfl⟩
  have HCL : Hid (∀ i, (CH i).length = 64) := by rw [hCH]; exact fun i => chaL_length _ _ _
  have HBA2 : Hid (∀ (ctr : Nat) (w : World), Gc w → 4 ≤ w.heap.size → ctr < 4294967296 → Calls Tryz.prog 69 #[.agg (cellsB key).toArray, .int .u32 (ctr : Int), .agg (cellsB nonce).toArray] w fun e w' => e = .returned (.agg (cellsB (CH ctr)).toArray) ∧ Below w.heap.size w w') := by rw [hCH]; exact HBA.out
  have HTM2 : Hid (∀ i k, 64 * i + k ≤ n → k ≤ 64 → 64 * i < n → ((streamL key nonce n).drop (64 * i)).take k = (CH i).take k) := by rw [hCH]; exact HTM.out
  clear hCH HBA HTM
  unfold Made
  rw [HTL.out]
  obtain ⟨T, hT⟩ : ∃ T, T = streamL key nonce n := ⟨_, rfl⟩
  rw [← hT] at HTL HTM2 ⊢
  have h31 : ¬ ((2147483647 : Int) < (n : Int)) := by omega
  have hnn : ¬ ((n : Int) < 0) := by omega
  have hsl64 : ∀ g w, Sem.run Tryz.prog (Instr.sliceAt 84 (.pointer (some ⟨g, 0, none⟩)) none none none) w = .ok (.slice (some ⟨g, 0, none⟩) 64 64) w := fun g w => run_slice_arr0 (P := Tryz.prog) (t := 84) (e := 5) (N := 64) under64b size8 g 0 (by omega) w
  clear hT hk hno
  go_enter Tryz.func48, Tryz.ntmps48
  go_wp2_with ((with_reducible refine wpl_make8 (op := ⟨some 18, _, _, _, _, _⟩) rfl _ rfl .i64 (n : Int) n rfl rfl hn ?_); intro g w1 hB1 hs1 hF1)
  have hF01 := hF0.trans hF1 (fun _ _ h => h)
  have HZ : Hid ((List.replicate n (0 : UInt8)).length = n) := List.length_replicate
  have HZT : Hid (T.length = (List.replicate n (0 : UInt8)).length) := by show _ = _; rw [HTL.out, HZ.out]
  have hsz := hF0.size
  have hgk := hBK.lt
  have hgn := hBN.lt
  have HST : Hid (StreamInv w w.heap.size (w.heap.size + 1) g key nonce (mix T (List.replicate n 0) 0) w1) := ⟨hBK.frm hF1 (fun h => h), hBN.frm hF1 (fun h => h), by rw [mix_zero]; exact hB1, hG.frm0 hF01, hF01.below (Nat.le_refl _) (fun _ h => h.elim)⟩
  have hne1 : w.heap.size ≠ g := by omega
  have hne2 : w.heap.size + 1 ≠ g := by omega
  have hge : w.heap.size ≤ g := by omega
  clear hBK hBN hB1 hF1 hF0 hF01 hG hs1 hsz hgk hgn h31 hnn
  obtain ⟨gk, hgk⟩ : ∃ gk, gk = w.heap.size := ⟨_, rfl⟩
  obtain ⟨gn, hgn⟩ : ∃ gn, gn = w.heap.size + 1 := ⟨_, rfl⟩
  rw [← hgn] at HST hne2 ⊢
  rw [← hgk] at HST hne1 ⊢
  clear hgn
  have HGK := hide hgk
  clear hgk
  go_loopw [8, 9] (fun l c wr => ∃ (i m : Nat) (A : Option Addr), m ≤ n ∧ i ≤ n ∧ l = .slice A (n - m) (n - m) ∧ c = .int .u32 (i : Int) ∧ (m < n → m = 64 * i ∧ A = some ⟨g, m, none⟩) ∧ StreamInv w gk gn g key nonce (mix T (List.replicate n 0) m) wr) (fun l _ _ => slen l)
  case atStart => exact ⟨0, 0, some ⟨g, 0, none⟩, by omega, by omega, by rw [Nat.sub_zero], rfl, fun _ => ⟨rfl, rfl⟩, HST.out⟩
  case round =>
    clear HST
    obtain ⟨i, m, A, hm, hin, rfl, rfl, hA, hi⟩ := hrel
    by_cases hlt : m < n
    · obtain ⟨hmi, rfl⟩ := hA hlt
      obtain ⟨r, hr⟩ : ∃ r, r = n - m := ⟨_, rfl⟩
      rw [← hr]
      obtain ⟨k, hk⟩ : ∃ k, k = Nat.min 64 r := ⟨_, rfl⟩
      have hk64 : k ≤ 64 := by rw [hk]; exact Nat.min_le_left _ _
      have hkr : k ≤ r := by rw [hk]; exact Nat.min_le_right _ _
      have hkc : k < r → k = 64 := by intro h; rw [hk] at h ⊢; have : Nat.min 64 r = min 64 r := rfl; omega
      have hk0 : 0 < k := by rw [hk]; exact Nat.lt_min.2 ⟨by omega, by omega⟩
      have hpos : (0 : Int) < (r : Int) := by omega
      have HCI := hide (HCL.out i)
      have HLC : Hid ((cellsB (CH i)).length = 64) := by show _ = _; rw [cellsB_length, HCI.out]
      have hsp := stream_splice T (List.replicate n 0) m k HZT.out (by rw [HTL.out]; omega)
      have htm := HTM2.out i k (by omega) hk64 (by omega)
      rw [← hmi] at htm
      rw [htm] at hsp
      have HSP := hide hsp
      have HBI := hide (fun w hG h2 => HBA2.out i w hG h2 (by omega))
      have HLT : Hid ((cellsB (mix T (List.replicate n 0) m)).length = n) := by show _ = _; rw [cellsB_length, mix_length _ _ _ HZT.out, HZ.out]
      have hwi : IntKind.u32.wrap ((i : Int) + 1) = ((i + 1 : Nat) : Int) := by rw [IntKind.wrap_u32']; omega
      obtain ⟨i1, hi1⟩ : ∃ i1, i1 = i + 1 := ⟨_, rfl⟩
      rw [← hi1] at hwi
      have HI1 := hide hi1
      obtain ⟨A2, hA2⟩ : ∃ A2, A2 = if r = k then some (⟨g, m, none⟩ : Addr) else (some (⟨g, m, none⟩ : Addr)).map (·.add k) := ⟨_, rfl⟩
      have HA2 := hide hA2
      have HAN : Hid (m + k < n → m + k = 64 * i1 ∧ A2 = some ⟨g, m + k, none⟩) := by
        intro h
        refine ⟨by have := hkc (by omega); omega, ?_⟩
        rw [hA2, if_neg (by omega), Option.map_some, addr_add]
      obtain ⟨ch, hch⟩ : ∃ ch, ch = CH i := ⟨_, rfl⟩
      rw [← hch] at HCI HLC HSP HBI
      have HKK := hide hk
      have HR := hide hr
      have HMI := hide hmi
      have HI := hide hi
      clear htm hsp hch hk hi hi1 hA2 hA hr hmi HTM2 HBA2 hkc
      have hbk := HI.out.key
      have hbn := HI.out.nonce
      go_wp2_with (first
        | (with_reducible refine wpl_loada (op := ⟨some 25, _, _, _, _, _⟩) aggK rfl _ rfl gk 0 rfl _ _ _ hbk HXK.out (by rw [HKL.out]; exact Nat.le_refl _) ?_)
        | (with_reducible refine wpl_loada (op := ⟨some 27, _, _, _, _, _⟩) agg12 rfl _ rfl gn 0 rfl _ _ _ hbn HXN.out (by rw [HNL.out]; exact Nat.le_refl _) ?_))
      refine (HBI.out wr HI.out.gc (by have := HI.out.below.size; omega)).mono ?_
      rintro e w5 ⟨rfl, hb5⟩
      have hF5 : Frm (fun _ => False) wr w5 := Frm.of_below hb5
      clear hbk hbn hb5
      have HMN : Hid (k = Nat.min 64 r) := HKK.out
      have HFIT : Hid (m + r ≤ (cellsB (mix T (List.replicate n 0) m)).length) := by show _ ≤ _; rw [HLT.out]; have := HR.out; omega
      have HZB : Hid ((cellsB (List.replicate 64 0)).toArray.size = 64) := rfl
      have hgo := HI.out.out.lt
      go_wp2_with (first
        | ((with_reducible refine wpl_alloca (op := ⟨some 10, _, _, _, _, _⟩) rfl _ rfl _ zero64b ?_); intro g10 w6 hB6 hs6 hF6)
        | ((with_reducible refine wpl_storea agg64b rfl (.tmp 10) (.tmp 28) rfl g10 (cellsB ch) rfl rfl _ _ hB6 HLC.out HZB.out (cellsB_one _) ?_); intro w7 hB7 hF7; have hne : g ≠ g10 := (by have := hF5.size; omega); have hO7 := ((HI.out.out.frm hF5 (fun h => h)).frm hF6 (fun h => h)).frm hF7 hne; have hR7 := hB7.rds; rw [HLC.out] at hR7)
        | ((with_reducible refine wpl_copyR rfl (.tmp 30) (.tmp 31) rfl g m r r (some ⟨g10, 0, none⟩) 64 64 k rfl rfl (cellsB (mix T (List.replicate n 0) m)) _ hO7 ch hR7 HMN.out HFIT.out ?_); intro w8 hB8 hF8; rw [HSP.out] at hB8)
        | (with_reducible refine wpl_cut (op := ⟨some 33, _, _, _, _, _⟩) rfl _ _ rfl (some ⟨g, m, none⟩) A2 r r k .i64 rfl rfl hkr (Nat.le_refl _) HA2.out ?_))
      have hF57 : Frm (fun i => i = g10) wr w7 := ((hF5.trans hF6 (fun _ _ h => h)).mono (T := fun i => i = g10) (fun _ _ h => h.elim)).trans hF7 (fun _ _ h => h)
      have hF58 : Frm (fun i => i = g10 ∨ i = g) wr w8 := (hF57.mono (T := fun i => i = g10 ∨ i = g) (fun _ _ h => .inl h)).trans hF8 (fun _ _ h => .inr h)
      have hkl := HI.out.key.lt
      have hnl := HI.out.nonce.lt
      have hg10 : wr.heap.size ≤ g10 := by have := hF5.size; omega
      have hbs := HI.out.below.size
      have FIN : Hid (StreamInv w gk gn g key nonce (mix T (List.replicate n 0) (m + k)) w8) := ⟨HI.out.key.frm hF58 (by omega), HI.out.nonce.frm hF58 (by omega), hB8, HI.out.gc.frm hF58 (by omega) (by omega), below_frm HI.out.below hF58 HI.out.below.size (fun i hi => by omega)⟩
      have hrk : r - k = n - (m + k) := by have := HR.out; omega
      have hmk : m + k ≤ n := by have := HR.out; omega
      have hi1n : i1 ≤ n := by have := HI1.out; have := HMI.out; omega
      have HRK := hide hrk
      clear hrk hF57 hF58 hF5 hF6 hF7 hF8 hB6 hB7 hB8 hO7 hR7 hkl hnl
      go_roundw
      case rel => first | exact ⟨i1, m + k, A2, hmk, hi1n, by rw [HRK.out], rfl, HAN.out, FIN.out⟩ | ((repeat apply Exists.intro); exact ⟨⟨i1, m + k, A2, hmk, hi1n, by rw [HRK.out], rfl, HAN.out, FIN.out⟩, rfl⟩)
      case measure => simp [slen]; omega
    · obtain rfl : m = n := by omega
      rw [mix_all _ _ _ HZT.out (by rw [HZ.out]; exact Nat.le_refl _)] at hi
      have h0 : m - m = 0 := Nat.sub_self _
      rw [h0]
      have ho := hi.out
      have hbel := hi.below
      clear hi hA h0
      go_wp2_with fail
      go_ret
      exact ⟨g, rfl, ho, hge, hbel⟩
theorem Rds.conv {w : World} {A : Option Addr} {n : Nat} {l : List UInt8} (h : Rds w A n (cellsB l)) (c : Nat) : Sem.run Tryz.prog (convert 46 9 (.slice A n c)) w = .ok (.string ⟨l.toArray⟩) w :=
  conv_rds w 46 9 5 under24 under5 under9 A n c l h
/-- A world that a law has come to. -/
structure CRun (w0 w : World) : Prop where
  gc : Gc w
  below : Below w0.heap.size w0 w
  two : 4 ≤ w0.heap.size
theorem CRun.frm {S : Nat → Prop} {w0 w w' : World} (h : CRun w0 w) (f : Frm S w w') (hS : ∀ k, S k → w0.heap.size ≤ k) : CRun w0 w' :=
  ⟨h.gc.frm f (fun s => by have := hS _ s; have := h.two; omega) (fun s => by have := hS _ s; have := h.two; omega), below_frm h.below f h.below.size hS, h.two⟩
theorem CRun.frm0 {w0 w w' : World} (h : CRun w0 w) (f : Frm (fun _ => False) w w') : CRun w0 w' := h.frm f (fun _ h => h.elim)
theorem CRun.size {w0 w : World} (h : CRun w0 w) : w0.heap.size ≤ w.heap.size := h.below.size
theorem CRun.start {w : World} (hG : Gc w) (h2 : 4 ≤ w.heap.size) : CRun w w := ⟨hG, Below.refl _ _, h2⟩
/-- A row of bytes that was made, in a block of its own. -/
structure Row (w : World) (g : Nat) (l : List UInt8) : Prop where
  blk : Blk w g 5 (cellsB l).toArray
theorem Row.rds {w : World} {g : Nat} {l : List UInt8} (h : Row w g l) : Rds w (some ⟨g, 0, none⟩) l.length (cellsB l) := by
  have := h.blk.rds
  rwa [cellsB_length] at this
theorem Row.frm {S : Nat → Prop} {w w' : World} {g : Nat} {l : List UInt8} (h : Row w g l) (f : Frm S w w') (hS : ¬ S g) : Row w' g l := ⟨h.blk.frm f hS⟩
theorem Row.frm0 {w w' : World} {g : Nat} {l : List UInt8} (h : Row w g l) (f : Frm (fun _ => False) w w') : Row w' g l := h.frm f (fun h => h)
theorem Row.lt {w : World} {g : Nat} {l : List UInt8} (h : Row w g l) : g < w.heap.size := h.blk.lt
/-- A key and a nonce that lie boxed. -/
structure Boxed (w : World) (gk gn : Nat) (key nonce : List UInt8) : Prop where
  key : Blk w gk 26 (cellsB key).toArray
  nonce : Blk w gn 103 (cellsB nonce).toArray
theorem Boxed.frm {S : Nat → Prop} {w w' : World} {gk gn : Nat} {key nonce : List UInt8} (h : Boxed w gk gn key nonce) (f : Frm S w w') (h1 : ¬ S gk) (h2 : ¬ S gn) : Boxed w' gk gn key nonce := ⟨h.key.frm f h1, h.nonce.frm f h2⟩
theorem Boxed.frm0 {w w' : World} {gk gn : Nat} {key nonce : List UInt8} (h : Boxed w gk gn key nonce) (f : Frm (fun _ => False) w w') : Boxed w' gk gn key nonce := h.frm f (fun h => h) (fun h => h)
end Go.Proofs.YtoiiiflnnhkjbaaGreatDoor
