/-
  Streams and sums.
-/
import Derived.Test.YtoiiiflnnhkjbaaGreatDoorOShA
import Derived.Laws.MakeOwn
import Derived.Lib.SliceRun
import Derived.Lib.SlBytesConst
import Derived.ChangeKeysEq
import Derived.Deep.RegionHeld3
namespace Go.Proofs.YtoiiiflnnhkjbaaGreatDoor
set_option linter.unusedVariables false
open Go.RowKit

theorem be8_split (n : Nat) : be 8 n = be 4 (n / 4294967296) ++ be 4 n := by
  simp [be, List.range_succ, Nat.div_div_eq_div_mul]
theorem be4_mod (n : Nat) : be 4 (n % 4294967296) = be 4 n := by
  simp [be, List.range_succ]
  refine ⟨?_, ?_, ?_, ?_⟩ <;> (apply UInt8.toNat_inj.1; simp; try omega)
theorem two_splices (z v1 v2 : Nat) : splice (splice (cellsB (128 :: List.replicate (z + 8) 0)) (1 + z) (cellsB (be 4 v1))) (1 + z + 4) (cellsB (be 4 v2)) = cellsB (128 :: (List.replicate z 0 ++ (be 4 v1 ++ be 4 v2))) := by
  have h0 : (128 :: List.replicate (z + 8) 0 : List UInt8) = (128 :: List.replicate z 0) ++ (List.replicate 4 0 ++ List.replicate 4 0) := by
    rw [← List.replicate_append_replicate (n := z) (m := 8)]
    rfl
  rw [h0, cellsB_append, cellsB_append, splice_mid _ _ _ _ _ (by rw [cellsB_length]; simp; omega) (by rw [cellsB_length, cellsB_length, be_length]; rfl)]
  have h1 := splice_mid (cellsB (128 :: List.replicate z 0) ++ cellsB (be 4 v1)) (cellsB (List.replicate 4 0)) [] (cellsB (be 4 v2)) (1 + z + 4) (by rw [List.length_append, cellsB_length, cellsB_length, be_length]; simp; omega) (by rw [cellsB_length, cellsB_length, be_length]; rfl)
  simp only [List.append_nil, List.append_assoc] at h1
  rw [h1, ← cellsB_append, ← cellsB_append]
  rfl
set_option maxRecDepth 100000 in
set_option maxHeartbeats 1000000 in
theorem end_any (n : Nat) (w : World) (hn : n ≤ 1000000000000) :
    Calls Tryz.prog 104 #[.int .u64 (n : Int)] w fun e w' => ∃ g, e = .returned (.slice (some ⟨g, 0, none⟩) (endL n).length (endL n).length) ∧ Blk w' g 5 (cellsB (endL n)).toArray ∧ w.heap.size ≤ g ∧ Below w.heap.size w w' := by
  obtain ⟨ov, hov⟩ : ∃ ov, ov = (n + 9) % 64 := ⟨_, rfl⟩
  obtain ⟨z, hz⟩ : ∃ z, z = (64 - ov) % 64 := ⟨_, rfl⟩
  have e1 : ((n : Int) + 1 + 8) % 64 = (ov : Int) := by omega
  have e2 : ((64 : Int) - (ov : Int)) % 64 = (z : Int) := by omega
  have hz64 : z < 64 := by omega
  have hov64 : ov < 64 := by omega
  have HE : Hid (endL n = 128 :: (List.replicate z 0 ++ be 8 (8 * n))) := by show _ = _; rw [endL, ← hov, ← hz]
  obtain ⟨v1, hv1⟩ : ∃ v1, v1 = 8 * n / 4294967296 := ⟨_, rfl⟩
  obtain ⟨v2, hv2⟩ : ∃ v2, v2 = 8 * n % 4294967296 := ⟨_, rfl⟩
  have p1 : 8 * (n : Int) / 4294967296 = (v1 : Int) := by omega
  have p2 : 8 * (n : Int) % 4294967296 = (v2 : Int) := by omega
  have lv1 : v1 < 4294967296 := by omega
  have lv2 : v2 < 4294967296 := by omega
  have HB : Hid (be 8 (8 * n) = be 4 v1 ++ be 4 v2) := by
    show _ = _
    rw [be8_split, hv1, hv2, be4_mod]
  clear hv1 hv2
  have HZ := hide hz
  have HO := hide hov
  clear hz hov
  go_enter Tryz.func104, Tryz.ntmps104
  go_wp2_with ((with_reducible refine wpl_make8 (op := ⟨some 17, _, _, _, _, _⟩) rfl _ rfl _ _ (1 + z + 8) rfl (by omega) (by omega) ?_); intro g w1 hB1 hs1 hF1; have hc0 : w1.cell? ⟨g, 0, none⟩ = some (.int .u8 0) := (by rw [hB1.cell, List.getElem?_toArray, cellsB_get, List.getElem?_replicate, if_pos (by omega)]; rfl); have hf0 := hB1.frozen 0)
  have hB2 := hB1.set 0 (.int .u8 128)
  have hF2 : Frm (fun k => k = g) w (w1.setCell ⟨g, 0, none⟩ (.int .u8 128)) := (hF1.mono (T := fun k => k = g) (fun _ _ h => h.elim)).trans (Frm.setCell _ _ _ (fun k => k = g) rfl) (fun _ _ h => h)
  have hcs : (cellsB (List.replicate (1 + z + 8) 0)).toArray.setIfInBounds 0 (.int .u8 128) = (cellsB (128 :: List.replicate (z + 8) 0)).toArray := by
    rw [show 1 + z + 8 = (z + 8) + 1 by omega, List.replicate_succ]
    simp [cellsB]
  rw [hcs] at hB2
  generalize w1.setCell ⟨g, 0, none⟩ (.int .u8 128) = w2 at *
  clear hB1 hF1 hc0 hf0 hcs
  refine (put_any g (1 + z) 8 8 v1 _ _ w2 (by omega) (by omega) lv1 hB2 (by rw [cellsB_length]; simp; omega)).mono ?_
  rintro e w3 ⟨rfl, hB3, hF3⟩
  go_wp2_with fail
  refine (put_any g (1 + z + 4) 4 4 v2 _ _ w3 (by omega) (by omega) lv2 hB3 (by rw [length_splice _ _ _ (by rw [cellsB_length, cellsB_length, be_length]; simp; omega), cellsB_length]; simp; omega)).mono ?_
  rintro e w4 ⟨rfl, hB4, hF4⟩
  have hfin : splice (splice (cellsB (128 :: List.replicate (z + 8) 0)) (1 + z) (cellsB (be 4 v1))) (1 + z + 4) (cellsB (be 4 v2)) = cellsB (endL n) := by
    rw [HE.out, HB.out]
    exact two_splices z v1 v2
  rw [hfin] at hB4
  have hlen : (endL n).length = 1 + z + 8 := by rw [HE.out]; simp [be_length]; omega
  have HL := hide hlen
  clear hlen hfin hB3 hB2
  have hF : Frm (fun k => k = g) w w4 := (hF2.trans hF3 (fun _ _ h => h)).trans hF4 (fun _ _ h => h)
  go_wp2_with fail
  go_ret
  refine ⟨g, ?_, hB4, hs1, hF.below (Nat.le_refl _) (fun k hk => by omega)⟩
  rw [HL.out]
  rfl
theorem leftL_eq (l : List UInt8) : leftL l = l.drop (64 * (l.length / 64)) ++ List.replicate (64 - l.length % 64) 0 := rfl
theorem tail_length (l : List UInt8) : (l.drop (64 * (l.length / 64))).length = l.length % 64 := by rw [List.length_drop]; omega
theorem left_splice (l c : List UInt8) (h : l.length % 64 + c.length ≤ 64) : splice (leftL l) (l.length % 64) c = (l ++ c).drop (64 * (l.length / 64)) ++ List.replicate (64 - l.length % 64 - c.length) 0 := by
  have h1 : List.replicate (64 - l.length % 64) (0 : UInt8) = List.replicate c.length 0 ++ List.replicate (64 - l.length % 64 - c.length) 0 := by
    rw [List.replicate_append_replicate]
    congr 1
    omega
  rw [leftL_eq, h1, splice_mid _ _ _ _ _ (tail_length l) (by simp), List.drop_append_of_le_length (by omega), List.append_assoc]
theorem left_step (l c : List UInt8) (h : l.length % 64 + c.length < 64) : splice (leftL l) (l.length % 64) c = leftL (l ++ c) := by
  have h1 : (l.length + c.length) / 64 = l.length / 64 := by omega
  have h2 : (l.length + c.length) % 64 = l.length % 64 + c.length := by omega
  rw [left_splice l c (by omega), leftL_eq, List.length_append, h1, h2]
  congr 2
  omega
theorem left_full (l c : List UInt8) (h : l.length % 64 + c.length = 64) : splice (leftL l) (l.length % 64) c = ((l ++ c).drop (64 * (l.length / 64))).take 64 := by
  rw [left_splice l c (by omega), show 64 - l.length % 64 - c.length = 0 by omega, List.replicate_zero, List.append_nil, List.take_of_length_le (by rw [List.length_drop, List.length_append]; omega)]
theorem added_step (l c : List UInt8) (h : l.length % 64 + c.length < 64) : addedN (l ++ c) ((l ++ c).length / 64) = addedN l (l.length / 64) := by
  rw [List.length_append, show (l.length + c.length) / 64 = l.length / 64 by omega, addedN_append _ _ _ (by omega)]
theorem added_full (l c : List UInt8) (h : l.length % 64 + c.length = 64) : addedN (l ++ c) ((l ++ c).length / 64) = addB (addedN l (l.length / 64)) (((l ++ c).drop (64 * (l.length / 64))).take 64) := by
  rw [List.length_append, show (l.length + c.length) / 64 = l.length / 64 + 1 by omega, addedN, addedN_append _ _ _ (by omega)]
theorem left_done (l c : List UInt8) (h : l.length % 64 + c.length = 64) : leftL (l ++ c) = List.replicate 64 0 := by
  rw [leftL_eq, List.length_append, show (l.length + c.length) % 64 = 0 by omega, List.drop_eq_nil_of_le (by rw [List.length_append]; omega)]
  rfl
theorem cellsS_splice (a : List Nat) (b c : List UInt8) (n r : Nat) (ha : a.length = 8) (h : r + c.length ≤ b.length) : splice (cellsS a b n) (8 + r) (cellsB c) = cellsS a (splice b r c) n := by
  have hb : b = b.take r ++ ((b.drop r).take c.length ++ b.drop (r + c.length)) := by
    rw [← List.drop_drop, List.take_append_drop, List.take_append_drop]
  have e1 : cellsS a b n = (cellsW a ++ cellsB (b.take r)) ++ (cellsB ((b.drop r).take c.length) ++ (cellsB (b.drop (r + c.length)) ++ [.int .u64 (n : Int)])) := by
    conv => lhs; rw [hb]
    simp only [cellsS, cellsB_append, List.append_assoc]
  rw [e1, splice_mid _ _ _ _ _ (by rw [List.length_append, cellsW_length, cellsB_length, List.length_take]; omega) (by rw [cellsB_length, cellsB_length, List.length_take, List.length_drop]; omega)]
  simp only [cellsS, splice, cellsB_append, List.append_assoc]
theorem cellsS_taken (a : List Nat) (b : List UInt8) (n n' : Nat) (ha : a.length = 8) (hb : b.length = 64) : (cellsS a b n).set 72 (.int .u64 (n' : Int)) = cellsS a b n' := by
  rw [cellsS, cellsS, List.set_append_right _ _ (by rw [cellsW_length]; omega), cellsW_length, ha, List.set_append_right _ _ (by rw [cellsB_length]; omega), cellsB_length, hb]
  rfl
theorem cellsS_last (a : List Nat) (b : List UInt8) (n : Nat) (ha : a.length = 8) (hb : b.length = 64) : (cellsS a b n)[72]? = some (.int .u64 (n : Int)) := by
  rw [cellsS, List.getElem?_append_right (by rw [cellsW_length]; omega), cellsW_length, ha, List.getElem?_append_right (by rw [cellsB_length]; omega), cellsB_length, hb]
  rfl
structure WriteInv (w : World) (g : Nat) (l : List UInt8) (rest : List UInt8) (A : Option Addr) (c : Nat) (wr : World) : Prop where
  st : St wr g l
  gl : Gl wr
  src : Src wr g A rest.length rest
  cap : rest.length ≤ c
  frm : Frm (fun k => k = g) w wr
set_option maxHeartbeats 4000000 in
set_option maxRecDepth 100000 in
theorem write_any (g : Nat) (l b : List UInt8) (A : Option Addr) (c : Nat) (w : World) (hG : Gl w) (hS : St w g l) (hA : Src w g A b.length b) (hc : b.length ≤ c) (hg2 : 4 ≤ g) (hl : l.length + b.length ≤ 1000000000000) :
    Calls Tryz.prog 80 #[.pointer (some ⟨g, 0, none⟩), .slice A b.length c] w fun e w' => e = .returned (.tuple #[]) ∧ St w' g (l ++ b) ∧ Frm (fun k => k = g) w w' := by
  have hlt := hS.lt
  have hst : WriteInv w g l b A c w := ⟨hS, hG, hA, hc, Frm.refl _ _⟩
  clear hS hG hA hc
  go_enter Tryz.func80, Tryz.ntmps80
  go_wp2_with fail
  go_loopw [1] (fun v wr => ∃ (pre rest : List UInt8) (A : Option Addr) (c : Nat), b = pre ++ rest ∧ v = .slice A rest.length c ∧ WriteInv w g (l ++ pre) rest A c wr) (fun v _ => slen v)
  case atStart => exact ⟨[], b, A, c, rfl, rfl, by rw [List.append_nil]; exact hst⟩
  case round =>
    clear hst
    obtain ⟨pre, rest, A, c, hpr, rfl, hi⟩ := hrel
    have hbl : pre.length + rest.length = b.length := by rw [hpr, List.length_append]
    have HPR := hide hpr
    clear hpr
    obtain ⟨cur, hcur⟩ : ∃ cur, cur = l ++ pre := ⟨_, rfl⟩
    rw [← hcur] at hi
    have hN : cur.length + rest.length ≤ 1000000000000 := by rw [hcur, List.length_append]; omega
    have HC := hide hcur
    clear hcur hbl
    by_cases hpos : 0 < rest.length
    · obtain ⟨m, hm⟩ : ∃ m, m = Nat.min rest.length (64 - cur.length % 64) := ⟨_, rfl⟩
      obtain ⟨N, hNn⟩ : ∃ N, N = cur.length := ⟨_, rfl⟩
      obtain ⟨r, hr⟩ : ∃ r, r = N % 64 := ⟨_, rfl⟩
      have hr64 : r < 64 := by omega
      rw [← hNn, ← hr] at hm
      have hm1 : m ≤ rest.length := by rw [hm]; exact Nat.min_le_left _ _
      have hm2 : r + m ≤ 64 := by have h : Nat.min rest.length (64 - r) ≤ 64 - r := Nat.min_le_right _ _; rw [← hm] at h; omega
      have hm0 : 0 < m := by rw [hm]; exact Nat.lt_min.2 ⟨hpos, by omega⟩
      obtain ⟨ad, rfl, hcell⟩ := hi.src.1.2 hpos
      obtain ⟨a, ha⟩ : ∃ a, a = addedN cur (cur.length / 64) := ⟨_, rfl⟩
      obtain ⟨lf, hlf⟩ : ∃ lf, lf = leftL cur := ⟨_, rfl⟩
      have hal : a.length = 8 := by rw [ha]; exact addedN_length _ _
      have hll : lf.length = 64 := by rw [hlf]; exact leftL_length _
      have hblk : Blk wr g 146 (cellsS a lf N).toArray := by rw [ha, hlf, hNn]; exact hi.st
      have hc72 : wr.cell? ⟨g, 72, none⟩ = some (.int .u64 (N : Int)) := by rw [hblk.cell, List.getElem?_toArray]; exact cellsS_last _ _ _ hal hll
      have hsl : ∀ w, Sem.run Tryz.prog (Instr.sliceAt 84 (.pointer (some ⟨g, 8, none⟩)) (some (.int .u64 (r : Int))) none none) w = .ok (.slice (some ⟨g, 8 + r, none⟩) (64 - r) (64 - r)) w := fun w => 
        run_slice_arr (P := Tryz.prog) (t := 84) (e := 5) (N := 64) (by kernel_rfl) (by kernel_rfl) g 8 .u64 r hr64 w
      have e1 : (N : Int) % 64 = (r : Int) := by omega
      have e1' : Int.tmod (N : Int) 64 = (r : Int) := by rw [Int.tmod_eq_emod_of_nonneg (by omega)]; exact e1
      have hch : (rest.take m).length = m := by rw [List.length_take]; omega
      have hsrc : ∀ j v, (cellsB (rest.take m))[j]? = some v → wr.cell? (ad.add j) = some v := by
        intro j v hv
        rw [← cellsB_take, List.getElem?_take] at hv
        split at hv
        · exact hcell j v hv
        · cases hv
      have HCUT : Hid (Src wr g (if c = m then some ad else (some ad).map (·.add m)) (rest.length - m) (rest.drop m)) := hi.src.cut c m hm1 hi.cap
      obtain ⟨A2, hA2⟩ : ∃ A2, A2 = if c = m then some ad else (some ad).map (·.add m) := ⟨_, rfl⟩
      rw [← hA2] at HCUT
      have HA2 := hide hA2
      have hcap := hi.cap
      have HF := hide hi.frm
      have HG := hide hi.gl
      have HSRC : Hid (∀ j v, (cellsB (rest.take m))[j]? = some v → wr.drew.cell? (ad.add j) = some v) := hsrc
      have HCH : Hid ((cellsB (rest.take m)).length = m) := by show _ = _; rw [cellsB_length, hch]
      have HM := hide hm
      have HFIT : Hid (8 + r + m ≤ (cellsS a lf N).length) := by show _ ≤ _; rw [cellsS_length, hal, hll]; omega
      have HSP : Hid (splice (cellsS a lf N) (8 + r) (cellsB (rest.take m)) = cellsS a (splice lf r (rest.take m)) N) := cellsS_splice a lf (rest.take m) N r hal (by rw [hch, hll]; omega)
      have hsll : (splice lf r (rest.take m)).length = 64 := by rw [length_splice _ _ _ (by rw [hch, hll]; omega), hll]
      have HB : Hid (Blk wr.drew g 146 (cellsS a lf N).toArray) := hblk
      have HNn := hide hNn
      have Hrr := hide hr
      have Ha := hide ha
      have Hlf := hide hlf
      have Hal := hide hal
      have Hsll := hide hsll
      have Hch := hide hch
      obtain ⟨rest2, hrest2⟩ : ∃ rest2, rest2 = rest.drop m := ⟨_, rfl⟩
      have HR2 : Hid (rest2.length = rest.length - m) := by show _ = _; rw [hrest2, List.length_drop]
      rw [← hrest2] at HCUT
      have HR := hide hrest2
      obtain ⟨nr, hnr⟩ : ∃ nr, nr = rest.length := ⟨_, rfl⟩
      have HCH2 := hide (show rest.take m ++ rest2 = rest by rw [hrest2]; exact List.take_append_drop _ _)
      obtain ⟨ch, hch2⟩ : ∃ ch, ch = rest.take m := ⟨_, rfl⟩
      rw [← hch2] at HSRC HCH HSP Hsll Hch HCH2
      rw [← hnr] at hN hpos HM hm1 HR2 hcap HCUT ⊢
      have HNR := hide hnr
      clear hi hcell hsrc hA2 hm hch hsll hblk hNn hr ha hlf hal hll hrest2 hch2 hnr
      obtain ⟨Nm, hNm⟩ : ∃ Nm, Nm = N + m := ⟨_, rfl⟩
      have hb3 : Nm ≤ 1000000000000 := by have := HNn.out; omega
      have e6 : IntKind.u64.wrap ((N : Int) + (m : Int)) = (Nm : Int) := by rw [IntKind.wrap_u64]; omega
      have HNm := hide hNm
      have HCN : Hid (cur.length = N) := HNn.out.symm
      by_cases hfull : r + m = 64
      · have e7 : Int.tmod (Nm : Int) 64 = 0 := by have := Hrr.out; rw [Int.tmod_eq_emod_of_nonneg (by omega)]; omega
        have hsl0 : ∀ w, Sem.run Tryz.prog (Instr.sliceAt 84 (.pointer (some ⟨g, 8, none⟩)) none none none) w = .ok (.slice (some ⟨g, 8, none⟩) 64 64) w := fun w => run_slice_arr0 (P := Tryz.prog) (t := 84) (e := 5) (N := 64) (by kernel_rfl) (by kernel_rfl) g 8 (by omega) w
        clear hNm
        go_wp2_with fail
        go_still_tail 10, (by kernel_rfl)
        change wpList _ _ _ _ _ wr.drew
        go_wp2_with (first | ((with_reducible refine wpl_copy rfl (.tmp 16) (.tmp 17) rfl g (8 + r) (64 - r) (64 - r) ad nr c m rfl rfl (cellsS a lf N) _ HB.out (cellsB ch) HCH.out HM.out HSRC.out HFIT.out (cellsB_one _) ?_); intro w2 hB2 hF2; rw [HSP.out] at hB2; have hc2 : w2.cell? ⟨g, 72, none⟩ = some (.int .u64 (N : Int)) := (by rw [hB2.cell, List.getElem?_toArray]; exact cellsS_last _ _ _ Hal.out Hsll.out); have hf2 := hB2.frozen 72) | (with_reducible refine wpl_cut (op := ⟨some 21, _, _, _, _, _⟩) rfl _ _ rfl (some ad) A2 nr c m .i64 rfl rfl hm1 hcap HA2.out ?_))
        have hB3 := hB2.set 72 (.int .u64 (Nm : Int))
        rw [List.setIfInBounds_toArray, cellsS_taken _ _ _ _ Hal.out Hsll.out] at hB3
        have hF3 : Frm (fun k => k = g) wr (w2.setCell ⟨g, 72, none⟩ (.int .u64 (Nm : Int))) := (((Frm.refl _ wr).drew).trans hF2 (fun _ _ h => h)).trans (Frm.setCell _ _ _ (fun k => k = g) rfl) (fun _ _ h => h)
        generalize w2.setCell ⟨g, 72, none⟩ (.int .u64 (Nm : Int)) = w3 at *
        have hG3 : Gl w3 := HG.out.frm hF3 (by omega) (by omega)
        have hs3 := HCUT.out.frm hF3
        clear hB2 hF2 hc2 hf2
        refine (addBlock_any g a (splice lf r ch) Nm w3 hG3 hB3 Hal.out Hsll.out hg2).mono ?_
        rintro e w4 ⟨rfl, hB4, hF4⟩
        have hl4 : 8 + 64 ≤ (cellsS (addB a (splice lf r ch)) (splice lf r ch) Nm).length := by rw [cellsS_length, Hsll.out, addB_length _ _ Hal.out]; omega
        have HL4 := hide hl4
        clear hl4
        go_wp2_with ((with_reducible refine wpl_clear rfl (.tmp 42) rfl g 8 64 64 rfl (by omega) _ _ hB4 HL4.out ?_); intro w5 hB5 hF5)
        go_roundw
        case rel =>
          have h5 : splice (cellsS (addB a (splice lf r ch)) (splice lf r ch) Nm) 8 (cellsB (List.replicate 64 0)) = cellsS (addB a (splice lf r ch)) (List.replicate 64 0) Nm := by
            rw [cellsS_splice _ _ (List.replicate 64 0) Nm 0 (addB_length _ _ Hal.out) (by rw [Hsll.out]; simp), splice_all _ _ (by rw [Hsll.out]; rfl)]
          rw [h5] at hB5
          have F : Frm (fun k => k = g) wr w5 := (hF3.trans hF4 (fun _ _ h => h)).trans hF5 (fun _ _ h => h)
          have hcl : cur.length % 64 + ch.length = 64 := by rw [Hch.out, HCN.out, ← Hrr.out]; exact hfull
          have hst : St w5 g (cur ++ ch) := by
            show Blk _ _ _ _
            rw [added_full _ _ hcl, left_done _ _ hcl, List.length_append, HCN.out, Hch.out, ← HNm.out, ← HCN.out, ← Ha.out, ← left_full _ _ hcl, ← Hlf.out, HCN.out, ← Hrr.out]
            exact hB5
          have fin : ∃ (pre rest : List UInt8) (A : Option Addr) (c' : Nat), b = pre ++ rest ∧ Value.slice A2 (nr - m) (c - m) = .slice A rest.length c' ∧ WriteInv w g (l ++ pre) rest A c' w5 := ⟨pre ++ ch, rest2, A2, c - m, by rw [HPR.out, List.append_assoc, HCH2.out], by rw [HR2.out], ⟨by rw [← List.append_assoc, ← HC.out]; exact hst, HG.out.frm F (by omega) (by omega), by rw [HR2.out]; exact HCUT.out.frm F, by rw [HR2.out]; omega, HF.out.trans F (fun _ _ h => h)⟩⟩
          first | exact fin | ((repeat apply Exists.intro); exact ⟨fin, rfl⟩)
        case measure => (change nr - m < nr; omega)
      · have e7 : Int.tmod (Nm : Int) 64 = ((r + m : Nat) : Int) := by have := Hrr.out; rw [Int.tmod_eq_emod_of_nonneg (by omega)]; omega
        obtain ⟨rm, hrm⟩ : ∃ rm, rm = r + m := ⟨_, rfl⟩
        rw [← hrm] at e7
        have e8 : ((rm : Int) == 0) = false := by simp; omega
        have hrm0 : ¬ rm = 0 := by omega
        have HRM := hide hrm
        clear hrm hNm
        go_wp2_with fail
        go_still_tail 10, (by kernel_rfl)
        change wpList _ _ _ _ _ wr.drew
        go_wp2_with (first | ((with_reducible refine wpl_copy rfl (.tmp 16) (.tmp 17) rfl g (8 + r) (64 - r) (64 - r) ad nr c m rfl rfl (cellsS a lf N) _ HB.out (cellsB ch) HCH.out HM.out HSRC.out HFIT.out (cellsB_one _) ?_); intro w2 hB2 hF2; rw [HSP.out] at hB2; have hc2 : w2.cell? ⟨g, 72, none⟩ = some (.int .u64 (N : Int)) := (by rw [hB2.cell, List.getElem?_toArray]; exact cellsS_last _ _ _ Hal.out Hsll.out); have hf2 := hB2.frozen 72) | (with_reducible refine wpl_cut (op := ⟨some 21, _, _, _, _, _⟩) rfl _ _ rfl (some ad) A2 nr c m .i64 rfl rfl hm1 hcap HA2.out ?_))
        have hB3 := hB2.set 72 (.int .u64 (Nm : Int))
        rw [List.setIfInBounds_toArray, cellsS_taken _ _ _ _ Hal.out Hsll.out] at hB3
        have hF3 : Frm (fun k => k = g) wr (w2.setCell ⟨g, 72, none⟩ (.int .u64 (Nm : Int))) := (((Frm.refl _ wr).drew).trans hF2 (fun _ _ h => h)).trans (Frm.setCell _ _ _ (fun k => k = g) rfl) (fun _ _ h => h)
        go_roundw
        case rel =>
          have hcl : cur.length % 64 + ch.length < 64 := by rw [Hch.out, HCN.out, ← Hrr.out]; omega
          have hst : St (w2.setCell ⟨g, 72, none⟩ (.int .u64 (Nm : Int))) g (cur ++ ch) := by
            show Blk _ _ _ _
            rw [added_step _ _ hcl, ← left_step _ _ hcl, List.length_append, HCN.out, Hch.out, ← HNm.out, ← HCN.out, ← Ha.out, ← Hlf.out, HCN.out, ← Hrr.out]
            exact hB3
          have fin : ∃ (pre rest : List UInt8) (A : Option Addr) (c' : Nat), b = pre ++ rest ∧ Value.slice A2 (nr - m) (c - m) = .slice A rest.length c' ∧ WriteInv w g (l ++ pre) rest A c' (w2.setCell ⟨g, 72, none⟩ (.int .u64 (Nm : Int))) := ⟨pre ++ ch, rest2, A2, c - m, by rw [HPR.out, List.append_assoc, HCH2.out], by rw [HR2.out], ⟨by rw [← List.append_assoc, ← HC.out]; exact hst, HG.out.frm hF3 (by omega) (by omega), by rw [HR2.out]; exact HCUT.out.frm hF3, by rw [HR2.out]; omega, HF.out.trans hF3 (fun _ _ h => h)⟩⟩
          first | exact fin | ((repeat apply Exists.intro); exact ⟨fin, rfl⟩)
        case measure => (change nr - m < nr; omega)
    · have hr0 : rest = [] := List.eq_nil_of_length_eq_zero (by omega)
      subst hr0
      rw [List.append_nil] at HPR
      have hs := hi.st
      rw [HC.out, ← HPR.out] at hs
      have H1 := hide hs
      have H2 := hide hi.frm
      clear hs hi HC HPR
      go_wp2_with fail
      exact end0 rfl rfl ⟨rfl, H1.out, H2.out⟩
theorem cellsS_one (a : List Nat) (b : List UInt8) (n : Nat) : ∀ u ∈ cellsS a b n, u.oneCell' = true := by
  intro u hu
  rcases List.mem_append.1 hu with h | h
  · exact cellsW_one a u h
  · rcases List.mem_append.1 h with h | h
    · exact cellsB_one b u h
    · simp at h; subst h; rfl
/-- The first k words as bytes, and noughts. -/
def outL (ws : List Nat) (k : Nat) : List UInt8 := (ws.take k).flatMap (be 4) ++ List.replicate (32 - 4 * k) 0
theorem outL_length (ws : List Nat) (k : Nat) (h : ws.length = 8) (hk : k ≤ 8) : (outL ws k).length = 32 := by
  rw [outL, List.length_append, flat4_length, List.length_take, List.length_replicate]
  omega
theorem outL_step (ws : List Nat) (k : Nat) (h : ws.length = 8) (hk : k < 8) : splice (cellsB (outL ws k)) (4 * k) (cellsB (be 4 (ws.getD k 0))) = cellsB (outL ws (k + 1)) := by
  have h1 : outL ws k = (ws.take k).flatMap (be 4) ++ (List.replicate 4 0 ++ List.replicate (32 - 4 * (k + 1)) 0) := by
    rw [outL, List.replicate_append_replicate]
    congr 2
    omega
  rw [h1, cellsB_append, cellsB_append, splice_mid _ _ _ _ _ (by rw [cellsB_length, flat4_length, List.length_take]; omega) (by rw [cellsB_length, cellsB_length, be_length]; rfl), ← cellsB_append, ← cellsB_append]
  congr 1
  have h2 : ws[k]? = some (ws.getD k 0) := by rw [List.getD_eq_getElem?_getD, List.getElem?_eq_getElem (by omega)]; rfl
  rw [outL, List.take_add_one, h2, List.flatMap_append]
  simp
theorem outL_all (ws : List Nat) (h : ws.length = 8) : outL ws 8 = ws.flatMap (be 4) := by
  rw [outL, List.take_of_length_le (by omega)]
  simp
structure SumInv (w : World) (g1 g4 : Nat) (l : List UInt8) (wr : World) : Prop where
  out : Blk wr g4 25 (cellsB l).toArray
  res : Blk wr g1 25 (cellsB (List.replicate 32 0)).toArray
  below : Below w.heap.size w wr
set_option maxRecDepth 100000 in
set_option maxHeartbeats 4000000 in
theorem sum_any (g : Nat) (l : List UInt8) (w : World) (hG : Gl w) (hS : St w g l) (hg0 : 4 ≤ w.heap.size) (hl : l.length ≤ 100000000000) :
    Calls Tryz.prog 81 #[.pointer (some ⟨g, 0, none⟩)] w fun e w' => e = .returned (.agg (cellsB (shaL l)).toArray) ∧ Below w.heap.size w w' := by
  have hlt := hS.lt
  have HS : Hid (Blk w g 146 (cellsS (addedN l (l.length / 64)) (leftL l) l.length).toArray) := hS
  have hal := addedN_length l (l.length / 64)
  have hll := leftL_length l
  obtain ⟨cs, hcs⟩ : ∃ cs, cs = cellsS (addedN l (l.length / 64)) (leftL l) l.length := ⟨_, rfl⟩
  rw [← hcs] at HS
  have hcl : cs.length = 73 := by rw [hcs, cellsS_length, hal, hll]
  have h72 : cs[72]? = some (.int .u64 (l.length : Int)) := by rw [hcs]; exact cellsS_last _ _ _ hal hll
  have H1c : Hid (∀ u ∈ cs, u.oneCell' = true) := by rw [hcs]; exact cellsS_one _ _ _
  have HX : Hid ((cs.drop 0).take 73 = cs) := by show _ = _; rw [List.drop_zero, List.take_of_length_le (by omega)]
  have HZS : Hid ((cellsS (List.replicate 8 0) (List.replicate 64 0) 0).toArray.size = 73) := by show _ = _; rw [List.size_toArray, cellsS_length]; rfl
  have HCL := hide hcl
  have H72 := hide h72
  have HCS := hide hcs
  clear hcl h72 hal hll hcs hS
  go_enter Tryz.func81, Tryz.ntmps81
  go_wp2_with (first
    | ((with_reducible refine wpl_alloca (op := ⟨some 2, _, _, _, _, _⟩) rfl _ rfl _ zero32 ?_); intro g1 w1 hB1 hs1 hF1; have hb1 := HS.out.frm hF1 (fun h => h))
    | ((with_reducible refine wpl_loada (op := ⟨some 9, _, _, _, _, _⟩) aggSt rfl _ rfl g 0 rfl _ cs cs hb1 HX.out (by rw [HCL.out]; exact Nat.le_refl _) ?_))
    | ((with_reducible refine wpl_alloca (op := ⟨some 3, _, _, _, _, _⟩) rfl _ rfl _ zeroSt ?_); intro g3 w3 hB3 hs3 hF3)
    | ((with_reducible refine wpl_storea aggSt rfl (.tmp 3) (.tmp 9) rfl g3 cs rfl rfl _ _ hB3 HCL.out HZS.out H1c.out ?_); intro w4 hB4 hF4; have hne : g ≠ g3 := (by have := hb1.lt; omega); have hb4 := (hb1.frm hF3 (fun h => h)).frm hF4 hne; have hc4 : w4.cell? ⟨g, 72, none⟩ = some (.int .u64 (l.length : Int)) := (by rw [hb4.cell, List.getElem?_toArray]; exact H72.out)))
  have hG4 : Gl w4 := ((hG.frm hF1 (fun h => h) (fun h => h)).frm hF3 (fun h => h) (fun h => h)).frm hF4 (by have := hF1.size; omega) (by have := hF1.size; omega)
  have hb14 := (hB1.frm hF3 (fun h => h)).frm hF4 (by have := hB1.lt; omega)
  have hst4 : St w4 g3 l := by show Blk _ _ _ _; rw [← HCS.out]; exact hB4
  have hB04 : Below w.heap.size w w4 := (((hF1.trans hF3 (fun _ _ h => h)).mono (T := fun k => k = g3) (fun _ _ h => h.elim)).trans hF4 (fun _ _ h => h)).below (Nat.le_refl _) (fun k hk => by have := hb1.lt; have := hF1.size; omega)
  have hlt3 := hB4.lt
  have hge3 : w.heap.size ≤ g3 := by have := hF1.size; omega
  have hne13 : g1 ≠ g3 := by have := hB1.lt; omega
  clear hB1 hB3 hF1 hF3 hF4 hb1 hb4 hB4 hc4 hG HS
  refine (end_any l.length w4 (by omega)).mono ?_
  rintro e w5 ⟨ge, rfl, hB5, hge, hbl5⟩
  have hF5 : Frm (fun _ => False) w4 w5 := Frm.of_below hbl5
  have hel := endL_le l.length
  have hse : Src w5 g3 (some ⟨ge, 0, none⟩) (endL l.length).length (endL l.length) := by
    have := hB5.rds
    rw [cellsB_length] at this
    exact ⟨this, fun _ a ha => by injection ha with ha; subst ha; show ge ≠ g3; omega⟩
  have hw := write_any g3 l (endL l.length) (some ⟨ge, 0, none⟩) (endL l.length).length w5 (hG4.frm hF5 (fun h => h) (fun h => h)) (hst4.frm hF5 (fun h => h)) hse (Nat.le_refl _) (by omega) (by omega)
  have HW := hide hw
  clear hw hse
  have hb15 := hb14.frm hF5 (fun h => h)
  have hB05 := below_frm hB04 hF5 hB04.size (fun k hk => hk.elim)
  have hG5 := hG4.frm hF5 (fun h => h) (fun h => h)
  have hs5 := hF5.size
  obtain ⟨ne, hne'⟩ : ∃ ne, ne = (endL l.length).length := ⟨_, rfl⟩
  rw [← hne'] at HW ⊢
  clear hne' hel hF5 hbl5 hB5
  go_wp2_with fail
  refine (HW.out).mono ?_
  rintro e w6 ⟨rfl, hst6, hF6⟩
  have hb16 := hb15.frm hF6 hne13
  have hG6 := hG5.frm hF6 (by omega) (by omega)
  have hB06 := below_frm hB05 hF6 hB05.size (fun k hk => by omega)
  have HSW : Hid ((shaWords (l ++ endL l.length)).length = 8) := shaWords_length _
  have HSL : Hid (shaL l = (shaWords (l ++ endL l.length)).flatMap (be 4)) := rfl
  have HWS : Hid (Ws (shaWords (l ++ endL l.length))) := plus_ws _ _
  have hst6' : Blk w6 g3 146 (cellsS (addedN (l ++ endL l.length) ((l ++ endL l.length).length / 64)) (leftL (l ++ endL l.length)) (l ++ endL l.length).length).toArray := hst6
  have hstate := fun w (hG : Gl w) (hb : Blk w g3 146 (cellsS (addedN (l ++ endL l.length) ((l ++ endL l.length).length / 64)) (leftL (l ++ endL l.length)) (l ++ endL l.length).length).toArray) (h2 : 4 ≤ w.heap.size) => state_any g3 _ _ _ w hG hb (addedN_length _ _) h2
  have hst : ∀ w, Gl w → Frm (fun _ => False) w6 w → 4 ≤ w.heap.size → Calls Tryz.prog 105 #[.pointer (some ⟨g3, 0, none⟩)] w fun e w' => e = .returned (.agg (cellsW (shaWords (l ++ endL l.length))).toArray) ∧ Below w.heap.size w w' := fun w hG hF h2 => hstate w hG (hst6'.frm hF (fun h => h)) h2
  have HST := hide hst
  have hlt6 := hst6'.lt
  clear hst hstate hst6' hst6 hst4 HW
  generalize shaWords (l ++ endL l.length) = ws at *
  go_wp2_with ((with_reducible refine wpl_alloca (op := ⟨some 4, _, _, _, _, _⟩) rfl _ rfl _ zero32 ?_); intro g4 w7 hB7 hs7 hF7)
  refine (HST.out w7 (hG6.frm hF7 (fun h => h) (fun h => h)) hF7 (by have := hF7.size; omega)).mono ?_
  rintro e w8 ⟨rfl, hbl8⟩
  have hF8 : Frm (fun _ => False) w7 w8 := Frm.of_below hbl8
  have hne14 : g1 ≠ g4 := by have := hb16.lt; omega
  have hge4 : w.heap.size ≤ g4 := by have := hB06.size; omega
  have hinv : SumInv w g1 g4 (outL ws 0) w8 := by
    refine ⟨hB7.frm hF8 (fun h => h), (hb16.frm hF7 (fun h => h)).frm hF8 (fun h => h), below_frm (below_frm hB06 hF7 hB06.size (fun k hk => hk.elim)) hF8 ?_ (fun k hk => hk.elim)⟩
    have := hB06.size; have := hF7.size; omega
  have HI := hide hinv
  clear hinv hbl8 hF8 hF7 hB7 HST hG6 hb16 hB06 hb15 hB05 hG5 hG4 hb14 hB04 hF6
  go_wp2_with fail
  go_loopw [17] (fun i wr => ∃ k : Nat, k ≤ 8 ∧ i = .int .i64 k ∧ SumInv w g1 g4 (outL ws k) wr) (fun i _ => 8 - (intOf i).toNat)
  case atStart => exact ⟨0, by omega, rfl, HI.out⟩
  case round =>
    clear HI
    obtain ⟨k, hk, rfl, hi⟩ := hrel
    by_cases hlt8 : k < 8
    · have hidx := index8 ws k hlt8 HSW.out
      have hv := HWS.out.get k
      have hstep := outL_step ws k HSW.out hlt8
      have hsl : ∀ w, Sem.run Tryz.prog (Instr.sliceAt 25 (.pointer (some ⟨g4, 0, none⟩)) (some (.int .i64 (4 * (k : Int)))) none none) w = .ok (.slice (some ⟨g4, 4 * k, none⟩) (32 - 4 * k) (32 - 4 * k)) w := fun w => by
        have := run_slice_arr (P := Tryz.prog) (t := 25) (e := 5) (N := 32) (by kernel_rfl) (by kernel_rfl) g4 0 .i64 (4 * k) (by omega) w
        simpa using this
      have hol : (cellsB (outL ws k)).length = 32 := by rw [cellsB_length, outL_length ws k HSW.out hk]
      have HOL := hide hol
      have HSTP := hide hstep
      clear hol hstep
      generalize ws.getD k 0 = x at *
      go_wp2_with fail
      refine (put_any g4 (4 * k) (32 - 4 * k) (32 - 4 * k) x _ _ wr (by omega) (by omega) hv hi.out (by rw [HOL.out]; omega)).mono ?_
      rintro e w9 ⟨rfl, hB9, hF9⟩
      rw [HSTP.out] at hB9
      have FIN : Hid (SumInv w g1 g4 (outL ws (k + 1)) w9) := ⟨hB9, hi.res.frm hF9 hne14, below_frm hi.below hF9 hi.below.size (fun k hk => by omega)⟩
      go_wp2_with fail
      go_roundw
      case rel => first | exact ⟨k + 1, by omega, by go_num, FIN.out⟩ | ((repeat apply Exists.intro); exact ⟨⟨k + 1, by omega, by go_num, FIN.out⟩, rfl⟩)
      case measure => simp [intOf]; omega
    · obtain rfl : k = 8 := by omega
      have hb := hi.out
      rw [outL_all ws HSW.out, ← HSL.out] at hb
      have HL : Hid ((cellsB (shaL l)).length = 32) := by show _ = _; rw [cellsB_length, shaL_length]
      have HX2 : Hid (((cellsB (shaL l)).drop 0).take 32 = cellsB (shaL l)) := by show _ = _; rw [List.drop_zero, List.take_of_length_le (by rw [HL.out]; exact Nat.le_refl _)]
      have HZ : Hid ((cellsB (List.replicate 32 0)).toArray.size = 32) := rfl
      have hres := hi.res
      have hbel := hi.below
      clear hi
      go_wp2_with (first
        | (with_reducible refine wpl_loada (op := ⟨some 27, _, _, _, _, _⟩) agg32 rfl _ rfl g4 0 rfl _ _ _ hb HX2.out (by rw [HL.out]; exact Nat.le_refl _) ?_)
        | ((with_reducible refine wpl_storea agg32 rfl (.tmp 2) (.tmp 27) rfl g1 (cellsB (shaL l)) rfl rfl _ _ hres HL.out HZ.out (cellsB_one _) ?_); intro w10 hB10 hF10))
      exact ret_agg agg32 rfl rfl g1 _ _ rfl hB10 HL.out ⟨rfl, below_frm hbel hF10 hbel.size (fun i hi => by omega)⟩
/-- Slices of bytes in a row. -/
def Prts (w : World) (PA : Option Addr) (vs : List Value) (ls : List (List UInt8)) : Prop := Rds w PA ls.length vs ∧ ∀ k, k < ls.length → ∃ v, vs[k]? = some v ∧ Prt w v (ls.getD k [])
theorem flat_take (ls : List (List UInt8)) (k : Nat) (h : k < ls.length) : (ls.take (k + 1)).flatten = (ls.take k).flatten ++ ls.getD k [] := by
  rw [List.take_succ_eq_append_getElem h, List.flatten_append, List.getD_eq_getElem?_getD, List.getElem?_eq_getElem h]
  simp
theorem flat_le (ls : List (List UInt8)) (k : Nat) : (ls.take k).flatten.length ≤ ls.flatten.length := by
  conv => rhs; rw [← List.take_append_drop k ls, List.flatten_append, List.length_append]
  omega
theorem St_nil {w : World} {g : Nat} (h : Blk w g 146 (cellsS (List.replicate 8 0) (List.replicate 64 0) 0).toArray) : St w g [] := h
structure PartsInv (w : World) (g3 : Nat) (l : List UInt8) (wr : World) : Prop where
  st : St wr g3 l
  gl : Gl wr
  below : Below w.heap.size w wr
set_option maxRecDepth 100000 in
set_option maxHeartbeats 4000000 in
theorem sums_any (PA : Option Addr) (c : Nat) (vs : List Value) (ls : List (List UInt8)) (w : World) (hG : Gl w) (hP : Prts w PA vs ls) (hg0 : 4 ≤ w.heap.size) (hl : ls.flatten.length ≤ 10000000000) (hn : ls.length ≤ 1000000) :
    Calls Tryz.prog 82 #[.slice PA ls.length c] w fun e w' => e = .returned (.agg (cellsB (shaL ls.flatten)).toArray) ∧ Below w.heap.size w w' := by
  have HP := hide hP
  clear hP
  obtain ⟨n, hnn⟩ : ∃ n, n = ls.length := ⟨_, rfl⟩
  have HN := hide hnn
  rw [← hnn] at hn ⊢
  clear hnn
  go_enter Tryz.func82, Tryz.ntmps82
  go_wp2_with (first
    | ((with_reducible refine wpl_alloca (op := ⟨some 2, _, _, _, _, _⟩) rfl _ rfl _ zero32 ?_); intro g1 w1 hB1 hs1 hF1)
    | ((with_reducible refine wpl_alloca (op := ⟨some 3, _, _, _, _, _⟩) rfl _ rfl _ zeroSt ?_); intro g3 w3 hB3 hs3 hF3))
  have hF03 : Frm (fun _ => False) w w3 := hF1.trans hF3 (fun _ _ h => h)
  have hB03 : Below w.heap.size w w3 := hF03.below (Nat.le_refl _) (fun k hk => hk.elim)
  have hst : PartsInv w g3 (ls.take 0).flatten w3 := ⟨St_nil hB3, hG.frm hF03 (fun h => h) (fun h => h), hB03⟩
  have hge3 : w.heap.size ≤ g3 := by have := hF1.size; omega
  have hne : g1 ≠ g3 := by have := hB1.lt; omega
  have hB1' := hB1.frm hF3 (fun h => h)
  have HI := hide (show PartsInv w g3 (ls.take 0).flatten w3 ∧ Blk w3 g1 25 (cellsB (List.replicate 32 0)).toArray from ⟨hst, hB1'⟩)
  clear hst hB1' hB1 hB3 hF1 hF3 hF03 hB03 hG
  go_loopw [8] (fun i wr => ∃ k : Nat, k ≤ n ∧ i = .int .i64 k ∧ PartsInv w g3 (ls.take k).flatten wr ∧ Blk wr g1 25 (cellsB (List.replicate 32 0)).toArray) (fun i _ => n - (intOf i).toNat)
  case atStart => exact ⟨0, by omega, rfl, HI.out⟩
  case round =>
    clear HI
    obtain ⟨k, hk, rfl, hi, hres⟩ := hrel
    by_cases hlt : k < n
    · have hkl : k < ls.length := by rw [← HN.out]; exact hlt
      obtain ⟨v, hv, A, c2, rfl, hc2, hr⟩ := HP.out.2 k hkl
      obtain ⟨pa, rfl, hcell⟩ := HP.out.1.2 (by omega)
      have hc0 := hcell k _ hv
      have hc1 : wr.cell? (pa.add k) = some (.slice A (ls.getD k []).length c2) := by rw [hi.below.cell (World.block_lt_of_cell? w _ hc0)]; exact hc0
      have hsrc : Src wr g3 A (ls.getD k []).length (ls.getD k []) := by
        refine ⟨hr.below hi.below, fun hp a ha => ?_⟩
        obtain ⟨a', ha', hcc⟩ := hr.2 hp
        rw [ha] at ha'
        injection ha' with ha'
        subst ha'
        have h0 : (cellsB (ls.getD k []))[0]? = some _ := List.getElem?_eq_getElem (by rw [cellsB_length]; exact hp)
        have := World.block_lt_of_cell? w _ (hcc 0 _ h0)
        rw [add_block] at this
        omega
      have hfl := flat_take ls k hkl
      have hle := flat_le ls (k + 1)
      have hlen : (ls.take k).flatten.length + (ls.getD k []).length ≤ 1000000000000 := by rw [hfl, List.length_append] at hle; omega
      have hw := write_any g3 (ls.take k).flatten (ls.getD k []) A c2 wr hi.gl hi.st hsrc hc2 (by omega) hlen
      rw [← hfl] at hw
      have HW := hide hw
      have HG := hide hi.gl
      have HB := hide hi.below
      have HR := hide hres
      clear hw hsrc hfl hle hlen hr hv hcell hc0 hi hres hkl
      generalize (ls.getD k []).length = m at *
      go_wp2_with fail
      refine HW.out.mono ?_
      rintro e w5 ⟨rfl, hst5, hF5⟩
      have FIN : Hid (PartsInv w g3 (ls.take (k + 1)).flatten w5 ∧ Blk w5 g1 25 (cellsB (List.replicate 32 0)).toArray) := ⟨⟨hst5, HG.out.frm hF5 (by omega) (by omega), below_frm HB.out hF5 HB.out.size (fun k hk => by omega)⟩, HR.out.frm hF5 hne⟩
      go_wp2_with fail
      go_roundw
      case rel => first | exact ⟨k + 1, by omega, by go_num, FIN.out⟩ | ((repeat apply Exists.intro); exact ⟨⟨k + 1, by omega, by go_num, FIN.out⟩, rfl⟩)
      case measure => simp [intOf]; omega
    · obtain rfl : k = n := by omega
      have hall : ls.take k = ls := List.take_of_length_le (by rw [← HN.out]; exact Nat.le_refl _)
      rw [hall] at hi
      have HB := hide hi.below
      have HS := hide (sum_any g3 ls.flatten wr hi.gl hi.st (by have := hi.below.size; omega) (by omega))
      have HL : Hid ((cellsB (shaL ls.flatten)).length = 32) := by show _ = _; rw [cellsB_length, shaL_length]
      have HZ : Hid ((cellsB (List.replicate 32 0)).toArray.size = 32) := rfl
      clear hi hall
      go_wp2_with fail
      refine HS.out.mono ?_
      rintro e w6 ⟨rfl, hb6⟩
      have hres6 := hres.frm (Frm.of_below (S := fun _ => False) hb6) (fun h => h)
      go_wp2_with ((with_reducible refine wpl_storea agg32 rfl (.tmp 2) (.tmp 15) rfl g1 (cellsB (shaL ls.flatten)) rfl rfl _ _ hres6 HL.out HZ.out (cellsB_one _) ?_); intro w10 hB10 hF10)
      exact ret_agg agg32 rfl rfl g1 _ _ rfl hB10 HL.out ⟨rfl, below_frm (HB.out.trans (hb6.mono HB.out.size)) hF10 (by have := HB.out.size; have := hb6.size; omega) (fun i hi => by omega)⟩
theorem under25 : Tryz.prog.underlying 25 = some (.array 32 5) := by kernel_rfl
def stL (l : List UInt8) : List Value := cellsS (addedN l (l.length / 64)) (leftL l) l.length
theorem St.blk {w : World} {g : Nat} {l : List UInt8} (h : St w g l) : Blk w g 146 (stL l).toArray := h
theorem St.of {w : World} {g : Nat} {l : List UInt8} (h : Blk w g 146 (stL l).toArray) : St w g l := h
theorem zero32_size : (cellsB (List.replicate 32 0)).toArray.size = 32 := rfl
theorem shaC_length (l : List UInt8) : (cellsB (shaL l)).length = 32 := by rw [cellsB_length, shaL_length]
theorem St.frm {S : Nat → Prop} {w w' : World} {g : Nat} {l : List UInt8} (h : St w g l) (f : Frm S w w') (hS : ¬ S g) : St w' g l := Blk.frm h f hS
inductive All2 (w : World) : List Value → List (List UInt8) → Prop
  | nil : All2 w [] []
  | cons {v : Value} {l : List UInt8} {vs : List Value} {ls : List (List UInt8)} : Prt w v l → All2 w vs ls → All2 w (v :: vs) (l :: ls)
theorem All2.length {w : World} {vs : List Value} {ls : List (List UInt8)} (h : All2 w vs ls) : vs.length = ls.length := by
  induction h with
  | nil => rfl
  | cons _ _ ih => simp [ih]
theorem All2.at {w : World} {vs : List Value} {ls : List (List UInt8)} (h : All2 w vs ls) : ∀ k, k < ls.length → ∃ v, vs[k]? = some v ∧ Prt w v (ls.getD k []) := by
  induction h with
  | nil => intro k hk; simp at hk
  | cons hp _ ih =>
    intro k hk
    rcases k with _ | k
    · exact ⟨_, rfl, hp⟩
    · obtain ⟨v, h1, h2⟩ := ih k (by simpa using hk)
      exact ⟨v, by simpa using h1, by simpa using h2⟩
theorem parts_alloc (w : World) (vs : List Value) (ls : List (List UInt8)) (e : TypeId) (h : All2 w vs ls) : Prts (w.alloc (.cells vs.toArray e)) (some ⟨w.heap.size, 0, none⟩) vs ls := by
  have hb : Below w.heap.size w (w.alloc (.cells vs.toArray e)) := (Frm.alloc w _ (fun _ => False)).below (Nat.le_refl _) (fun _ h => h.elim)
  refine ⟨by rw [← h.length]; exact alloc_rds w vs e (0, 0), fun k hk => ?_⟩
  obtain ⟨v, h1, h2⟩ := h.at k hk
  exact ⟨v, h1, h2.below hb⟩
/-- The sum of parts that lie in a row that was built just now. -/
theorem sums_row (w : World) (vs : List Value) (ls : List (List UInt8)) (hA : All2 w vs ls) (hG : Gl w) (hg0 : 4 ≤ w.heap.size) (hl : ls.flatten.length ≤ 10000000000) (hn : ls.length ≤ 1000000) :
    Calls Tryz.prog 82 #[.slice (some ⟨w.heap.size, 0, none⟩) vs.length vs.length] (w.alloc (.cells vs.toArray 46)) fun e w' => e = .returned (.agg (cellsB (shaL ls.flatten)).toArray) ∧ Below w.heap.size w w' := by
  have hF : Frm (fun _ => False) w (w.alloc (.cells vs.toArray 46)) := Frm.alloc _ _ _
  have hs := sums_any (some ⟨w.heap.size, 0, none⟩) vs.length vs ls _ (hG.frm hF (fun h => h) (fun h => h)) (parts_alloc w vs ls _ hA) (by have := hF.size; omega) hl hn
  rw [← hA.length] at hs
  exact hs.mono fun e w' ⟨he, hb⟩ => ⟨he, (hF.trans (Frm.of_below (S := fun _ => False) hb) (fun _ _ h => h)).below (Nat.le_refl _) (fun _ h => h.elim)⟩
/-- Seen from the law's own beginning w0. -/
structure Run (w0 w : World) : Prop where
  gl : Gl w
  below : Below w0.heap.size w0 w
  two : 4 ≤ w0.heap.size
theorem Run.frm {S : Nat → Prop} {w0 w w' : World} (h : Run w0 w) (f : Frm S w w') (hS : ∀ k, S k → w0.heap.size ≤ k) : Run w0 w' :=
  ⟨h.gl.frm f (fun s => by have := hS _ s; have := h.two; omega) (fun s => by have := hS _ s; have := h.two; omega), below_frm h.below f h.below.size hS, h.two⟩
theorem Run.size {w0 w : World} (h : Run w0 w) : w0.heap.size ≤ w.heap.size := h.below.size
end Go.Proofs.YtoiiiflnnhkjbaaGreatDoor
