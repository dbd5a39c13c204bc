/-
  The document's MAC and Derive.
-/
import Derived.Test.YtoiiiflnnhkjbaaGreatDoorHp
import Derived.Test.YtoiiiflnnhkjbaaGreatDoorORB
import Derived.OwnWalk
namespace Go.Proofs.YtoiiiflnnhkjbaaGreatDoor
set_option linter.unusedVariables false
set_option linter.unusedSimpArgs false
open Go.RowKit

set_option maxRecDepth 100000 in
set_option maxHeartbeats 4000000 in
theorem rpad_any (key : List UInt8) (c : UInt8) (w : World) (hk : key.length ≤ 100000) :
    Calls Tryz.prog 60 #[.string ⟨key.toArray⟩, .int .u8 (c.toNat : Int)] w fun e w' => e = .returned (.string ⟨(xorL c (padK key)).toArray⟩) ∧ Below w.heap.size w w' := by
  obtain ⟨n, hn⟩ : ∃ n, n = key.length := ⟨_, rfl⟩
  have y1 : (⟨key.toArray⟩ : ByteArray).size = n := by rw [txt_size, hn]
  have y2 : key.toArray.size = n := by rw [hn]; simp
  have y3 : key.length = n := hn.symm
  have HN : Hid (key.length = n) := hn.symm
  clear hn
  go_enter Tryz.func60, Tryz.ntmps60
  by_cases h64 : 64 < n
  · have h64' : (64 : Int) < (n : Int) := by omega
    have HKx : Hid (keyL key = shaL key) := by show _ = _; unfold keyL; rw [if_pos (by rw [HN.out]; exact h64)]
    go_wp2_with fail
    refine (rsum_any key w (by omega)).mono ?_
    rintro e w1 ⟨rfl, hb1⟩
    have HB := hide hb1
    obtain ⟨kx, hkx⟩ : ∃ kx, kx = shaL key := ⟨_, rfl⟩
    rw [← hkx] at HKx ⊢
    clear hb1 hkx y1 y2 y3
    obtain ⟨nk, hnk⟩ : ∃ n, n = kx.length := ⟨_, rfl⟩
    have z1 : (⟨kx.toArray⟩ : ByteArray).size = nk := by rw [txt_size, hnk]
    have z2 : kx.toArray.size = nk := by rw [hnk]; simp
    have z3 : kx.length = nk := hnk.symm
    have HKN : Hid (kx.length = nk) := hnk.symm
    have HPL := hide (padK_length key)
    have HPX : Hid (kx ++ List.replicate (64 - kx.length) 0 = padK key) := by show _ = _; rw [padK, HKx.out]
    obtain ⟨pk, hpk⟩ : ∃ pk, pk = padK key := ⟨_, rfl⟩
    have HPE : Hid (xorL c pk = xorL c (padK key)) := by show _ = _; rw [hpk]
    rw [← hpk] at HPL HPX
    have HXL : Hid ((xorL c pk).length = 64) := by show _ = _; rw [xorL_length]; exact HPL.out
    have hnb : nk ≤ 64 := by rw [hnk, ← HKx.out]; exact keyL_le key
    clear hnk hpk
    go_wp2_with fail
    go_loopw [5, 6, 7] (fun s i x wr => ∃ k : Nat, k ≤ 64 ∧ i = .int .i64 k ∧ s = .string ⟨((xorL c pk).take k).toArray⟩ ∧ Below w.heap.size w wr) (fun _ i _ _ => 64 - (intOf i).toNat)
    case atStart => exact ⟨0, by omega, rfl, rfl, HB.out⟩
    case round =>
      clear HB
      obtain ⟨k, hk, rfl, rfl, hbel⟩ := hrel
      by_cases hlt : k < 64
      · have hx := byte_xor (pk.getD k 0) c
        have hap : ((⟨((xorL c pk).take k).toArray⟩ : ByteArray) ++ ⟨#[pk.getD k 0 ^^^ c]⟩) = ⟨((xorL c pk).take (k + 1)).toArray⟩ := by
          have h1 : (xorL c pk).take (k + 1) = (xorL c pk).take k ++ [pk.getD k 0 ^^^ c] := by
            rw [List.take_succ_eq_append_getElem (by rw [HXL.out]; exact hlt)]
            congr 2
            simp [xorL, List.getD_eq_getElem?_getD, List.getElem?_eq_getElem (show k < pk.length by rw [HPL.out]; exact hlt)]
          rw [h1]
          exact txt_append _ [pk.getD k 0 ^^^ c]
        have hz1 : (⟨((xorL c pk).take k).toArray⟩ : ByteArray).size = k := by rw [txt_size, List.length_take, HXL.out]; omega
        have hcv : Sem.run Tryz.prog (convert 46 9 (.slice (some ⟨wr.heap.size, 0, none⟩) 1 1)) (wr.alloc (.cells #[.int .u8 ((pk.getD k 0 ^^^ c).toNat : Int)] 5)) = .ok (.string ⟨#[pk.getD k 0 ^^^ c]⟩) (wr.alloc (.cells #[.int .u8 ((pk.getD k 0 ^^^ c).toNat : Int)] 5)) :=
          conv_rds _ _ _ 5 under24 under5 under9 _ 1 1 [pk.getD k 0 ^^^ c] (Rds.new1 _ _ _)
        have HBn := hide (below_frm hbel (Frm.alloc wr (.cells #[.int .u8 ((pk.getD k 0 ^^^ c).toNat : Int)] 5) (fun _ => False)) hbel.size (fun _ h => h.elim))
        by_cases hkn : k < nk
        · have hpx : pk.getD k 0 = kx.getD k 0 := by rw [← HPX.out, List.getD_eq_getElem?_getD, List.getD_eq_getElem?_getD, List.getElem?_append_left (by rw [HKN.out]; exact hkn)]
          have hix : ∀ w, Sem.run Tryz.prog (Instr.index 9 (.string ⟨kx.toArray⟩) (.int .i64 (k : Int))) w = .ok (.int .u8 ((pk.getD k 0).toNat : Int)) w := fun w => by rw [hpx]; exact str_index kx k (by rw [HKN.out]; exact hkn) w
          have hki : (k : Int) < (nk : Int) := by omega
          clear hpx hbel
          generalize hxx : pk.getD k 0 ^^^ c = x at *
          clear hxx
          generalize (pk.getD k 0).toNat = pn at *
          generalize c.toNat = cn at *
          generalize (⟨((xorL c pk).take k).toArray⟩ : ByteArray) = B0 at *
          generalize hB1 : (⟨((xorL c pk).take (k + 1)).toArray⟩ : ByteArray) = B1 at *
          have HB1 := hide hB1
          clear hB1
          go_wp2_with fail
          go_roundw
          case rel => first | exact ⟨k + 1, by omega, by go_num, by rw [HB1.out], HBn.out⟩ | ((repeat apply Exists.intro); exact ⟨⟨k + 1, by omega, by go_num, by rw [HB1.out], HBn.out⟩, rfl⟩)
          case measure => simp [intOf]; omega
        · have hpx : pk.getD k 0 = 0 := by
            rw [← HPX.out, List.getD_eq_getElem?_getD, List.getElem?_append_right (by rw [HKN.out]; omega), List.getElem?_replicate]
            split <;> rfl
          have hki : ¬ ((k : Int) < (nk : Int)) := by omega
          have hpn : ((pk.getD k 0).toNat : Int) = 0 := by rw [hpx]; rfl
          rw [hpn] at hx
          clear hpx hbel hpn
          generalize hxx : pk.getD k 0 ^^^ c = x at *
          clear hxx
          generalize c.toNat = cn at *
          generalize (⟨((xorL c pk).take k).toArray⟩ : ByteArray) = B0 at *
          generalize hB1 : (⟨((xorL c pk).take (k + 1)).toArray⟩ : ByteArray) = B1 at *
          have HB1 := hide hB1
          clear hB1
          go_wp2_with fail
          go_roundw
          case rel => first | exact ⟨k + 1, by omega, by go_num, by rw [HB1.out], HBn.out⟩ | ((repeat apply Exists.intro); exact ⟨⟨k + 1, by omega, by go_num, by rw [HB1.out], HBn.out⟩, rfl⟩)
          case measure => simp [intOf]; omega
      · obtain rfl : k = 64 := by omega
        have hall : (xorL c pk).take 64 = xorL c pk := List.take_of_length_le (by rw [HXL.out]; exact Nat.le_refl _)
        rw [hall]
        clear hall
        go_wp2_with fail
        go_ret
        exact ⟨by rw [HPE.out]; rfl, hbel⟩
  · have h64' : ¬ ((64 : Int) < (n : Int)) := by omega
    have HKx : Hid (keyL key = key) := by show _ = _; unfold keyL; rw [if_neg (by rw [HN.out]; exact h64)]
    have HB := hide (Below.refl w.heap.size w)
    have HKN : Hid (key.length = n) := HN.out
    have HPL := hide (padK_length key)
    have HPX : Hid (key ++ List.replicate (64 - key.length) 0 = padK key) := by show _ = _; rw [padK, HKx.out]
    obtain ⟨pk, hpk⟩ : ∃ pk, pk = padK key := ⟨_, rfl⟩
    have HPE : Hid (xorL c pk = xorL c (padK key)) := by show _ = _; rw [hpk]
    rw [← hpk] at HPL HPX
    have HXL : Hid ((xorL c pk).length = 64) := by show _ = _; rw [xorL_length]; exact HPL.out
    clear hpk
    go_wp2_with fail
    go_loopw [5, 6, 7] (fun s i x wr => ∃ k : Nat, k ≤ 64 ∧ i = .int .i64 k ∧ s = .string ⟨((xorL c pk).take k).toArray⟩ ∧ Below w.heap.size w wr) (fun _ i _ _ => 64 - (intOf i).toNat)
    case atStart => exact ⟨0, by omega, rfl, rfl, HB.out⟩
    case round =>
      clear HB
      obtain ⟨k, hk, rfl, rfl, hbel⟩ := hrel
      by_cases hlt : k < 64
      · have hx := byte_xor (pk.getD k 0) c
        have hap : ((⟨((xorL c pk).take k).toArray⟩ : ByteArray) ++ ⟨#[pk.getD k 0 ^^^ c]⟩) = ⟨((xorL c pk).take (k + 1)).toArray⟩ := by
          have h1 : (xorL c pk).take (k + 1) = (xorL c pk).take k ++ [pk.getD k 0 ^^^ c] := by
            rw [List.take_succ_eq_append_getElem (by rw [HXL.out]; exact hlt)]
            congr 2
            simp [xorL, List.getD_eq_getElem?_getD, List.getElem?_eq_getElem (show k < pk.length by rw [HPL.out]; exact hlt)]
          rw [h1]
          exact txt_append _ [pk.getD k 0 ^^^ c]
        have hz1 : (⟨((xorL c pk).take k).toArray⟩ : ByteArray).size = k := by rw [txt_size, List.length_take, HXL.out]; omega
        have hcv : Sem.run Tryz.prog (convert 46 9 (.slice (some ⟨wr.heap.size, 0, none⟩) 1 1)) (wr.alloc (.cells #[.int .u8 ((pk.getD k 0 ^^^ c).toNat : Int)] 5)) = .ok (.string ⟨#[pk.getD k 0 ^^^ c]⟩) (wr.alloc (.cells #[.int .u8 ((pk.getD k 0 ^^^ c).toNat : Int)] 5)) :=
          conv_rds _ _ _ 5 under24 under5 under9 _ 1 1 [pk.getD k 0 ^^^ c] (Rds.new1 _ _ _)
        have HBn := hide (below_frm hbel (Frm.alloc wr (.cells #[.int .u8 ((pk.getD k 0 ^^^ c).toNat : Int)] 5) (fun _ => False)) hbel.size (fun _ h => h.elim))
        by_cases hkn : k < n
        · have hpx : pk.getD k 0 = key.getD k 0 := by rw [← HPX.out, List.getD_eq_getElem?_getD, List.getD_eq_getElem?_getD, List.getElem?_append_left (by rw [HKN.out]; exact hkn)]
          have hix : ∀ w, Sem.run Tryz.prog (Instr.index 9 (.string ⟨key.toArray⟩) (.int .i64 (k : Int))) w = .ok (.int .u8 ((pk.getD k 0).toNat : Int)) w := fun w => by rw [hpx]; exact str_index key k (by rw [HKN.out]; exact hkn) w
          have hki : (k : Int) < (n : Int) := by omega
          clear hpx hbel
          generalize hxx : pk.getD k 0 ^^^ c = x at *
          clear hxx
          generalize (pk.getD k 0).toNat = pn at *
          generalize c.toNat = cn at *
          generalize (⟨((xorL c pk).take k).toArray⟩ : ByteArray) = B0 at *
          generalize hB1 : (⟨((xorL c pk).take (k + 1)).toArray⟩ : ByteArray) = B1 at *
          have HB1 := hide hB1
          clear hB1
          go_wp2_with fail
          go_roundw
          case rel => first | exact ⟨k + 1, by omega, by go_num, by rw [HB1.out], HBn.out⟩ | ((repeat apply Exists.intro); exact ⟨⟨k + 1, by omega, by go_num, by rw [HB1.out], HBn.out⟩, rfl⟩)
          case measure => simp [intOf]; omega
        · have hpx : pk.getD k 0 = 0 := by
            rw [← HPX.out, List.getD_eq_getElem?_getD, List.getElem?_append_right (by rw [HKN.out]; omega), List.getElem?_replicate]
            split <;> rfl
          have hki : ¬ ((k : Int) < (n : Int)) := by omega
          have hpn : ((pk.getD k 0).toNat : Int) = 0 := by rw [hpx]; rfl
          rw [hpn] at hx
          clear hpx hbel hpn
          generalize hxx : pk.getD k 0 ^^^ c = x at *
          clear hxx
          generalize c.toNat = cn at *
          generalize (⟨((xorL c pk).take k).toArray⟩ : ByteArray) = B0 at *
          generalize hB1 : (⟨((xorL c pk).take (k + 1)).toArray⟩ : ByteArray) = B1 at *
          have HB1 := hide hB1
          clear hB1
          go_wp2_with fail
          go_roundw
          case rel => first | exact ⟨k + 1, by omega, by go_num, by rw [HB1.out], HBn.out⟩ | ((repeat apply Exists.intro); exact ⟨⟨k + 1, by omega, by go_num, by rw [HB1.out], HBn.out⟩, rfl⟩)
          case measure => simp [intOf]; omega
      · obtain rfl : k = 64 := by omega
        have hall : (xorL c pk).take 64 = xorL c pk := List.take_of_length_le (by rw [HXL.out]; exact Nat.le_refl _)
        rw [hall]
        clear hall
        go_wp2_with fail
        go_ret
        exact ⟨by rw [HPE.out]; rfl, hbel⟩
set_option maxRecDepth 100000 in
set_option maxHeartbeats 2000000 in
theorem rmac_any (key m : List UInt8) (w : World) (hk : key.length ≤ 100000) (hm : m.length ≤ 50000) :
    Calls Tryz.prog 39 #[.string ⟨key.toArray⟩, .string ⟨m.toArray⟩] w fun e w' => e = .returned (.string ⟨(macL key m).toArray⟩) ∧ Below w.heap.size w w' := by
  have HMA : Hid (macL key m = shaL (xorL 92 (padK key) ++ shaL (xorL 54 (padK key) ++ m))) := rfl
  have h54 : Hid ((xorL 54 (padK key)).length = 64) := by show _ = _; rw [xorL_length, padK_length]
  have h92 : Hid ((xorL 92 (padK key)).length = 64) := by show _ = _; rw [xorL_length, padK_length]
  have p92 := hide (fun w => rpad_any key 92 w hk)
  have p54 := hide (fun w => rpad_any key 54 w hk)
  generalize xorL 54 (padK key) = ip at *
  generalize xorL 92 (padK key) = op at *
  have z1 : (⟨ip.toArray⟩ : ByteArray).size = 64 := by rw [txt_size, h54.out]
  have z2 : (⟨m.toArray⟩ : ByteArray).size ≤ 50000 := by rw [txt_size]; exact hm
  have z3 : (⟨op.toArray⟩ : ByteArray).size = 64 := by rw [txt_size, h92.out]
  have ap1 := txt_append ip m
  have ap2 := txt_append op (shaL (ip ++ m))
  have z4 : (⟨(shaL (ip ++ m)).toArray⟩ : ByteArray).size = 32 := by rw [txt_size, shaL_length]
  have r1 := hide (fun w => rsum_any (ip ++ m) w (by rw [List.length_append, h54.out]; omega))
  have r2 := hide (fun w => rsum_any (op ++ shaL (ip ++ m)) w (by rw [List.length_append, h92.out, shaL_length]; omega))
  generalize shaL (ip ++ m) = sm at *
  generalize (⟨(ip ++ m).toArray⟩ : ByteArray) = B1 at *
  generalize (⟨(op ++ sm).toArray⟩ : ByteArray) = B2 at *
  generalize (⟨ip.toArray⟩ : ByteArray) = Bi at *
  generalize (⟨op.toArray⟩ : ByteArray) = Bo at *
  generalize (⟨m.toArray⟩ : ByteArray) = Bm at *
  generalize (⟨sm.toArray⟩ : ByteArray) = Bs at *
  go_enter Tryz.func39, Tryz.ntmps39
  go_wp2_with fail
  refine (p92.out w).mono ?_
  rintro e w1 ⟨rfl, b1⟩
  go_wp2_with fail
  refine (p54.out w1).mono ?_
  rintro e w2 ⟨rfl, b2⟩
  go_wp2_with fail
  refine (r1.out w2).mono ?_
  rintro e w3 ⟨rfl, b3⟩
  go_wp2_with fail
  refine (r2.out w3).mono ?_
  rintro e w4 ⟨rfl, b4⟩
  go_wp2_with fail
  go_ret
  exact ⟨by rw [HMA.out]; rfl, ((b1.trans (b2.mono b1.size)).trans (b3.mono (Nat.le_trans b1.size b2.size))).trans (b4.mono (Nat.le_trans (Nat.le_trans b1.size b2.size) b3.size))⟩
def strV (p : List UInt8) : Value := .string ⟨p.toArray⟩
theorem Rows2.below {w w' : World} {A : Option Addr} {len : Nat} {L : Nat → List UInt8} (h : Rows2 w A len L) (hb : Below w.heap.size w w') : Rows2 w' A len L := by
  intro hp
  obtain ⟨a, rfl, hr⟩ := h hp
  refine ⟨a, rfl, fun r hr' => ?_⟩
  obtain ⟨Ar, cr, h1, h2, h3, h4⟩ := hr r hr'
  exact ⟨Ar, cr, by rw [hb.cell (World.block_lt_of_cell? w _ h1)]; exact h1, h2, h3, h4.below hb⟩
theorem measured_take (lab : List UInt8) (ps : List (List UInt8)) (k : Nat) (h : k < ps.length) : (measured (lab :: ps.take (k + 1))).flatten = (measured (lab :: ps.take k)).flatten ++ be 4 (ps.getD k []).length ++ ps.getD k [] := by
  have h1 : lab :: ps.take (k + 1) = (lab :: ps.take k) ++ [ps.getD k []] := by
    rw [List.take_succ_eq_append_getElem h, List.getD_eq_getElem?_getD, List.getElem?_eq_getElem h]
    rfl
  rw [h1, measured_snoc, List.flatten_append]
  simp
theorem measured_le (lab : List UInt8) (ps : List (List UInt8)) (k : Nat) : (measured (lab :: ps.take k)).flatten.length ≤ (measured (lab :: ps)).flatten.length := by
  rw [measured_flat, measured_flat]
  have h := flat_le ps k
  simp only [List.length_cons, List.flatten_cons, List.length_append, List.length_take]
  omega
set_option maxHeartbeats 8000000 in
set_option maxRecDepth 100000 in
theorem rderive_any (key lab : List UInt8) (TA : Option Addr) (tc : Nat) (ps : List (List UInt8)) (w : World) (hrow : Rds w TA ps.length (ps.map strV)) (hk : key.length ≤ 100000) (hl : (measured (lab :: ps)).flatten.length ≤ 50000) :
    Calls Tryz.prog 58 #[.string ⟨key.toArray⟩, .string ⟨lab.toArray⟩, .slice TA ps.length tc] w fun e w' => e = .returned (.string ⟨(deriveL key lab ps).toArray⟩) ∧ Below w.heap.size w w' := by
  have HROW := hide hrow
  obtain ⟨N, hN⟩ : ∃ n, n = ps.length := ⟨_, rfl⟩
  have HN := hide hN
  rw [← hN]
  obtain ⟨nl, hnl⟩ : ∃ n, n = lab.length := ⟨_, rfl⟩
  have z1 : (⟨lab.toArray⟩ : ByteArray).size = nl := by rw [txt_size, hnl]
  have z2 : lab.toArray.size = nl := by rw [hnl]; simp
  have z3 : lab.length = nl := hnl.symm
  have HML := hide (fun k => Nat.le_trans (measured_le lab ps k) hl)
  have hnl2 : nl ≤ 50000 := by
    have h1 : (measured (lab :: ps)).flatten.length = 4 * (lab :: ps).length + (lab :: ps).flatten.length := measured_flat _
    rw [List.flatten_cons, List.length_append, z3] at h1
    omega
  have hN2 : N ≤ 50000 := by
    have h1 : (measured (lab :: ps)).flatten.length = 4 * (lab :: ps).length + (lab :: ps).flatten.length := measured_flat _
    rw [List.length_cons, ← hN] at h1
    omega
  have e1 : IntKind.u64.wrap (nl : Int) = (nl : Int) := by rw [IntKind.wrap_u64]; omega
  have HM0 : Hid (be 4 nl ++ lab = (measured (lab :: ps.take 0)).flatten) := by show _ = _; rw [← z3]; simp [measured]
  have ap0 := txt_append (be 4 nl) lab
  rw [HM0.out] at ap0
  have zb : (⟨(be 4 nl).toArray⟩ : ByteArray).size = 4 := by rw [txt_size, be_length]
  have zb2 : (be 4 nl).length = 4 := be_length _ _
  have HT0 := hide (text_any nl 4 w (by omega) (by omega))
  clear hnl hN hrow hl
  go_enter Tryz.func58, Tryz.ntmps58
  go_wp2_with fail
  refine HT0.out.mono ?_
  rintro e w1 ⟨rfl, hb1⟩
  clear HT0
  generalize hBL : (⟨lab.toArray⟩ : ByteArray) = BL at *
  generalize hBT : (⟨(be 4 nl).toArray⟩ : ByteArray) = BT at *
  go_wp2_with fail
  clear ap0 zb zb2 e1 z1 z2 z3 hBT hBL
  go_loopw [7, 8] (fun s i wr => ∃ k : Nat, k ≤ N ∧ i = .int .i64 k ∧ s = .string ⟨((measured (lab :: ps.take k)).flatten).toArray⟩ ∧ Below w.heap.size w wr) (fun _ i _ => N - (intOf i).toNat)
  case atStart => exact ⟨0, by omega, rfl, rfl, hb1⟩
  case round =>
    clear hb1
    obtain ⟨k, hk', rfl, rfl, hbel⟩ := hrel
    by_cases hlt : k < N
    · have hkl : k < ps.length := by rw [← HN.out]; exact hlt
      obtain ⟨ta, rfl, hcell⟩ := HROW.out.2 (by omega)
      have hc0 := hcell k (strV (ps.getD k [])) (by rw [List.getElem?_map, List.getElem?_eq_getElem hkl, List.getD_eq_getElem?_getD, List.getElem?_eq_getElem hkl]; rfl)
      have hc1 : wr.cell? (ta.add k) = some (.string ⟨(ps.getD k []).toArray⟩) := by rw [hbel.cell (World.block_lt_of_cell? w _ hc0)]; exact hc0
      have hft := measured_take lab ps k hkl
      have hle := HML.out (k + 1)
      rw [hft, List.length_append, List.length_append, be_length] at hle
      obtain ⟨np, hnp⟩ : ∃ np, np = (ps.getD k []).length := ⟨_, rfl⟩
      have e1 : IntKind.u64.wrap (np : Int) = (np : Int) := by rw [IntKind.wrap_u64]; omega
      have HTX := hide (fun W => text_any np 4 W (by omega) (by omega))
      have ap1 := txt_append ((measured (lab :: ps.take k)).flatten) (be 4 np)
      have ap2 := txt_append ((measured (lab :: ps.take k)).flatten ++ be 4 np) (ps.getD k [])
      have hz0 : (⟨((measured (lab :: ps.take k)).flatten).toArray⟩ : ByteArray).size ≤ 50000 := by rw [txt_size]; omega
      have hz1 : (⟨((measured (lab :: ps.take k)).flatten ++ be 4 np).toArray⟩ : ByteArray).size ≤ 50010 := by rw [txt_size, List.length_append, be_length]; omega
      have hz2 : (⟨(be 4 np).toArray⟩ : ByteArray).size = 4 := by rw [txt_size, be_length]
      have hz3 : (⟨(ps.getD k []).toArray⟩ : ByteArray).size = np := by rw [txt_size, hnp]
      have hnp2 : np ≤ 50000 := by omega
      rw [hnp] at ap2
      rw [← hft] at ap2
      rw [← hnp] at ap2
      have HC0 : Hid (wr.drew.cell? (ta.add k) = some (.string ⟨(ps.getD k []).toArray⟩)) := hc1
      have HB0 : Hid (Below w.heap.size w wr.drew) := ⟨hbel.os, hbel.tape, hbel.output, hbel.size, hbel.block⟩
      have hpb : (ta.add k).block < w.heap.size := World.block_lt_of_cell? w _ hc0
      have hki : (k : Int) < (N : Int) := by omega
      clear hft hle hnp hc0 hc1 hcell hbel
      generalize (⟨(ps.getD k []).toArray⟩ : ByteArray) = Bp at *
      generalize (⟨((measured (lab :: ps.take k)).flatten ++ be 4 np).toArray⟩ : ByteArray) = B1 at *
      generalize (⟨((measured (lab :: ps.take k)).flatten).toArray⟩ : ByteArray) = B0 at *
      generalize (⟨(be 4 np).toArray⟩ : ByteArray) = Bt at *
      generalize hB2 : (⟨((measured (lab :: ps.take (k + 1))).flatten).toArray⟩ : ByteArray) = B2 at *
      have HB2 := hide hB2
      have hq1 : ¬ (9223372036854775807 < B0.size + 4) := by omega
      have hq2 : ¬ (9223372036854775807 < B1.size + np) := by omega
      clear hB2
      go_wp2_with fail
      refine wp_region_held_drew (S := fun W => W.cell? (ta.add k) = some (.string Bp)) (by kernel_rfl) (HC0.out) ?_
      intro hHeld
      obtain ⟨W0, hW0⟩ : ∃ W0, W0 = wr.drew := ⟨_, rfl⟩
      rw [← hW0] at HC0 HB0 hHeld ⊢
      clear hW0
      refine tkH 0 (v := ?v1) rfl ?hy1 ?rest1
      case hy1 => (intro w hSw; (try dsimp only at hSw); go_simp; try with_reducible rfl)
      try simp only [Act.put, PTs]
      refine tkH 1 (v := ?v2) rfl ?hy2 ?rest2
      case hy2 => (intro w hSw; (try dsimp only at hSw); go_simp; try with_reducible rfl)
      try simp only [Act.put, PTs]
      refine tkH 2 (v := ?v3) rfl ?hy3 ?rest3
      case hy3 => (intro w hSw; (try dsimp only at hSw); go_simp; try with_reducible rfl)
      try simp only [Act.put, PTs]
      refine tkH 3 (v := ?v4) rfl ?hy4 ?rest4
      case hy4 => (intro w hSw; (try dsimp only at hSw); go_simp; try with_reducible rfl)
      try simp only [Act.put, PTs]
      refine tkH 4 (v := ?v5) rfl ?hy5 ?rest5
      case hy5 => (intro w hSw; (try dsimp only at hSw); go_simp; try with_reducible rfl)
      try simp only [Act.put, PTs]
      refine tkH 5 (v := ?v6) rfl ?hy6 ?rest6
      case hy6 => (intro w hSw; (try dsimp only at hSw); go_simp; try with_reducible rfl)
      try simp only [Act.put, PTs]
      refine tkH 6 (v := ?v7) rfl ?hy7 ?rest7
      case hy7 => (intro w hSw; (try dsimp only at hSw); go_simp; try with_reducible rfl)
      try simp only [Act.put, PTs]
      refine tkH 9 (v := ?v8) rfl ?hy8 ?rest8
      case hy8 => (intro w hSw; (try dsimp only at hSw); go_simp; try with_reducible rfl)
      try simp only [Act.put, PTs]
      refine tkH 10 (v := ?v9) rfl ?hy9 ?rest9
      case hy9 => (intro w hSw; (try dsimp only at hSw); go_simp; try with_reducible rfl)
      try simp only [Act.put, PTs]
      refine tkH 11 (v := ?v10) rfl ?hy10 ?rest10
      case hy10 => (intro w hSw; (try dsimp only at hSw); go_simp; try with_reducible rfl)
      try simp only [Act.put, PTs]
      refine tkH 12 (v := ?v11) rfl ?hy11 ?rest11
      case hy11 => (intro w hSw; (try dsimp only at hSw); go_simp; try with_reducible rfl)
      try simp only [Act.put, PTs]
      refine rdH 7 rfl (by kernel_rfl) (fun K hK => ?_)
      go_simp
      refine (HTX.out _).mono ?_
      rintro e W1 ⟨rfl, hb1⟩
      have HC1 := hide (show W1.cell? (ta.add k) = some (.string Bp) by rw [hb1.cell (World.block_lt_of_cell? _ _ HC0.out)]; exact HC0.out)
      have HB1 := hide (HB0.out.trans (hb1.mono HB0.out.size))
      clear hb1
      refine hK.out _ _ (HC1.out) (fun hHeld => ?_)
      clear hK K
      refine tkH 8 (v := ?v12) rfl ?hy12 ?rest12
      case hy12 => (intro w hSw; (try dsimp only at hSw); go_simp; try with_reducible rfl)
      try simp only [Act.put, PTs]
      refine tkH 13 (v := ?v13) rfl ?hy13 ?rest13
      case hy13 => (intro w hSw; (try dsimp only at hSw); go_simp; try with_reducible rfl)
      try simp only [Act.put, PTs]
      refine tkH 14 (v := ?v14) rfl ?hy14 ?rest14
      case hy14 => (intro w hSw; (try dsimp only at hSw); go_simp; try with_reducible rfl)
      try simp only [Act.put, PTs]
      refine wpAnyH_done (by kernel_rfl) ?_ _
      go_wp2_with fail
      go_roundw
      case rel => first | exact ⟨k + 1, by omega, by go_num, by rw [HB2.out], HB1.out⟩ | ((repeat apply Exists.intro); exact ⟨⟨k + 1, by omega, by go_num, by rw [HB2.out], HB1.out⟩, rfl⟩)
      case measure => simp [intOf]; omega
    · obtain rfl : k = N := by omega
      have hall : ps.take k = ps := List.take_of_length_le (by rw [← HN.out]; exact Nat.le_refl _)
      rw [hall]
      have hmm := hide (rmac_any key (measured (lab :: ps)).flatten wr hk (by have := HML.out k; rw [hall] at this; exact this))
      have HDE : Hid (deriveL key lab ps = macL key (measured (lab :: ps)).flatten) := rfl
      clear hall
      go_wp2_with fail
      refine hmm.out.mono ?_
      rintro e w5 ⟨rfl, hb5⟩
      go_wp2_with fail
      go_ret
      exact ⟨by rw [HDE.out]; rfl, hbel.trans (hb5.mono hbel.size)⟩
end Go.Proofs.YtoiiiflnnhkjbaaGreatDoor
