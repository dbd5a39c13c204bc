/-
  The document's codes.
-/
import Derived.Test.YtbicjcpdcopbhaaDoorRSum
import Derived.Test.YtbicjcpdcopbhaaDoorHm10
namespace Go.Proofs.YtbicjcpdcopbhaaDoor
set_option linter.unusedVariables false
set_option linter.unusedSimpArgs false
open Go.RowKit

theorem str_index (l : List UInt8) (k : Nat) (hk : k < l.length) (w : World) : Sem.run Tryd.prog (Instr.index 9 (.string ⟨l.toArray⟩) (.int .i64 (k : Int))) w = .ok (.int .u8 ((l.getD k 0).toNat : Int)) w := by
  have h1 : (⟨l.toArray⟩ : ByteArray)[k]? = some (l.getD k 0) := by
    rw [List.getD_eq_getElem?_getD, List.getElem?_eq_getElem hk]
    exact (dif_pos (show k < (⟨l.toArray⟩ : ByteArray).size by rw [txt_size]; exact hk)).trans (congrArg some rfl)
  have hsz : (⟨l.toArray⟩ : ByteArray).size = l.length := txt_size l
  simp only [Instr.index, asIntOf, Sem.run_bind, run_underlying under9, Result.andThen_ok]
  simp [h1]

set_option maxHeartbeats 4000000 in
theorem rpad_any (key : List UInt8) (c : UInt8) (w : World) (hk : key.length ≤ 100000) :
    Calls Tryd.prog 49 #[.string ⟨key.toArray⟩, .int .u8 (c.toNat : Int)] w fun e w' => e = .returned (.string ⟨(xorL c (padK key)).toArray⟩) ∧ Below w.heap.size w w' := by
  obtain ⟨n, hn⟩ : ∃ n, n = key.length := ⟨_, rfl⟩
  have y1 : (⟨key.toArray⟩ : ByteArray).size = n := by rw [txt_size, hn]
  have y2 : key.toArray.size = n := by rw [hn]; simp
  have y3 : key.length = n := hn.symm
  have HN : Hid (key.length = n) := hn.symm
  clear hn
  go_enter Tryd.func49, Tryd.ntmps49
  by_cases h64 : 64 < n
  · have h64' : (64 : Int) < (n : Int) := by omega
    have HKx : Hid (keyL key = shaL key) := by show _ = _; unfold keyL; rw [if_pos (by rw [HN.out]; exact h64)]
    go_wp2_with fail
    refine (rsum_any key w (by omega)).mono ?_
    rintro e w1 ⟨rfl, hb1⟩
    have HB := hide hb1
    obtain ⟨kx, hkx⟩ : ∃ kx, kx = shaL key := ⟨_, rfl⟩
    rw [← hkx] at HKx ⊢
    clear hb1 hkx y1 y2 y3
    obtain ⟨nk, hnk⟩ : ∃ n, n = kx.length := ⟨_, rfl⟩
    have z1 : (⟨kx.toArray⟩ : ByteArray).size = nk := by rw [txt_size, hnk]
    have z2 : kx.toArray.size = nk := by rw [hnk]; simp
    have z3 : kx.length = nk := hnk.symm
    have HKN : Hid (kx.length = nk) := hnk.symm
    have HPL := hide (padK_length key)
    have HPX : Hid (kx ++ List.replicate (64 - kx.length) 0 = padK key) := by show _ = _; rw [padK, HKx.out]
    obtain ⟨pk, hpk⟩ : ∃ pk, pk = padK key := ⟨_, rfl⟩
    have HPE : Hid (xorL c pk = xorL c (padK key)) := by show _ = _; rw [hpk]
    rw [← hpk] at HPL HPX
    have HXL : Hid ((xorL c pk).length = 64) := by show _ = _; rw [xorL_length]; exact HPL.out
    have hnb : nk ≤ 64 := by rw [hnk, ← HKx.out]; exact keyL_le key
    clear hnk hpk
    go_wp2_with fail
    go_loopw [5, 6, 7] (fun s i x wr => ∃ k : Nat, k ≤ 64 ∧ i = .int .i64 k ∧ s = .string ⟨((xorL c pk).take k).toArray⟩ ∧ Below w.heap.size w wr) (fun _ i _ _ => 64 - (intOf i).toNat)
    case atStart => exact ⟨0, by omega, rfl, rfl, HB.out⟩
    case round =>
      clear HB
      obtain ⟨k, hk, rfl, rfl, hbel⟩ := hrel
      by_cases hlt : k < 64
      · have hx := byte_xor (pk.getD k 0) c
        have hap : ((⟨((xorL c pk).take k).toArray⟩ : ByteArray) ++ ⟨#[pk.getD k 0 ^^^ c]⟩) = ⟨((xorL c pk).take (k + 1)).toArray⟩ := by
          have h1 : (xorL c pk).take (k + 1) = (xorL c pk).take k ++ [pk.getD k 0 ^^^ c] := by
            rw [List.take_succ_eq_append_getElem (by rw [HXL.out]; exact hlt)]
            congr 2
            simp [xorL, List.getD_eq_getElem?_getD, List.getElem?_eq_getElem (show k < pk.length by rw [HPL.out]; exact hlt)]
          rw [h1]
          exact txt_append _ [pk.getD k 0 ^^^ c]
        have hz1 : (⟨((xorL c pk).take k).toArray⟩ : ByteArray).size = k := by rw [txt_size, List.length_take, HXL.out]; omega
        have hcv : Sem.run Tryd.prog (convert 24 9 (.slice (some ⟨wr.heap.size, 0, none⟩) 1 1)) (wr.alloc (.cells #[.int .u8 ((pk.getD k 0 ^^^ c).toNat : Int)] 5)) = .ok (.string ⟨#[pk.getD k 0 ^^^ c]⟩) (wr.alloc (.cells #[.int .u8 ((pk.getD k 0 ^^^ c).toNat : Int)] 5)) :=
          conv_rds _ _ _ 5 under24 under5 under9 _ 1 1 [pk.getD k 0 ^^^ c] (Rds.new1 _ _ _)
        have HBn := hide (below_frm hbel (Frm.alloc wr (.cells #[.int .u8 ((pk.getD k 0 ^^^ c).toNat : Int)] 5) (fun _ => False)) hbel.size (fun _ h => h.elim))
        by_cases hkn : k < nk
        · have hpx : pk.getD k 0 = kx.getD k 0 := by rw [← HPX.out, List.getD_eq_getElem?_getD, List.getD_eq_getElem?_getD, List.getElem?_append_left (by rw [HKN.out]; exact hkn)]
          have hix : ∀ w, Sem.run Tryd.prog (Instr.index 9 (.string ⟨kx.toArray⟩) (.int .i64 (k : Int))) w = .ok (.int .u8 ((pk.getD k 0).toNat : Int)) w := fun w => by rw [hpx]; exact str_index kx k (by rw [HKN.out]; exact hkn) w
          have hki : (k : Int) < (nk : Int) := by omega
          clear hpx hbel
          generalize hxx : pk.getD k 0 ^^^ c = x at *
          clear hxx
          generalize (pk.getD k 0).toNat = pn at *
          generalize c.toNat = cn at *
          generalize (⟨((xorL c pk).take k).toArray⟩ : ByteArray) = B0 at *
          generalize hB1 : (⟨((xorL c pk).take (k + 1)).toArray⟩ : ByteArray) = B1 at *
          have HB1 := hide hB1
          clear hB1
          go_wp2_with fail
          go_roundw
          case rel => first | exact ⟨k + 1, by omega, by go_num, by rw [HB1.out], HBn.out⟩ | ((repeat apply Exists.intro); exact ⟨⟨k + 1, by omega, by go_num, by rw [HB1.out], HBn.out⟩, rfl⟩)
          case measure => simp [intOf]; omega
        · have hpx : pk.getD k 0 = 0 := by
            rw [← HPX.out, List.getD_eq_getElem?_getD, List.getElem?_append_right (by rw [HKN.out]; omega), List.getElem?_replicate]
            split <;> rfl
          have hki : ¬ ((k : Int) < (nk : Int)) := by omega
          have hpn : ((pk.getD k 0).toNat : Int) = 0 := by rw [hpx]; rfl
          rw [hpn] at hx
          clear hpx hbel hpn
          generalize hxx : pk.getD k 0 ^^^ c = x at *
          clear hxx
          generalize c.toNat = cn at *
          generalize (⟨((xorL c pk).take k).toArray⟩ : ByteArray) = B0 at *
          generalize hB1 : (⟨((xorL c pk).take (k + 1)).toArray⟩ : ByteArray) = B1 at *
          have HB1 := hide hB1
          clear hB1
          go_wp2_with fail
          go_roundw
          case rel => first | exact ⟨k + 1, by omega, by go_num, by rw [HB1.out], HBn.out⟩ | ((repeat apply Exists.intro); exact ⟨⟨k + 1, by omega, by go_num, by rw [HB1.out], HBn.out⟩, rfl⟩)
          case measure => simp [intOf]; omega
      · obtain rfl : k = 64 := by omega
        have hall : (xorL c pk).take 64 = xorL c pk := List.take_of_length_le (by rw [HXL.out]; exact Nat.le_refl _)
        rw [hall]
        clear hall
        go_wp2_with fail
        go_ret
        exact ⟨by rw [HPE.out]; rfl, hbel⟩
  · have h64' : ¬ ((64 : Int) < (n : Int)) := by omega
    have HKx : Hid (keyL key = key) := by show _ = _; unfold keyL; rw [if_neg (by rw [HN.out]; exact h64)]
    have HB := hide (Below.refl w.heap.size w)
    have HKN : Hid (key.length = n) := HN.out
    have HPL := hide (padK_length key)
    have HPX : Hid (key ++ List.replicate (64 - key.length) 0 = padK key) := by show _ = _; rw [padK, HKx.out]
    obtain ⟨pk, hpk⟩ : ∃ pk, pk = padK key := ⟨_, rfl⟩
    have HPE : Hid (xorL c pk = xorL c (padK key)) := by show _ = _; rw [hpk]
    rw [← hpk] at HPL HPX
    have HXL : Hid ((xorL c pk).length = 64) := by show _ = _; rw [xorL_length]; exact HPL.out
    clear hpk
    go_wp2_with fail
    go_loopw [5, 6, 7] (fun s i x wr => ∃ k : Nat, k ≤ 64 ∧ i = .int .i64 k ∧ s = .string ⟨((xorL c pk).take k).toArray⟩ ∧ Below w.heap.size w wr) (fun _ i _ _ => 64 - (intOf i).toNat)
    case atStart => exact ⟨0, by omega, rfl, rfl, HB.out⟩
    case round =>
      clear HB
      obtain ⟨k, hk, rfl, rfl, hbel⟩ := hrel
      by_cases hlt : k < 64
      · have hx := byte_xor (pk.getD k 0) c
        have hap : ((⟨((xorL c pk).take k).toArray⟩ : ByteArray) ++ ⟨#[pk.getD k 0 ^^^ c]⟩) = ⟨((xorL c pk).take (k + 1)).toArray⟩ := by
          have h1 : (xorL c pk).take (k + 1) = (xorL c pk).take k ++ [pk.getD k 0 ^^^ c] := by
            rw [List.take_succ_eq_append_getElem (by rw [HXL.out]; exact hlt)]
            congr 2
            simp [xorL, List.getD_eq_getElem?_getD, List.getElem?_eq_getElem (show k < pk.length by rw [HPL.out]; exact hlt)]
          rw [h1]
          exact txt_append _ [pk.getD k 0 ^^^ c]
        have hz1 : (⟨((xorL c pk).take k).toArray⟩ : ByteArray).size = k := by rw [txt_size, List.length_take, HXL.out]; omega
        have hcv : Sem.run Tryd.prog (convert 24 9 (.slice (some ⟨wr.heap.size, 0, none⟩) 1 1)) (wr.alloc (.cells #[.int .u8 ((pk.getD k 0 ^^^ c).toNat : Int)] 5)) = .ok (.string ⟨#[pk.getD k 0 ^^^ c]⟩) (wr.alloc (.cells #[.int .u8 ((pk.getD k 0 ^^^ c).toNat : Int)] 5)) :=
          conv_rds _ _ _ 5 under24 under5 under9 _ 1 1 [pk.getD k 0 ^^^ c] (Rds.new1 _ _ _)
        have HBn := hide (below_frm hbel (Frm.alloc wr (.cells #[.int .u8 ((pk.getD k 0 ^^^ c).toNat : Int)] 5) (fun _ => False)) hbel.size (fun _ h => h.elim))
        by_cases hkn : k < n
        · have hpx : pk.getD k 0 = key.getD k 0 := by rw [← HPX.out, List.getD_eq_getElem?_getD, List.getD_eq_getElem?_getD, List.getElem?_append_left (by rw [HKN.out]; exact hkn)]
          have hix : ∀ w, Sem.run Tryd.prog (Instr.index 9 (.string ⟨key.toArray⟩) (.int .i64 (k : Int))) w = .ok (.int .u8 ((pk.getD k 0).toNat : Int)) w := fun w => by rw [hpx]; exact str_index key k (by rw [HKN.out]; exact hkn) w
          have hki : (k : Int) < (n : Int) := by omega
          clear hpx hbel
          generalize hxx : pk.getD k 0 ^^^ c = x at *
          clear hxx
          generalize (pk.getD k 0).toNat = pn at *
          generalize c.toNat = cn at *
          generalize (⟨((xorL c pk).take k).toArray⟩ : ByteArray) = B0 at *
          generalize hB1 : (⟨((xorL c pk).take (k + 1)).toArray⟩ : ByteArray) = B1 at *
          have HB1 := hide hB1
          clear hB1
          go_wp2_with fail
          go_roundw
          case rel => first | exact ⟨k + 1, by omega, by go_num, by rw [HB1.out], HBn.out⟩ | ((repeat apply Exists.intro); exact ⟨⟨k + 1, by omega, by go_num, by rw [HB1.out], HBn.out⟩, rfl⟩)
          case measure => simp [intOf]; omega
        · have hpx : pk.getD k 0 = 0 := by
            rw [← HPX.out, List.getD_eq_getElem?_getD, List.getElem?_append_right (by rw [HKN.out]; omega), List.getElem?_replicate]
            split <;> rfl
          have hki : ¬ ((k : Int) < (n : Int)) := by omega
          have hpn : ((pk.getD k 0).toNat : Int) = 0 := by rw [hpx]; rfl
          rw [hpn] at hx
          clear hpx hbel hpn
          generalize hxx : pk.getD k 0 ^^^ c = x at *
          clear hxx
          generalize c.toNat = cn at *
          generalize (⟨((xorL c pk).take k).toArray⟩ : ByteArray) = B0 at *
          generalize hB1 : (⟨((xorL c pk).take (k + 1)).toArray⟩ : ByteArray) = B1 at *
          have HB1 := hide hB1
          clear hB1
          go_wp2_with fail
          go_roundw
          case rel => first | exact ⟨k + 1, by omega, by go_num, by rw [HB1.out], HBn.out⟩ | ((repeat apply Exists.intro); exact ⟨⟨k + 1, by omega, by go_num, by rw [HB1.out], HBn.out⟩, rfl⟩)
          case measure => simp [intOf]; omega
      · obtain rfl : k = 64 := by omega
        have hall : (xorL c pk).take 64 = xorL c pk := List.take_of_length_le (by rw [HXL.out]; exact Nat.le_refl _)
        rw [hall]
        clear hall
        go_wp2_with fail
        go_ret
        exact ⟨by rw [HPE.out]; rfl, hbel⟩

set_option maxHeartbeats 2000000 in
theorem rmac_any (key m : List UInt8) (w : World) (hk : key.length ≤ 100000) (hm : m.length ≤ 50000) :
    Calls Tryd.prog 29 #[.string ⟨key.toArray⟩, .string ⟨m.toArray⟩] w fun e w' => e = .returned (.string ⟨(macL key m).toArray⟩) ∧ Below w.heap.size w w' := by
  have HMA : Hid (macL key m = shaL (xorL 92 (padK key) ++ shaL (xorL 54 (padK key) ++ m))) := rfl
  have h54 : Hid ((xorL 54 (padK key)).length = 64) := by show _ = _; rw [xorL_length, padK_length]
  have h92 : Hid ((xorL 92 (padK key)).length = 64) := by show _ = _; rw [xorL_length, padK_length]
  have p92 := hide (fun w => rpad_any key 92 w hk)
  have p54 := hide (fun w => rpad_any key 54 w hk)
  generalize xorL 54 (padK key) = ip at *
  generalize xorL 92 (padK key) = op at *
  have z1 : (⟨ip.toArray⟩ : ByteArray).size = 64 := by rw [txt_size, h54.out]
  have z2 : (⟨m.toArray⟩ : ByteArray).size ≤ 50000 := by rw [txt_size]; exact hm
  have z3 : (⟨op.toArray⟩ : ByteArray).size = 64 := by rw [txt_size, h92.out]
  have ap1 := txt_append ip m
  have ap2 := txt_append op (shaL (ip ++ m))
  have z4 : (⟨(shaL (ip ++ m)).toArray⟩ : ByteArray).size = 32 := by rw [txt_size, shaL_length]
  have r1 := hide (fun w => rsum_any (ip ++ m) w (by rw [List.length_append, h54.out]; omega))
  have r2 := hide (fun w => rsum_any (op ++ shaL (ip ++ m)) w (by rw [List.length_append, h92.out, shaL_length]; omega))
  generalize shaL (ip ++ m) = sm at *
  generalize (⟨(ip ++ m).toArray⟩ : ByteArray) = B1 at *
  generalize (⟨(op ++ sm).toArray⟩ : ByteArray) = B2 at *
  generalize (⟨ip.toArray⟩ : ByteArray) = Bi at *
  generalize (⟨op.toArray⟩ : ByteArray) = Bo at *
  generalize (⟨m.toArray⟩ : ByteArray) = Bm at *
  generalize (⟨sm.toArray⟩ : ByteArray) = Bs at *
  go_enter Tryd.func29, Tryd.ntmps29
  go_wp2_with fail
  refine (p92.out w).mono ?_
  rintro e w1 ⟨rfl, b1⟩
  go_wp2_with fail
  refine (p54.out w1).mono ?_
  rintro e w2 ⟨rfl, b2⟩
  go_wp2_with fail
  refine (r1.out w2).mono ?_
  rintro e w3 ⟨rfl, b3⟩
  go_wp2_with fail
  refine (r2.out w3).mono ?_
  rintro e w4 ⟨rfl, b4⟩
  go_wp2_with fail
  go_ret
  exact ⟨by rw [HMA.out]; rfl, ((b1.trans (b2.mono b1.size)).trans (b3.mono (Nat.le_trans b1.size b2.size))).trans (b4.mono (Nat.le_trans (Nat.le_trans b1.size b2.size) b3.size))⟩

theorem rshort_any (key m : List UInt8) (w : World) (hk : key.length ≤ 100000) (hm : m.length ≤ 50000) :
    Calls Tryd.prog 30 #[.string ⟨key.toArray⟩, .string ⟨m.toArray⟩] w fun e w' => e = .returned (.string ⟨((macL key m).take 16).toArray⟩) ∧ Below w.heap.size w w' := by
  have hs := fun w => str_to (macL key m) 16 (by rw [macL_length]; omega) w
  have HM := hide (rmac_any key m w hk hm)
  generalize macL key m = mc at *
  go_enter Tryd.func30, Tryd.ntmps30
  go_wp2_with fail
  refine HM.out.mono ?_
  rintro e w1 ⟨rfl, b1⟩
  have hs' : ∀ w, Sem.run Tryd.prog (Instr.sliceAt 9 (.string ⟨mc.toArray⟩) none (some (.int .i64 16)) none) w = .ok (.string ⟨(mc.take 16).toArray⟩) w := hs
  clear hs
  generalize hB : (⟨(mc.take 16).toArray⟩ : ByteArray) = B at *
  have HB := hide hB
  clear hB
  go_wp2_with fail
  go_ret
  exact ⟨by rw [HB.out]; rfl, b1⟩
end Go.Proofs.YtbicjcpdcopbhaaDoor
