/-
  The document's roots and primes.
-/
import Derived.Test.YtbicjcpdcopbhaaDoorRo3
import Derived.Test.YtbicjcpdcopbhaaDoorRo4
namespace Go.Proofs.YtbicjcpdcopbhaaDoor
set_option linter.unusedVariables false
set_option linter.unusedSimpArgs false
open Go.RowKit

def bitN (j : Nat) : Nat := 68719476736 / 2 ^ j
theorem bitN_succ (j : Nat) : bitN (j + 1) = bitN j / 2 := by rw [bitN, bitN, Nat.pow_succ, Nat.div_div_eq_div_mul]
theorem bitN_pow (j : Nat) (h : j ≤ 36) : bitN j = 2 ^ (36 - j) := by
  have : (68719476736 : Nat) = 2 ^ (36 - j) * 2 ^ j := by rw [← Nat.pow_add, show 36 - j + j = 36 by omega]
  rw [bitN, this, Nat.mul_div_cancel _ (Nat.pos_of_ne_zero (by simp))]
theorem bitN_pos (j : Nat) (h : j ≤ 36) : 0 < bitN j := by rw [bitN_pow j h]; exact Nat.pos_of_ne_zero (by simp)
theorem bitN_end : bitN 37 = 0 := by decide
theorem bitN_le (j : Nat) : bitN j ≤ 68719476736 := Nat.div_le_self _ _
theorem digL_length (n : Nat) : (digL n).length = 4 := rfl

set_option maxHeartbeats 8000000 in
set_option maxRecDepth 100000 in
theorem root_true (p : Nat) (w : World) :
    Calls Tryd.prog 22 #[.int .u64 (p : Int), .bool true] w fun e w' => e = .returned (.int .u32 (rootL p true : Nat)) ∧ Below w.heap.size w w' := by
  go_enter Tryd.func22, Tryd.ntmps22
  go_wp2_with fail
  have F0 : Frm (fun _ => False) w (w.alloc (.cells #[.int .u64 0, .int .u64 0, .int .u64 0, .int .u64 0, .int .u64 (p : Int)] 32)) := Frm.alloc _ _ _
  have hsz : (w.alloc (.cells #[.int .u64 0, .int .u64 0, .int .u64 0, .int .u64 0, .int .u64 (p : Int)] 32)).heap.size = w.heap.size + 1 := by simp
  have hm := alloc_rds (w.alloc (.cells #[.int .u64 0, .int .u64 0, .int .u64 0, .int .u64 0, .int .u64 (p : Int)] 32)) [.int .u64 0, .int .u64 0, .int .u64 0, .int .u64 0, .int .u64 0, .int .u64 0, .int .u64 (p : Int)] 32 (0, 0)
  have F1 := F0.trans (Frm.alloc (w.alloc (.cells #[.int .u64 0, .int .u64 0, .int .u64 0, .int .u64 0, .int .u64 (p : Int)] 32)) (.cells #[.int .u64 0, .int .u64 0, .int .u64 0, .int .u64 0, .int .u64 0, .int .u64 0, .int .u64 (p : Int)] 32) (fun _ => False)) (fun _ _ h => h)
  rw [hsz] at hm
  obtain ⟨w1, hw1⟩ : ∃ w1, w1 = (w.alloc (.cells #[.int .u64 0, .int .u64 0, .int .u64 0, .int .u64 0, .int .u64 (p : Int)] 32)).alloc (.cells #[.int .u64 0, .int .u64 0, .int .u64 0, .int .u64 0, .int .u64 0, .int .u64 0, .int .u64 (p : Int)] 32) := ⟨_, rfl⟩
  obtain ⟨gm, hgm⟩ : ∃ gm, gm = w.heap.size + 1 := ⟨_, rfl⟩
  have HM : Hid (Rds w1 (some ⟨gm, 0, none⟩) 7 (cellsQ (mostL p true))) := by rw [hw1, hgm]; exact hm
  have HB1 : Hid (Below w.heap.size w w1) := by rw [hw1]; exact F1.below (Nat.le_refl _) (fun _ h => h.elim)
  rw [← hw1, ← hgm]
  clear hm F1 hw1 hgm F0 hsz
  go_loopw [6, 7] (fun x y wr => ∃ j : Nat, j ≤ 37 ∧ x = .int .u64 (rootX p true j : Nat) ∧ y = .int .u64 (bitN j : Nat) ∧ Below w1.heap.size w1 wr) (fun _ y _ => (intOf y).toNat)
  case atStart => exact ⟨0, by omega, rfl, rfl, Below.refl _ _⟩
  case round =>
    obtain ⟨j, hj, rfl, rfl, hbel⟩ := hrel
    by_cases hlt : j < 37
    · have hpos := bitN_pos j (by omega)
      have hple := bitN_le j
      have HX : Hid (rootX p true (j + 1) = if overL p true (mod64 (rootX p true j + bitN j)) then rootX p true j else mod64 (rootX p true j + bitN j)) := by show _ = _; rw [bitN_pow j (by omega)]; rfl
      have HBS := hide (bitN_succ j)
      have hb2 : IntKind.u64.wrap ((bitN j : Nat) / 2 : Int) = ((bitN j / 2 : Nat) : Int) := by rw [IntKind.wrap_u64]; omega
      have hadd := wrap64a (rootX p true j) (bitN j)
      obtain ⟨n, hn⟩ : ∃ n, n = mod64 (rootX p true j + bitN j) := ⟨_, rfl⟩
      rw [← hn] at HX hadd
      have hpi : (0 : Int) < (bitN j : Nat) := by omega
      have hlb : bitN j / 2 < bitN j := by omega
      have HLB := hide hlb
      clear hn hple hlb
      generalize bitN j = bt at *
      generalize rootX p true j = x at *
      go_wp2_with fail
      refine (digits_any n wr).mono ?_
      rintro e w2 ⟨v, rfl, ⟨da, dc, rfl, hd⟩, hb⟩
      rw [digL_length] at hd
      have B2 := hbel.trans (hb.mono hbel.size)
      clear hbel hb
      rw [digL_length]
      go_wp2_with fail
      refine (times_any da da 4 4 dc dc (digL n) (digL n) w2 hd hd (by omega) (by omega) (by omega) (by omega)).mono ?_
      rintro e w3 ⟨g3, rfl, hy, hb⟩
      have hd3 := hd.below hb
      have B3 := B2.trans (hb.mono B2.size)
      clear hb B2
      go_wp2_with fail
      refine (times_any ⟨g3, 0, none⟩ da 8 4 8 dc (timesL (digL n) (digL n)) (digL n) w3 hy hd3 (by omega) (by omega) (by omega) (by omega)).mono ?_
      rintro e w4 ⟨g4, rfl, hy4, hb⟩
      have B4 := B3.trans (hb.mono B3.size)
      clear hb B3 hy
      have HOV : Hid (overL p true n = abv (timesL (timesL (digL n) (digL n)) (digL n)) (mostL p true) (max 12 7)) := by
        show _ = _
        rw [overL, powL, if_pos rfl, timesL_length, timesL_length, digL_length]; rfl
      go_wp2_with fail
      refine (above_any ⟨g4, 0, none⟩ ⟨gm, 0, none⟩ 12 7 12 7 _ _ w4 hy4 (HM.out.below B4) (by omega) (by omega)).mono ?_
      rintro e w5 ⟨rfl, rfl⟩
      rw [← HOV.out]
      have BF := hide B4
      clear B4 hy4 hd hd3
      have hX2 := HX.out
      cases hov : overL p true n with
      | true =>
        have HX2 : Hid (rootX p true (j + 1) = x) := by rw [hov] at hX2; exact hX2
        clear hX2 HX HOV hov
        go_wp2_with fail
        go_roundw
        case rel => first | exact ⟨j + 1, by omega, by rw [HX2.out], by rw [HBS.out]; simp, BF.out⟩ | ((repeat apply Exists.intro); exact ⟨⟨j + 1, by omega, by rw [HX2.out], by rw [HBS.out]; simp, BF.out⟩, rfl⟩)
        case measure => simp [intOf]; have := HLB.out; omega
      | false =>
        have HX2 : Hid (rootX p true (j + 1) = n) := by rw [hov] at hX2; exact hX2
        clear hX2 HX HOV hov
        go_wp2_with fail
        go_roundw
        case rel => first | exact ⟨j + 1, by omega, by rw [HX2.out], by rw [HBS.out]; simp, BF.out⟩ | ((repeat apply Exists.intro); exact ⟨⟨j + 1, by omega, by rw [HX2.out], by rw [HBS.out]; simp, BF.out⟩, rfl⟩)
        case measure => simp [intOf]; have := HLB.out; omega
    · obtain rfl : j = 37 := by omega
      rw [bitN_end]
      have HR : Hid (rootL p true = rootX p true 37 % 4294967296) := rfl
      have hbf := hide (HB1.out.trans (hbel.mono HB1.out.size))
      generalize rootX p true 37 = x at *
      have m1 : IntKind.u32.wrap ((x : Int) % 4294967296) = ((x % 4294967296 : Nat) : Int) := by rw [IntKind.wrap_u32']; omega
      go_wp2_with fail
      go_ret
      exact ⟨by rw [HR.out]; simp [m1], hbf.out⟩

set_option maxHeartbeats 8000000 in
set_option maxRecDepth 100000 in
theorem root_false (p : Nat) (w : World) :
    Calls Tryd.prog 22 #[.int .u64 (p : Int), .bool false] w fun e w' => e = .returned (.int .u32 (rootL p false : Nat)) ∧ Below w.heap.size w w' := by
  go_enter Tryd.func22, Tryd.ntmps22
  go_wp2_with fail
  have hm := alloc_rds w [.int .u64 0, .int .u64 0, .int .u64 0, .int .u64 0, .int .u64 (p : Int)] 32 (0, 0)
  have F1 : Frm (fun _ => False) w (w.alloc (.cells #[.int .u64 0, .int .u64 0, .int .u64 0, .int .u64 0, .int .u64 (p : Int)] 32)) := Frm.alloc _ _ _
  obtain ⟨w1, hw1⟩ : ∃ w1, w1 = w.alloc (.cells #[.int .u64 0, .int .u64 0, .int .u64 0, .int .u64 0, .int .u64 (p : Int)] 32) := ⟨_, rfl⟩
  obtain ⟨gm, hgm⟩ : ∃ gm, gm = w.heap.size := ⟨_, rfl⟩
  have HM : Hid (Rds w1 (some ⟨gm, 0, none⟩) 5 (cellsQ (mostL p false))) := by rw [hw1, hgm]; exact hm
  have HB1 : Hid (Below w.heap.size w w1) := by rw [hw1]; exact F1.below (Nat.le_refl _) (fun _ h => h.elim)
  rw [← hw1, ← hgm]
  clear hm F1 hw1 hgm
  go_loopw [6, 7] (fun x y wr => ∃ j : Nat, j ≤ 37 ∧ x = .int .u64 (rootX p false j : Nat) ∧ y = .int .u64 (bitN j : Nat) ∧ Below w1.heap.size w1 wr) (fun _ y _ => (intOf y).toNat)
  case atStart => exact ⟨0, by omega, rfl, rfl, Below.refl _ _⟩
  case round =>
    obtain ⟨j, hj, rfl, rfl, hbel⟩ := hrel
    by_cases hlt : j < 37
    · have hpos := bitN_pos j (by omega)
      have hple := bitN_le j
      have HX : Hid (rootX p false (j + 1) = if overL p false (mod64 (rootX p false j + bitN j)) then rootX p false j else mod64 (rootX p false j + bitN j)) := by show _ = _; rw [bitN_pow j (by omega)]; rfl
      have HBS := hide (bitN_succ j)
      have hb2 : IntKind.u64.wrap ((bitN j : Nat) / 2 : Int) = ((bitN j / 2 : Nat) : Int) := by rw [IntKind.wrap_u64]; omega
      have hadd := wrap64a (rootX p false j) (bitN j)
      obtain ⟨n, hn⟩ : ∃ n, n = mod64 (rootX p false j + bitN j) := ⟨_, rfl⟩
      rw [← hn] at HX hadd
      have hpi : (0 : Int) < (bitN j : Nat) := by omega
      have hlb : bitN j / 2 < bitN j := by omega
      have HLB := hide hlb
      clear hn hple hlb
      generalize bitN j = bt at *
      generalize rootX p false j = x at *
      go_wp2_with fail
      refine (digits_any n wr).mono ?_
      rintro e w2 ⟨v, rfl, ⟨da, dc, rfl, hd⟩, hb⟩
      rw [digL_length] at hd
      have B2 := hbel.trans (hb.mono hbel.size)
      clear hbel hb
      rw [digL_length]
      go_wp2_with fail
      refine (times_any da da 4 4 dc dc (digL n) (digL n) w2 hd hd (by omega) (by omega) (by omega) (by omega)).mono ?_
      rintro e w3 ⟨g3, rfl, hy, hb⟩
      have hd3 := hd.below hb
      have B3 := B2.trans (hb.mono B2.size)
      clear hb B2
      have HOV : Hid (overL p false n = abv (timesL (digL n) (digL n)) (mostL p false) (max 8 5)) := by
        show _ = _
        rw [overL, powL, if_neg (by decide), timesL_length, digL_length]; rfl
      go_wp2_with fail
      refine (above_any ⟨g3, 0, none⟩ ⟨gm, 0, none⟩ 8 5 8 5 _ _ w3 hy (HM.out.below B3) (by omega) (by omega)).mono ?_
      rintro e w5 ⟨rfl, rfl⟩
      rw [← HOV.out]
      have BF := hide B3
      clear B3 hy hd hd3
      have hX2 := HX.out
      cases hov : overL p false n with
      | true =>
        have HX2 : Hid (rootX p false (j + 1) = x) := by rw [hov] at hX2; exact hX2
        clear hX2 HX HOV hov
        go_wp2_with fail
        go_roundw
        case rel => first | exact ⟨j + 1, by omega, by rw [HX2.out], by rw [HBS.out]; simp, BF.out⟩ | ((repeat apply Exists.intro); exact ⟨⟨j + 1, by omega, by rw [HX2.out], by rw [HBS.out]; simp, BF.out⟩, rfl⟩)
        case measure => simp [intOf]; have := HLB.out; omega
      | false =>
        have HX2 : Hid (rootX p false (j + 1) = n) := by rw [hov] at hX2; exact hX2
        clear hX2 HX HOV hov
        go_wp2_with fail
        go_roundw
        case rel => first | exact ⟨j + 1, by omega, by rw [HX2.out], by rw [HBS.out]; simp, BF.out⟩ | ((repeat apply Exists.intro); exact ⟨⟨j + 1, by omega, by rw [HX2.out], by rw [HBS.out]; simp, BF.out⟩, rfl⟩)
        case measure => simp [intOf]; have := HLB.out; omega
    · obtain rfl : j = 37 := by omega
      rw [bitN_end]
      have HR : Hid (rootL p false = rootX p false 37 % 4294967296) := rfl
      have hbf := hide (HB1.out.trans (hbel.mono HB1.out.size))
      generalize rootX p false 37 = x at *
      have m1 : IntKind.u32.wrap ((x : Int) % 4294967296) = ((x % 4294967296 : Nat) : Int) := by rw [IntKind.wrap_u32']; omega
      go_wp2_with fail
      go_ret
      exact ⟨by rw [HR.out]; simp [m1], hbf.out⟩
end Go.Proofs.YtbicjcpdcopbhaaDoor
