/-
  The document's own words for numbers and noughts, and its reader.
-/
import Derived.Test.YtiamopkdapdpaaaMore
namespace Go.Proofs.Ytiamopkdapdpaaa
set_option linter.unusedVariables false
open Go.RowKit

theorem be_succ (w n : Nat) : be (w + 1) n = UInt8.ofNat (n / 256 ^ w) :: be w n := by
  unfold be
  rw [List.range_succ_eq_map, List.map_cons, List.map_map]
  congr 1
  apply List.map_congr_left
  intro j hj
  have : w - (j + 1) = w - 1 - j := by omega
  simp [this]

set_option maxHeartbeats 2000000 in
theorem text_any (n : Nat) (s : Nat) (w : World) (hs : s ≤ 8) (hn : n < 18446744073709551616) :
    Calls Try.prog 31 #[.int .u64 (n : Int), .int .i64 (s : Int)] w fun e w' => e = .returned (.string ⟨(be s n).toArray⟩) ∧ Below w.heap.size w w' := by
  go_enter Try.func31, Try.ntmps31
  go_wp2_with fail
  go_loopw [0, 5, 6] (fun x t i wr => ∃ k : Nat, k ≤ s ∧ i = .int .i64 k ∧ x = .int .u64 ((n / 256 ^ k : Nat) : Int) ∧ t = .string ⟨(be k n).toArray⟩ ∧ Below w.heap.size w wr) (fun _ _ i _ => s - (intOf i).toNat)
  case atStart => exact ⟨0, by omega, rfl, by simp, rfl, Below.refl _ _⟩
  case round =>
    obtain ⟨k, hk, rfl, rfl, rfl, hbel⟩ := hrel
    by_cases hlt : k < s
    · have HY : Hid (n / 256 ^ (k + 1) = n / 256 ^ k / 256) := by unfold Hid; rw [Nat.pow_succ, Nat.div_div_eq_div_mul]
      have HB := hide (be_succ k n)
      have hyl : n / 256 ^ k < 18446744073709551616 := Nat.lt_of_le_of_lt (Nat.div_le_self _ _) hn
      generalize n / 256 ^ k = y at *
      have hcv : Sem.run Try.prog (convert 22 9 (.slice (some ⟨wr.heap.size, 0, none⟩) 1 1)) (wr.alloc (.cells #[.int .u8 ((y : Int) % 256)] 5)) = .ok (.string ⟨#[UInt8.ofNat y]⟩) (wr.alloc (.cells #[.int .u8 ((y : Int) % 256)] 5)) := by
        refine conv_rds _ _ _ 5 Try.underlying22 Try.underlying5 Try.underlying9 _ 1 1 [UInt8.ofNat y] ?_
        have e : cellsB [UInt8.ofNat y] = [.int .u8 ((y : Int) % 256)] := by
          simp only [cellsB, List.map_cons, List.map_nil, UInt8.toNat_ofNat']
          rfl
        rw [e]
        exact Rds.new1 _ _ _
      have hap : ((⟨#[UInt8.ofNat y]⟩ : ByteArray) ++ ⟨(be k n).toArray⟩) = ⟨(be (k + 1) n).toArray⟩ := by
        rw [HB.out]
        exact txt_append [UInt8.ofNat y] (be k n)
      have hbl : (be k n).length = k := be_length _ _
      go_wp2
      go_roundw
      case rel => exact ⟨k + 1, by omega, by go_num, by rw [HY.out]; simp, rfl, hbel.alloc hbel.size _⟩
      case measure => simp [intOf]; omega
    · obtain rfl : k = s := by omega
      go_wp2
      go_ret
      exact ⟨rfl, hbel⟩

/-- The document's reader at block g has l left. -/
def Rf (w : World) (g : Nat) (l : List UInt8) : Prop := Blk w g 29 #[.string ⟨l.toArray⟩]

set_option maxHeartbeats 1000000 in
theorem take_neg (g : Nat) (n : Int) (w : World) (hn : n < 0) :
    Calls Try.prog 13 #[.pointer (some ⟨g, 0, none⟩), .int .i64 n] w fun e w' => e = .returned (.tuple #[.string ⟨#[]⟩, .int .i64 1]) ∧ w = w' := by
  go_enter Try.func13, Try.ntmps13
  go_wp2
  go_ret2
  exact ⟨rfl, rfl⟩

set_option maxHeartbeats 1000000 in
theorem take_short (g : Nat) (l : List UInt8) (n : Int) (w : World) (hr : Rf w g l) (hn : (l.length : Int) < n) :
    Calls Try.prog 13 #[.pointer (some ⟨g, 0, none⟩), .int .i64 n] w fun e w' => e = .returned (.tuple #[.string ⟨#[]⟩, .int .i64 2]) ∧ w = w' := by
  have hc := Blk.cell hr 0
  simp at hc
  go_enter Try.func13, Try.ntmps13
  go_wp2
  go_ret2
  exact ⟨rfl, rfl⟩

def TakenPost (g : Nat) (l : List UInt8) (n : Nat) (w : World) (e : Ending) (w' : World) : Prop :=
  e = .returned (.tuple #[.string ⟨(l.take n).toArray⟩, .int .i64 0]) ∧ Rf w' g (l.drop n) ∧ Frm (fun k => k = g) w w'

theorem txt_take (l : List UInt8) (n : Nat) : (⟨l.toArray⟩ : ByteArray).extract 0 n = ⟨(l.take n).toArray⟩ := by
  apply ByteArray.ext
  simp
theorem txt_drop (l : List UInt8) (n m : Nat) (h : l.length = m) : (⟨l.toArray⟩ : ByteArray).extract n m = ⟨(l.drop n).toArray⟩ := by
  subst h
  apply ByteArray.ext
  simp only [ByteArray.data_extract, List.extract_toArray, List.extract_eq_take_drop]
  rw [List.take_of_length_le (by rw [List.length_drop]; omega)]

set_option maxHeartbeats 1000000 in
theorem take_ok (g : Nat) (l : List UInt8) (n : Int) (w : World) (hr : Rf w g l) (h0 : 0 ≤ n) (hn : n ≤ l.length) (hl : l.length ≤ 100000) :
    Calls Try.prog 13 #[.pointer (some ⟨g, 0, none⟩), .int .i64 n] w (TakenPost g l n.toNat w) := by
  have hc := Blk.cell hr 0
  have hf := Blk.frozen hr 0
  simp at hc
  have HT := hide (txt_take l n.toNat)
  have HD := hide (txt_drop l n.toNat l.length rfl)
  go_enter Try.func13, Try.ntmps13
  go_wp2
  rw [HT.out, HD.out]
  go_ret2
  exact ⟨rfl, by have := Blk.set hr 0 (.string ⟨(l.drop n.toNat).toArray⟩); unfold Rf; simpa using this, Frm.setCell _ _ _ (fun k => k = g) rfl⟩

theorem Rf.frm {S : Nat → Prop} {w w' : World} {g : Nat} {l : List UInt8} (h : Rf w g l) (f : Frm S w w') (hg : ¬ S g) : Rf w' g l := Blk.frm h f hg

/-- What got tells of a reader that has enough. -/
def GotPost (g : Nat) (d : Option Nat) (l : List UInt8) (n : Nat) (w : World) (e : Ending) (w' : World) : Prop :=
  e = .returned (.tuple #[.string ⟨(l.take n).toArray⟩, .int .i64 0, .int .u64 (num (l.take n))]) ∧ Rd w' g d (l.drop n) ∧ Frm (fun k => k = g) w w'
def GotShort (n : Nat) (w : World) (e : Ending) (w' : World) : Prop :=
  ∃ s : ByteArray, e = .returned (.tuple #[.string s, .int .i64 2, .int .u64 0]) ∧ Below w.heap.size w w'

set_option maxHeartbeats 2000000 in
theorem got1_ok (g : Nat) (d : Option Nat) (l : List UInt8) (w : World) (hr : Rd w g d l) (hn : 1 ≤ l.length) (hl : l.length ≤ 100000) :
    Calls Try.prog 12 #[.pointer (some ⟨g, 0, none⟩), .int .i64 1] w (GotPost g d l 1 w) := by
  have HB : Hid (num (l.take 1) < 18446744073709551616) := Nat.lt_of_lt_of_le (num_take_lt l 1 8 (by omega)) (by decide)
  have HBE : Hid (be 1 (num (l.take 1)) = l.take 1) := be_num 1 _ (by rw [List.length_take]; omega)
  have hw : IntKind.u64.wrap ((num (l.take 1) : Nat) : Int) = ((num (l.take 1) : Nat) : Int) := by rw [IntKind.wrap_u64]; have := HB.out; omega
  generalize hy : num (l.take 1) = y at *
  have HY := hide hy
  clear hy
  go_enter Try.func12, Try.ntmps12
  go_wp2_with fail
  refine (u8_ok g d l _ hr hn hl).mono ?_
  rintro e w1 ⟨rfl, h1, hf1⟩
  rw [HY.out]
  go_wp2_with fail
  refine (text_any y 1 _ (by omega) HB.out).mono ?_
  rintro e w2 ⟨rfl, hb2⟩
  rw [HBE.out]
  go_wp2
  go_ret3
  refine ⟨by rw [HY.out]; rfl, h1.frm (Frm.of_below (S := fun _ => False) hb2) (fun h => h) (fun _ _ h => h), hf1.trans (Frm.of_below (S := fun _ => False) hb2) (fun _ _ h => h.elim)⟩

set_option maxHeartbeats 2000000 in
theorem got1_short (g : Nat) (d : Option Nat) (l : List UInt8) (w : World) (hr : Rd w g d l) (hn : l.length < 1) (hl : l.length ≤ 100000) :
    Calls Try.prog 12 #[.pointer (some ⟨g, 0, none⟩), .int .i64 1] w (GotShort 1 w) := by
  have hw : IntKind.u64.wrap (0 : Int) = 0 := rfl
  go_enter Try.func12, Try.ntmps12
  go_wp2_with fail
  refine (u8_short g d l _ hr hn hl).mono ?_
  rintro e w1 ⟨rfl, rfl⟩
  go_wp2_with fail
  refine (text_any 0 1 _ (by omega) (by omega)).mono ?_
  rintro e w2 ⟨rfl, hb2⟩
  go_wp2
  go_ret3
  exact ⟨_, rfl, hb2⟩

set_option maxHeartbeats 2000000 in
theorem got2_ok (g : Nat) (d : Option Nat) (l : List UInt8) (w : World) (hr : Rd w g d l) (hn : 2 ≤ l.length) (hl : l.length ≤ 100000) :
    Calls Try.prog 12 #[.pointer (some ⟨g, 0, none⟩), .int .i64 2] w (GotPost g d l 2 w) := by
  have HB : Hid (num (l.take 2) < 18446744073709551616) := Nat.lt_of_lt_of_le (num_take_lt l 2 8 (by omega)) (by decide)
  have HBE : Hid (be 2 (num (l.take 2)) = l.take 2) := be_num 2 _ (by rw [List.length_take]; omega)
  have hw : IntKind.u64.wrap ((num (l.take 2) : Nat) : Int) = ((num (l.take 2) : Nat) : Int) := by rw [IntKind.wrap_u64]; have := HB.out; omega
  generalize hy : num (l.take 2) = y at *
  have HY := hide hy
  clear hy
  go_enter Try.func12, Try.ntmps12
  go_wp2_with fail
  refine (u16_ok g d l _ hr hn hl).mono ?_
  rintro e w1 ⟨rfl, h1, hf1⟩
  rw [HY.out]
  go_wp2_with fail
  refine (text_any y 2 _ (by omega) HB.out).mono ?_
  rintro e w2 ⟨rfl, hb2⟩
  rw [HBE.out]
  go_wp2
  go_ret3
  refine ⟨by rw [HY.out]; rfl, h1.frm (Frm.of_below (S := fun _ => False) hb2) (fun h => h) (fun _ _ h => h), hf1.trans (Frm.of_below (S := fun _ => False) hb2) (fun _ _ h => h.elim)⟩

set_option maxHeartbeats 2000000 in
theorem got2_short (g : Nat) (d : Option Nat) (l : List UInt8) (w : World) (hr : Rd w g d l) (hn : l.length < 2) (hl : l.length ≤ 100000) :
    Calls Try.prog 12 #[.pointer (some ⟨g, 0, none⟩), .int .i64 2] w (GotShort 2 w) := by
  have hw : IntKind.u64.wrap (0 : Int) = 0 := rfl
  go_enter Try.func12, Try.ntmps12
  go_wp2_with fail
  refine (u16_short g d l _ hr hn hl).mono ?_
  rintro e w1 ⟨rfl, rfl⟩
  go_wp2_with fail
  refine (text_any 0 2 _ (by omega) (by omega)).mono ?_
  rintro e w2 ⟨rfl, hb2⟩
  go_wp2
  go_ret3
  exact ⟨_, rfl, hb2⟩

set_option maxHeartbeats 2000000 in
theorem got3_ok (g : Nat) (d : Option Nat) (l : List UInt8) (w : World) (hr : Rd w g d l) (hn : 4 ≤ l.length) (hl : l.length ≤ 100000) :
    Calls Try.prog 12 #[.pointer (some ⟨g, 0, none⟩), .int .i64 3] w (GotPost g d l 4 w) := by
  have HB : Hid (num (l.take 4) < 18446744073709551616) := Nat.lt_of_lt_of_le (num_take_lt l 4 8 (by omega)) (by decide)
  have HBE : Hid (be 4 (num (l.take 4)) = l.take 4) := be_num 4 _ (by rw [List.length_take]; omega)
  have hw : IntKind.u64.wrap ((num (l.take 4) : Nat) : Int) = ((num (l.take 4) : Nat) : Int) := by rw [IntKind.wrap_u64]; have := HB.out; omega
  generalize hy : num (l.take 4) = y at *
  have HY := hide hy
  clear hy
  go_enter Try.func12, Try.ntmps12
  go_wp2_with fail
  refine (u32_ok g d l _ hr hn hl).mono ?_
  rintro e w1 ⟨rfl, h1, hf1⟩
  rw [HY.out]
  go_wp2_with fail
  refine (text_any y 4 _ (by omega) HB.out).mono ?_
  rintro e w2 ⟨rfl, hb2⟩
  rw [HBE.out]
  go_wp2
  go_ret3
  refine ⟨by rw [HY.out]; rfl, h1.frm (Frm.of_below (S := fun _ => False) hb2) (fun h => h) (fun _ _ h => h), hf1.trans (Frm.of_below (S := fun _ => False) hb2) (fun _ _ h => h.elim)⟩

set_option maxHeartbeats 2000000 in
theorem got3_short (g : Nat) (d : Option Nat) (l : List UInt8) (w : World) (hr : Rd w g d l) (hn : l.length < 4) (hl : l.length ≤ 100000) :
    Calls Try.prog 12 #[.pointer (some ⟨g, 0, none⟩), .int .i64 3] w (GotShort 4 w) := by
  have hw : IntKind.u64.wrap (0 : Int) = 0 := rfl
  go_enter Try.func12, Try.ntmps12
  go_wp2_with fail
  refine (u32_short g d l _ hr hn hl).mono ?_
  rintro e w1 ⟨rfl, rfl⟩
  go_wp2_with fail
  refine (text_any 0 4 _ (by omega) (by omega)).mono ?_
  rintro e w2 ⟨rfl, hb2⟩
  go_wp2
  go_ret3
  exact ⟨_, rfl, hb2⟩

set_option maxHeartbeats 2000000 in
theorem got4_ok (g : Nat) (d : Option Nat) (l : List UInt8) (w : World) (hr : Rd w g d l) (hn : 8 ≤ l.length) (hl : l.length ≤ 100000) :
    Calls Try.prog 12 #[.pointer (some ⟨g, 0, none⟩), .int .i64 4] w (GotPost g d l 8 w) := by
  have HB : Hid (num (l.take 8) < 18446744073709551616) := Nat.lt_of_lt_of_le (num_take_lt l 8 8 (by omega)) (by decide)
  have HBE : Hid (be 8 (num (l.take 8)) = l.take 8) := be_num 8 _ (by rw [List.length_take]; omega)
  have hw : IntKind.u64.wrap ((num (l.take 8) : Nat) : Int) = ((num (l.take 8) : Nat) : Int) := by rw [IntKind.wrap_u64]; have := HB.out; omega
  generalize hy : num (l.take 8) = y at *
  have HY := hide hy
  clear hy
  go_enter Try.func12, Try.ntmps12
  go_wp2_with fail
  refine (u64_ok g d l _ hr hn hl).mono ?_
  rintro e w1 ⟨rfl, h1, hf1⟩
  rw [HY.out]
  go_wp2_with fail
  refine (text_any y 8 _ (by omega) HB.out).mono ?_
  rintro e w2 ⟨rfl, hb2⟩
  rw [HBE.out]
  go_wp2
  go_ret3
  refine ⟨by rw [HY.out]; rfl, h1.frm (Frm.of_below (S := fun _ => False) hb2) (fun h => h) (fun _ _ h => h), hf1.trans (Frm.of_below (S := fun _ => False) hb2) (fun _ _ h => h.elim)⟩

set_option maxHeartbeats 2000000 in
theorem got4_short (g : Nat) (d : Option Nat) (l : List UInt8) (w : World) (hr : Rd w g d l) (hn : l.length < 8) (hl : l.length ≤ 100000) :
    Calls Try.prog 12 #[.pointer (some ⟨g, 0, none⟩), .int .i64 4] w (GotShort 8 w) := by
  have hw : IntKind.u64.wrap (0 : Int) = 0 := rfl
  go_enter Try.func12, Try.ntmps12
  go_wp2_with fail
  refine (u64_short g d l _ hr hn hl).mono ?_
  rintro e w1 ⟨rfl, rfl⟩
  go_wp2_with fail
  refine (text_any 0 8 _ (by omega) (by omega)).mono ?_
  rintro e w2 ⟨rfl, hb2⟩
  go_wp2
  go_ret3
  exact ⟨_, rfl, hb2⟩
end Go.Proofs.Ytiamopkdapdpaaa
