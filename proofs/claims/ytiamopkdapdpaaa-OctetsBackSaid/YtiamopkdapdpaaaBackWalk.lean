/-
  OctetsBack: the walk.
-/
import Derived.Test.YtiamopkdapdpaaaMore
import Derived.Deep.RegionHeld3
namespace Go.Proofs.Ytiamopkdapdpaaa
set_option linter.unusedVariables false
open Go.RowKit

/-- The cells of numbers of eight bytes. -/
def cells64 (l : List Nat) : List Value := l.map fun (n : Nat) => .int .u64 (n : Int)

/-- A number as eight, four, two bytes and one. -/
def enc1 (n : Nat) : List UInt8 := be 8 n ++ (be 4 (n / 4294967296) ++ (be 2 (n / 281474976710656) ++ be 1 (n / 72057594037927936)))
theorem enc1_length (n : Nat) : (enc1 n).length = 15 := by simp [enc1, be_length]
def enc (l : List Nat) : List UInt8 := l.flatMap enc1
theorem enc_length : ∀ (l : List Nat), (enc l).length = 15 * l.length
  | [] => rfl
  | n :: l => by
    have := enc_length l
    unfold enc at this ⊢
    rw [List.flatMap_cons, List.length_append, enc1_length, this, List.length_cons]
    omega
theorem enc_take_succ (l : List Nat) (k : Nat) (h : k < l.length) : enc (l.take (k + 1)) = enc (l.take k) ++ enc1 (l.getD k 0) := by
  rw [List.take_succ_eq_append_getElem h]
  unfold enc
  rw [List.flatMap_append]
  simp [List.getD, List.getElem?_eq_getElem h]

theorem enc_append (a b : List Nat) : enc (a ++ b) = enc a ++ enc b := by unfold enc; exact List.flatMap_append
theorem enc_drop (l : List Nat) (k : Nat) (h : k < l.length) : enc (l.drop k) = enc1 (l.getD k 0) ++ enc (l.drop (k + 1)) := by
  rw [List.drop_eq_getElem_cons h]
  unfold enc
  rw [List.flatMap_cons]
  simp [List.getD, List.getElem?_eq_getElem h]

/-- What is left behind k numbers, if c bytes were cut off. -/
def left (l : List Nat) (m c k : Nat) : List UInt8 := (enc (l.drop k)).take (15 * (m - k) - c)
theorem left_length (l : List Nat) (m c k : Nat) (h : l.length = m) : (left l m c k).length ≤ 15 * m := by
  unfold left
  rw [List.length_take, enc_length, List.length_drop, h]
  omega
theorem left_step (l : List Nat) (m c k : Nat) (h : l.length = m) (hk : k < m) (hc : c = 0 ∨ k + 1 < m) (hc1 : c ≤ 1) : left l m c k = enc1 (l.getD k 0) ++ left l m c (k + 1) := by
  unfold left
  rw [enc_drop l k (by omega), List.take_append, enc1_length]
  have e : 15 * (m - k) - c = 15 * (m - (k + 1)) - c + 15 := by omega
  rw [List.take_of_length_le (by rw [enc1_length]; omega), e, Nat.add_sub_cancel]
theorem left_last (l : List Nat) (m k : Nat) (h : l.length = m) (hk : k + 1 = m) : left l m 1 k = be 8 (l.getD k 0) ++ (be 4 (l.getD k 0 / 4294967296) ++ be 2 (l.getD k 0 / 281474976710656)) := by
  unfold left
  rw [enc_drop l k (by omega), List.take_append_of_le_length (by rw [enc1_length]; omega)]
  unfold enc1
  have e : 15 * (m - k) - 1 = (be 8 (l.getD k 0) ++ (be 4 (l.getD k 0 / 4294967296) ++ be 2 (l.getD k 0 / 281474976710656))).length := by
    simp only [List.length_append, be_length]
    omega
  rw [e, ← List.append_assoc, ← List.append_assoc, ← List.append_assoc]
  exact List.take_left
theorem left_end (l : List Nat) (m c : Nat) : left l m c m = [] := by
  unfold left
  rw [Nat.sub_self, Nat.mul_zero, Nat.zero_sub, List.take_zero]

theorem u64_be (g : Nat) (d : Option Nat) (v : Nat) (R : List UInt8) (w : World) (hr : Rd w g d (be 8 v ++ R)) (hv : v < 18446744073709551616) (hl : R.length ≤ 90000) :
    Calls Try.prog 26 #[.pointer (some ⟨g, 0, none⟩)] w fun e w' => e = .returned (.tuple #[.int .u64 v, .int .i64 0]) ∧ Rd w' g d R ∧ Frm (fun k => k = g) w w' := by
  refine (u64_ok g d _ w hr (by rw [List.length_append, be_length]; omega) (by rw [List.length_append, be_length]; omega)).mono ?_
  rintro e w' ⟨rfl, h1, h2⟩
  have t : (be 8 v ++ R).take 8 = be 8 v := by rw [List.take_append_of_le_length (by rw [be_length]; omega), List.take_of_length_le (by rw [be_length]; omega)]
  have t2 : (be 8 v ++ R).drop 8 = R := by rw [List.drop_append_of_le_length (by rw [be_length]; omega), List.drop_eq_nil_of_le (by rw [be_length]; omega), List.nil_append]
  rw [t2] at h1
  rw [t, num_be 8 v (Nat.lt_of_lt_of_le hv (by decide))]
  exact ⟨rfl, h1, h2⟩

theorem u32_be (g : Nat) (d : Option Nat) (v : Nat) (R : List UInt8) (w : World) (hr : Rd w g d (be 4 v ++ R)) (hv : v < 4294967296) (hl : R.length ≤ 90000) :
    Calls Try.prog 27 #[.pointer (some ⟨g, 0, none⟩)] w fun e w' => e = .returned (.tuple #[.int .u32 v, .int .i64 0]) ∧ Rd w' g d R ∧ Frm (fun k => k = g) w w' := by
  refine (u32_ok g d _ w hr (by rw [List.length_append, be_length]; omega) (by rw [List.length_append, be_length]; omega)).mono ?_
  rintro e w' ⟨rfl, h1, h2⟩
  have t : (be 4 v ++ R).take 4 = be 4 v := by rw [List.take_append_of_le_length (by rw [be_length]; omega), List.take_of_length_le (by rw [be_length]; omega)]
  have t2 : (be 4 v ++ R).drop 4 = R := by rw [List.drop_append_of_le_length (by rw [be_length]; omega), List.drop_eq_nil_of_le (by rw [be_length]; omega), List.nil_append]
  rw [t2] at h1
  rw [t, num_be 4 v (Nat.lt_of_lt_of_le hv (by decide))]
  exact ⟨rfl, h1, h2⟩

theorem u16_be (g : Nat) (d : Option Nat) (v : Nat) (R : List UInt8) (w : World) (hr : Rd w g d (be 2 v ++ R)) (hv : v < 65536) (hl : R.length ≤ 90000) :
    Calls Try.prog 28 #[.pointer (some ⟨g, 0, none⟩)] w fun e w' => e = .returned (.tuple #[.int .u16 v, .int .i64 0]) ∧ Rd w' g d R ∧ Frm (fun k => k = g) w w' := by
  refine (u16_ok g d _ w hr (by rw [List.length_append, be_length]; omega) (by rw [List.length_append, be_length]; omega)).mono ?_
  rintro e w' ⟨rfl, h1, h2⟩
  have t : (be 2 v ++ R).take 2 = be 2 v := by rw [List.take_append_of_le_length (by rw [be_length]; omega), List.take_of_length_le (by rw [be_length]; omega)]
  have t2 : (be 2 v ++ R).drop 2 = R := by rw [List.drop_append_of_le_length (by rw [be_length]; omega), List.drop_eq_nil_of_le (by rw [be_length]; omega), List.nil_append]
  rw [t2] at h1
  rw [t, num_be 2 v (Nat.lt_of_lt_of_le hv (by decide))]
  exact ⟨rfl, h1, h2⟩

theorem u8_be (g : Nat) (d : Option Nat) (v : Nat) (R : List UInt8) (w : World) (hr : Rd w g d (be 1 v ++ R)) (hv : v < 256) (hl : R.length ≤ 90000) :
    Calls Try.prog 29 #[.pointer (some ⟨g, 0, none⟩)] w fun e w' => e = .returned (.tuple #[.int .u8 v, .int .i64 0]) ∧ Rd w' g d R ∧ Frm (fun k => k = g) w w' := by
  refine (u8_ok g d _ w hr (by rw [List.length_append, be_length]; omega) (by rw [List.length_append, be_length]; omega)).mono ?_
  rintro e w' ⟨rfl, h1, h2⟩
  have t : (be 1 v ++ R).take 1 = be 1 v := by rw [List.take_append_of_le_length (by rw [be_length]; omega), List.take_of_length_le (by rw [be_length]; omega)]
  have t2 : (be 1 v ++ R).drop 1 = R := by rw [List.drop_append_of_le_length (by rw [be_length]; omega), List.drop_eq_nil_of_le (by rw [be_length]; omega), List.nil_append]
  rw [t2] at h1
  rw [t, num_be 1 v (Nat.lt_of_lt_of_le hv (by decide))]
  exact ⟨rfl, h1, h2⟩

set_option maxHeartbeats 8000000 in
set_option maxRecDepth 100000 in
theorem back_walk_some (ad : Addr) (len0 cap0 : Nat) (lv : List Nat) (cut : Bool) (w : World) (h0 : Rds w (some ad) len0 (cells64 lv)) (hu : ∀ n ∈ lv, n < 18446744073709551616) (hc0 : len0 ≤ cap0) (hm0 : cap0 ≤ 9223372036854775807) :
    Calls Try.prog 5 #[.slice (some ad) len0 cap0, .bool cut] w fun e w' => e = .returned (.bool true) ∧ Below w.heap.size w w' := by
  obtain ⟨m, HM, hm1, hm2⟩ := nat_min len0 40
  have HL : Hid ((lv.take m).length = m) := by have := h0.1; unfold cells64 at this; rw [List.length_map] at this; rw [List.length_take, this]; exact Nat.min_eq_left hm1
  have HU : Hid (∀ n ∈ lv.take m, n < 18446744073709551616) := fun n hn => hu n (List.mem_of_mem_take hn)
  have HC : Hid (∀ W, Below w.heap.size w W → ∀ k, k < m → W.cell? (ad.add k) = some (.int .u64 (((lv.take m).getD k 0 : Nat) : Int))) := by
    intro W hW k hk
    obtain ⟨ad', e1, hcell⟩ := h0.2 (by omega)
    injection e1 with e1
    subst e1
    have hlv : lv.length = len0 := by have := h0.1; unfold cells64 at this; rwa [List.length_map] at this
    have h := hcell k (.int .u64 (((lv.take m).getD k 0 : Nat) : Int)) (by
      unfold cells64
      rw [List.getElem?_map, List.getElem?_eq_getElem (by omega)]
      simp [List.getD, hk, List.getElem?_eq_getElem (show k < lv.length by omega)])
    rw [hW.cell (World.block_lt_of_cell? _ _ h)]
    exact h
  generalize lv.take m = vs at *
  clear h0 hu
  go_enter Try.func5, Try.ntmps5
  go_wp2_with fail
  refine (shown_any _).mono ?_
  rintro e w1 ⟨rfl, hb1⟩
  go_wp2_with (first | (refine wpl_min rfl (.tmp 23) (.const (.int .i64 40)) _ _ rfl _ (len0 : Int) 40 (m : Int) rfl rfl HM.out ?_) | fail)
  have hsz := hb1.size
  have hwr1 := Wr.new w1
  have hbW := hb1.alloc hb1.size (.cells #[.slice none 0 0] 48)
  have hsz1 : w1.heap.size < (w1.alloc (.cells #[.slice none 0 0] 48)).heap.size := by simp
  generalize w1.alloc (.cells #[.slice none 0 0] 48) = W1 at *
  generalize w1.heap.size = gw at *
  go_loopw [7] (fun i wr => ∃ k : Nat, k ≤ m ∧ i = .int .i64 k ∧ (∃ d, Wr wr gw d (enc (vs.take k)) ∧ ∀ j, d = some j → w.heap.size ≤ j) ∧ Below w.heap.size w wr) (fun i _ => m - (intOf i).toNat)
  case atStart => exact ⟨0, by omega, rfl, ⟨none, hwr1, fun j hj => by cases hj⟩, hbW⟩
  case round =>
    obtain ⟨k, hk, rfl, ⟨d0, hW, hd⟩, hbel⟩ := hrel
    have Hd0 := hide hd
    clear hd
    by_cases hlt : k < m
    · have hck := HC.out wr.drew hbel.drew k hlt
      have HEN := hide (enc_take_succ vs k (by have := HL.out; omega))
      have HZ : Hid (vs.getD k 0 < 18446744073709551616) := HU.out _ (by have := HL.out; simp [List.getD, List.getElem?_eq_getElem (show k < vs.length by omega)])
      have HLE : Hid ((enc (vs.take k)).length = 15 * k) := by rw [enc_length, List.length_take, HL.out, Nat.min_eq_left (by omega)]; rfl
      generalize hgz : vs.getD k 0 = z at *
      have HGZ := hide hgz
      clear hgz
      obtain ⟨z4, HZ4⟩ : ∃ z4 : Nat, Hid (z4 = z / 4294967296) := ⟨_, rfl⟩
      obtain ⟨z2, HZ2⟩ : ∃ z2 : Nat, Hid (z2 = z / 281474976710656) := ⟨_, rfl⟩
      obtain ⟨z1, HZ1⟩ : ∃ z1 : Nat, Hid (z1 = z / 72057594037927936) := ⟨_, rfl⟩
      generalize enc (vs.take k) = E at *
      have hb0 : Below w.heap.size w wr.drew := hbel.drew
      have hW0 : Wr wr.drew gw d0 E := hW
      have HEE : Hid (enc (vs.take (k + 1)) = E ++ be 8 z ++ be 4 z4 ++ be 2 z2 ++ be 1 z1) := by
        unfold Hid
        rw [HEN.out]
        unfold enc1
        rw [← HZ4.out, ← HZ2.out, ← HZ1.out]
        simp only [List.append_assoc]
      have hz4 : (z : Int) / 4294967296 = (z4 : Int) := by have := HZ4.out; omega
      have hz2 : (z : Int) / 281474976710656 = (z2 : Int) := by have := HZ2.out; omega
      have hz1 : (z : Int) / 72057594037927936 = (z1 : Int) := by have := HZ1.out; omega
      have hw4 : IntKind.u32.wrap (z4 : Int) = (z4 : Int) := by rw [IntKind.wrap_u32]; have := HZ4.out; have := HZ.out; omega
      have hw2 : IntKind.u16.wrap (z2 : Int) = (z2 : Int) := by rw [IntKind.wrap_u16]; have := HZ2.out; have := HZ.out; omega
      have hw1 : IntKind.u8.wrap (z1 : Int) = (z1 : Int) := by rw [IntKind.wrap_u8]; have := HZ1.out; have := HZ.out; omega
      go_wp2_with fail
      refine wp_region_held_drew (S := fun W => W.cell? (ad.add k) = some (.int .u64 (z : Int))) (by kernel_rfl) (hck) ?_
      intro hHeld
      refine wpAnyH_take (i := 0) (v := ?v1) rfl (by kernel_rfl) (by kernel_rfl) (by kernel_rfl) (fun _ _ _ h => h) (Or.inl ⟨by rfl, ?hy1⟩) (by assumption) ?rest1
      case hy1 => (intro w hSw; (try dsimp only at hSw); go_simp; try with_reducible rfl)
      try simp only [Act.put, List.getElem_toArray, List.getElem_cons_zero, List.setIfInBounds_toArray, List.set_cons_zero, List.set_cons_succ]
      refine wpAnyH_take (i := 1) (v := ?v2) rfl (by kernel_rfl) (by kernel_rfl) (by kernel_rfl) (fun _ _ _ h => h) (Or.inl ⟨by rfl, ?hy2⟩) (by assumption) ?rest2
      case hy2 => (intro w hSw; (try dsimp only at hSw); go_simp; try with_reducible rfl)
      try simp only [Act.put, List.getElem_toArray, List.getElem_cons_zero, List.getElem_cons_succ, List.setIfInBounds_toArray, List.set_cons_zero, List.set_cons_succ]
      refine wpAnyH_take (i := 2) (v := ?v3) rfl (by kernel_rfl) (by kernel_rfl) (by kernel_rfl) (fun _ _ _ h => h) (Or.inl ⟨by rfl, ?hy3⟩) (by assumption) ?rest3
      case hy3 => (intro w hSw; (try dsimp only at hSw); go_simp; try with_reducible rfl)
      try simp only [Act.put, List.getElem_toArray, List.getElem_cons_zero, List.getElem_cons_succ, List.setIfInBounds_toArray, List.set_cons_zero, List.set_cons_succ]
      refine wpAnyH_take (i := 3) (v := ?v4) rfl (by kernel_rfl) (by kernel_rfl) (by kernel_rfl) (fun _ _ _ h => h) (Or.inl ⟨by rfl, ?hy4⟩) (by assumption) ?rest4
      case hy4 => (intro w hSw; (try dsimp only at hSw); go_simp; try with_reducible rfl)
      try simp only [Act.put, List.getElem_toArray, List.getElem_cons_zero, List.getElem_cons_succ, List.setIfInBounds_toArray, List.set_cons_zero, List.set_cons_succ]
      refine wpAnyH_take (i := 4) (v := ?v5) rfl (by kernel_rfl) (by kernel_rfl) (by kernel_rfl) (fun _ _ _ h => h) (Or.inl ⟨by rfl, ?hy5⟩) (by assumption) ?rest5
      case hy5 => (intro w hSw; (try dsimp only at hSw); go_simp; try with_reducible rfl)
      try simp only [Act.put, List.getElem_toArray, List.getElem_cons_zero, List.getElem_cons_succ, List.setIfInBounds_toArray, List.set_cons_zero, List.set_cons_succ]
      refine wpAnyH_take (i := 6) (v := ?v6) rfl (by kernel_rfl) (by kernel_rfl) (by kernel_rfl) (fun _ _ _ h => h) (Or.inl ⟨by rfl, ?hy6⟩) (by assumption) ?rest6
      case hy6 => (intro w hSw; (try dsimp only at hSw); go_simp; try with_reducible rfl)
      try simp only [Act.put, List.getElem_toArray, List.getElem_cons_zero, List.getElem_cons_succ, List.setIfInBounds_toArray, List.set_cons_zero, List.set_cons_succ]
      refine wpAnyH_take (i := 7) (v := ?v7) rfl (by kernel_rfl) (by kernel_rfl) (by kernel_rfl) (fun _ _ _ h => h) (Or.inl ⟨by rfl, ?hy7⟩) (by assumption) ?rest7
      case hy7 => (intro w hSw; (try dsimp only at hSw); go_simp; try with_reducible rfl)
      try simp only [Act.put, List.getElem_toArray, List.getElem_cons_zero, List.getElem_cons_succ, List.setIfInBounds_toArray, List.set_cons_zero, List.set_cons_succ]
      refine wpAnyH_take (i := 8) (v := ?v8) rfl (by kernel_rfl) (by kernel_rfl) (by kernel_rfl) (fun _ _ _ h => h) (Or.inl ⟨by rfl, ?hy8⟩) (by assumption) ?rest8
      case hy8 => (intro w hSw; (try dsimp only at hSw); go_simp; try with_reducible rfl)
      try simp only [Act.put, List.getElem_toArray, List.getElem_cons_zero, List.getElem_cons_succ, List.setIfInBounds_toArray, List.set_cons_zero, List.set_cons_succ]
      refine wpAnyH_take (i := 9) (v := ?v9) rfl (by kernel_rfl) (by kernel_rfl) (by kernel_rfl) (fun _ _ _ h => h) (Or.inl ⟨by rfl, ?hy9⟩) (by assumption) ?rest9
      case hy9 => (intro w hSw; (try dsimp only at hSw); go_simp; try with_reducible rfl)
      try simp only [Act.put, List.getElem_toArray, List.getElem_cons_zero, List.getElem_cons_succ, List.setIfInBounds_toArray, List.set_cons_zero, List.set_cons_succ]
      refine wpAnyH_take (i := 10) (v := ?v10) rfl (by kernel_rfl) (by kernel_rfl) (by kernel_rfl) (fun _ _ _ h => h) (Or.inl ⟨by rfl, ?hy10⟩) (by assumption) ?rest10
      case hy10 => (intro w hSw; (try dsimp only at hSw); go_simp; try with_reducible rfl)
      try simp only [Act.put, List.getElem_toArray, List.getElem_cons_zero, List.getElem_cons_succ, List.setIfInBounds_toArray, List.set_cons_zero, List.set_cons_succ]
      refine wpAnyH_take (i := 11) (v := ?v11) rfl (by kernel_rfl) (by kernel_rfl) (by kernel_rfl) (fun _ _ _ h => h) (Or.inl ⟨by rfl, ?hy11⟩) (by assumption) ?rest11
      case hy11 => (intro w hSw; (try dsimp only at hSw); go_simp; try with_reducible rfl)
      try simp only [Act.put, List.getElem_toArray, List.getElem_cons_zero, List.getElem_cons_succ, List.setIfInBounds_toArray, List.set_cons_zero, List.set_cons_succ]
      refine wpAnyH_take (i := 13) (v := ?v12) rfl (by kernel_rfl) (by kernel_rfl) (by kernel_rfl) (fun _ _ _ h => h) (Or.inl ⟨by rfl, ?hy12⟩) (by assumption) ?rest12
      case hy12 => (intro w hSw; (try dsimp only at hSw); go_simp; try with_reducible rfl)
      try simp only [Act.put, List.getElem_toArray, List.getElem_cons_zero, List.getElem_cons_succ, List.setIfInBounds_toArray, List.set_cons_zero, List.set_cons_succ]
      refine wpAnyH_take (i := 14) (v := ?v13) rfl (by kernel_rfl) (by kernel_rfl) (by kernel_rfl) (fun _ _ _ h => h) (Or.inl ⟨by rfl, ?hy13⟩) (by assumption) ?rest13
      case hy13 => (intro w hSw; (try dsimp only at hSw); go_simp; try with_reducible rfl)
      try simp only [Act.put, List.getElem_toArray, List.getElem_cons_zero, List.getElem_cons_succ, List.setIfInBounds_toArray, List.set_cons_zero, List.set_cons_succ]
      refine wpAnyH_take (i := 15) (v := ?v14) rfl (by kernel_rfl) (by kernel_rfl) (by kernel_rfl) (fun _ _ _ h => h) (Or.inl ⟨by rfl, ?hy14⟩) (by assumption) ?rest14
      case hy14 => (intro w hSw; (try dsimp only at hSw); go_simp; try with_reducible rfl)
      try simp only [Act.put, List.getElem_toArray, List.getElem_cons_zero, List.getElem_cons_succ, List.setIfInBounds_toArray, List.set_cons_zero, List.set_cons_succ]
      refine wpAnyH_take (i := 16) (v := ?v15) rfl (by kernel_rfl) (by kernel_rfl) (by kernel_rfl) (fun _ _ _ h => h) (Or.inl ⟨by rfl, ?hy15⟩) (by assumption) ?rest15
      case hy15 => (intro w hSw; (try dsimp only at hSw); go_simp; try with_reducible rfl)
      try simp only [Act.put, List.getElem_toArray, List.getElem_cons_zero, List.getElem_cons_succ, List.setIfInBounds_toArray, List.set_cons_zero, List.set_cons_succ]
      refine wpAnyH_take (i := 17) (v := ?v16) rfl (by kernel_rfl) (by kernel_rfl) (by kernel_rfl) (fun _ _ _ h => h) (Or.inl ⟨by rfl, ?hy16⟩) (by assumption) ?rest16
      case hy16 => (intro w hSw; (try dsimp only at hSw); go_simp; try with_reducible rfl)
      try simp only [Act.put, List.getElem_toArray, List.getElem_cons_zero, List.getElem_cons_succ, List.setIfInBounds_toArray, List.set_cons_zero, List.set_cons_succ]
      refine wpAnyH_take (i := 18) (v := ?v17) rfl (by kernel_rfl) (by kernel_rfl) (by kernel_rfl) (fun _ _ _ h => h) (Or.inl ⟨by rfl, ?hy17⟩) (by assumption) ?rest17
      case hy17 => (intro w hSw; (try dsimp only at hSw); go_simp; try with_reducible rfl)
      try simp only [Act.put, List.getElem_toArray, List.getElem_cons_zero, List.getElem_cons_succ, List.setIfInBounds_toArray, List.set_cons_zero, List.set_cons_succ]
      refine wpAnyH_take (i := 20) (v := ?v18) rfl (by kernel_rfl) (by kernel_rfl) (by kernel_rfl) (fun _ _ _ h => h) (Or.inl ⟨by rfl, ?hy18⟩) (by assumption) ?rest18
      case hy18 => (intro w hSw; (try dsimp only at hSw); go_simp; try with_reducible rfl)
      try simp only [Act.put, List.getElem_toArray, List.getElem_cons_zero, List.getElem_cons_succ, List.setIfInBounds_toArray, List.set_cons_zero, List.set_cons_succ]
      refine wpAnyH_take (i := 21) (v := ?v19) rfl (by kernel_rfl) (by kernel_rfl) (by kernel_rfl) (fun _ _ _ h => h) (Or.inl ⟨by rfl, ?hy19⟩) (by assumption) ?rest19
      case hy19 => (intro w hSw; (try dsimp only at hSw); go_simp; try with_reducible rfl)
      try simp only [Act.put, List.getElem_toArray, List.getElem_cons_zero, List.getElem_cons_succ, List.setIfInBounds_toArray, List.set_cons_zero, List.set_cons_succ]
      refine wpAnyH_take (i := 22) (v := ?v20) rfl (by kernel_rfl) (by kernel_rfl) (by kernel_rfl) (fun _ _ _ h => h) (Or.inl ⟨by rfl, ?hy20⟩) (by assumption) ?rest20
      case hy20 => (intro w hSw; (try dsimp only at hSw); go_simp; try with_reducible rfl)
      try simp only [Act.put, List.getElem_toArray, List.getElem_cons_zero, List.getElem_cons_succ, List.setIfInBounds_toArray, List.set_cons_zero, List.set_cons_succ]
      refine wpAnyH_take (i := 23) (v := ?v21) rfl (by kernel_rfl) (by kernel_rfl) (by kernel_rfl) (fun _ _ _ h => h) (Or.inl ⟨by rfl, ?hy21⟩) (by assumption) ?rest21
      case hy21 => (intro w hSw; (try dsimp only at hSw); go_simp; try with_reducible rfl)
      try simp only [Act.put, List.getElem_toArray, List.getElem_cons_zero, List.getElem_cons_succ, List.setIfInBounds_toArray, List.set_cons_zero, List.set_cons_succ]
      refine wpAnyH_take (i := 24) (v := ?v22) rfl (by kernel_rfl) (by kernel_rfl) (by kernel_rfl) (fun _ _ _ h => h) (Or.inl ⟨by rfl, ?hy22⟩) (by assumption) ?rest22
      case hy22 => (intro w hSw; (try dsimp only at hSw); go_simp; try with_reducible rfl)
      try simp only [Act.put, List.getElem_toArray, List.getElem_cons_zero, List.getElem_cons_succ, List.setIfInBounds_toArray, List.set_cons_zero, List.set_cons_succ]
      refine wpAnyH_take (i := 25) (v := ?v23) rfl (by kernel_rfl) (by kernel_rfl) (by kernel_rfl) (fun _ _ _ h => h) (Or.inl ⟨by rfl, ?hy23⟩) (by assumption) ?rest23
      case hy23 => (intro w hSw; (try dsimp only at hSw); go_simp; try with_reducible rfl)
      try simp only [Act.put, List.getElem_toArray, List.getElem_cons_zero, List.getElem_cons_succ, List.setIfInBounds_toArray, List.set_cons_zero, List.set_cons_succ]
      refine wpAnyH_ready (rs := [5]) (by kernel_rfl) (by simp) ?_
      refine AllReadyH.cons rfl (fun K hK => ?_) AllReadyH.nil
      go_simp
      refine (wu64_any gw d0 E _ _ hW0 (by have := HLE.out; omega) (by omega) (by have := HZ.out; omega)).mono ?_
      rintro e w5 ⟨rfl, d5, hW5, hdd5, hf5⟩
      rw [Int.toNat_natCast] at hW5
      have hb5 := below_frm hb0 hf5 hb0.size (fun k hk => by rcases hk with rfl | hk; omega; exact Hd0.out k hk.symm)
      have Hd5 : Hid (∀ j, d5 = some j → w.heap.size ≤ j) := by
        intro j hj
        rcases hdd5 with rfl | ⟨i, rfl, hi⟩
        · exact Hd0.out j hj
        · injection hj with hj; have := hb0.size; omega
      have hck5 := HC.out w5 hb5 k hlt
      rw [HGZ.out] at hck5
      clear hdd5 hf5
      refine hK.out _ _ (hck5) (fun hHeld => ?_)
      clear hK K
      refine wpAnyH_ready (rs := [12]) (by kernel_rfl) (by simp) ?_
      refine AllReadyH.cons rfl (fun K hK => ?_) AllReadyH.nil
      go_simp
      refine (wu32_any gw d5 (E ++ be 8 z) _ _ hW5 (by rw [List.length_append, be_length]; have := HLE.out; omega) (by omega) (by have := HZ4.out; have := HZ.out; omega)).mono ?_
      rintro e w6 ⟨rfl, d6, hW6, hdd6, hf6⟩
      rw [Int.toNat_natCast] at hW6
      have hb6 := below_frm hb5 hf6 hb5.size (fun k hk => by rcases hk with rfl | hk; omega; exact Hd5.out k hk.symm)
      have Hd6 : Hid (∀ j, d6 = some j → w.heap.size ≤ j) := by
        intro j hj
        rcases hdd6 with rfl | ⟨i, rfl, hi⟩
        · exact Hd5.out j hj
        · injection hj with hj; have := hb5.size; omega
      have hck6 := HC.out w6 hb6 k hlt
      rw [HGZ.out] at hck6
      clear hdd6 hf6
      refine hK.out _ _ (hck6) (fun hHeld => ?_)
      clear hK K
      refine wpAnyH_ready (rs := [19]) (by kernel_rfl) (by simp) ?_
      refine AllReadyH.cons rfl (fun K hK => ?_) AllReadyH.nil
      go_simp
      refine (wu16_any gw d6 (E ++ be 8 z ++ be 4 z4) _ _ hW6 (by rw [List.length_append, List.length_append, be_length, be_length]; have := HLE.out; omega) (by omega) (by have := HZ2.out; have := HZ.out; omega)).mono ?_
      rintro e w7 ⟨rfl, d7, hW7, hdd7, hf7⟩
      rw [Int.toNat_natCast] at hW7
      have hb7 := below_frm hb6 hf7 hb6.size (fun k hk => by rcases hk with rfl | hk; omega; exact Hd6.out k hk.symm)
      have Hd7 : Hid (∀ j, d7 = some j → w.heap.size ≤ j) := by
        intro j hj
        rcases hdd7 with rfl | ⟨i, rfl, hi⟩
        · exact Hd6.out j hj
        · injection hj with hj; have := hb6.size; omega
      have hck7 := HC.out w7 hb7 k hlt
      rw [HGZ.out] at hck7
      clear hdd7 hf7
      refine hK.out _ _ (hck7) (fun hHeld => ?_)
      clear hK K
      refine wpAnyH_ready (rs := [26]) (by kernel_rfl) (by simp) ?_
      refine AllReadyH.cons rfl (fun K hK => ?_) AllReadyH.nil
      go_simp
      refine (wu8_any gw d7 (E ++ be 8 z ++ be 4 z4 ++ be 2 z2) _ _ hW7 (by rw [List.length_append, List.length_append, List.length_append, be_length, be_length, be_length]; have := HLE.out; omega) (by omega) (by have := HZ1.out; have := HZ.out; omega)).mono ?_
      rintro e w8 ⟨rfl, d8, hW8, hdd8, hf8⟩
      rw [Int.toNat_natCast] at hW8
      have hb8 := below_frm hb7 hf8 hb7.size (fun k hk => by rcases hk with rfl | hk; omega; exact Hd7.out k hk.symm)
      have Hd8 : Hid (∀ j, d8 = some j → w.heap.size ≤ j) := by
        intro j hj
        rcases hdd8 with rfl | ⟨i, rfl, hi⟩
        · exact Hd7.out j hj
        · injection hj with hj; have := hb7.size; omega
      have hck8 := HC.out w8 hb8 k hlt
      rw [HGZ.out] at hck8
      clear hdd8 hf8
      refine hK.out _ _ (hck8) (fun hHeld => ?_)
      clear hK K
      refine wpAnyH_done (by kernel_rfl) ?_ _
      go_wp2
      go_roundw
      case rel => exact ⟨k + 1, by omega, by go_num, ⟨d8, by rw [HEE.out]; exact hW8, Hd8.out⟩, hb8⟩
      case measure => simp [intOf]; omega
    · obtain rfl : k = m := by omega
      have hvs : vs.take k = vs := List.take_of_length_le (by have := HL.out; omega)
      rw [hvs] at hW
      have HEL : Hid ((enc vs).length = 15 * k) := by rw [enc_length, HL.out]; rfl
      have hnl : ¬ (k : Int) < (k : Int) := by omega
      clear hvs
      go_wp2_with fail
      refine (wdone_any gw d0 (enc vs) _ hW (by have := HEL.out; omega)).mono ?_
      rintro e w3 ⟨Ab, cb, rfl, hownb, hb3⟩
      rw [cellsB_length, HEL.out] at hownb ⊢
      have hrb := (Seg.of_own hownb).rds
      have hb3' := hbel.trans (hb3.mono hbel.size)
      have hcap : 15 * k ≤ cb := by
        obtain ⟨A', c', hv, h1, _⟩ := Seg.of_own hownb
        injection hv with _ _ h3
        rw [cellsB_length, HEL.out] at h1
        omega
      have HZ0 : Hid (enc vs = left vs k 0 0) := by
        unfold Hid left
        rw [List.drop_zero, List.take_of_length_le (by have := HEL.out; omega)]
      clear hb3 hownb hW
      cases cut with
      | false =>
        go_wp2_with fail
        refine (read_any2 Ab (15 * k) cb (enc vs) _ hrb (by omega)).mono ?_
        rw [HZ0.out]
        rintro e w4 ⟨gr, dr, rfl, hrd, hb4, hgr, hdr⟩
        have hb4' := hb3'.trans (hb4.mono hb3'.size)
        have hgr' : w.heap.size ≤ gr := Nat.le_trans hb3'.size hgr
        clear hdr hgr hb4 hb3'
        go_wp2_with fail
        go_loopw [10] (fun i wr => ∃ j : Nat, j ≤ k ∧ i = .int .i64 j ∧ Rd wr gr dr (left vs k 0 j) ∧ Below w.heap.size w wr) (fun i _ => k - (intOf i).toNat)
        case atStart => exact ⟨0, by omega, rfl, hrd, hb4'⟩
        case round =>
          obtain ⟨j, hj, rfl, hrj, hbj⟩ := hrel
          by_cases hlj : j < k
          · skip
            have HST := hide (left_step vs k 0 j HL.out hlj (.inl rfl) (by omega))
            rw [HST.out] at hrj
            have hR1 : (left vs k 0 (j + 1)).length ≤ 600 := by have := left_length vs k 0 (j + 1) HL.out; omega
            have HZ : Hid (vs.getD j 0 < 18446744073709551616) := HU.out _ (by have := HL.out; simp [List.getD, List.getElem?_eq_getElem (show j < vs.length by omega)])
            clear HST
            generalize hgz : vs.getD j 0 = z at *
            have HGZ := hide hgz
            clear hgz
            obtain ⟨z4, HZ4⟩ : ∃ z4 : Nat, Hid (z4 = z / 4294967296) := ⟨_, rfl⟩
            obtain ⟨z2, HZ2⟩ : ∃ z2 : Nat, Hid (z2 = z / 281474976710656) := ⟨_, rfl⟩
            obtain ⟨z1, HZ1⟩ : ∃ z1 : Nat, Hid (z1 = z / 72057594037927936) := ⟨_, rfl⟩
            unfold enc1 at hrj
            rw [← HZ4.out, ← HZ2.out, ← HZ1.out] at hrj
            simp only [List.append_assoc] at hrj
            generalize hRR : left vs k 0 (j + 1) = R at *
            have HRR := hide hRR
            clear hRR
            have hz4 : (z : Int) / 4294967296 = (z4 : Int) := by have := HZ4.out; omega
            have hz2 : (z : Int) / 281474976710656 = (z2 : Int) := by have := HZ2.out; omega
            have hz1 : (z : Int) / 72057594037927936 = (z1 : Int) := by have := HZ1.out; omega
            have hw4 : IntKind.u64.wrap (z4 : Int) = (z4 : Int) := by rw [IntKind.wrap_u64]; have := HZ4.out; have := HZ.out; omega
            have hw2 : IntKind.u64.wrap (z2 : Int) = (z2 : Int) := by rw [IntKind.wrap_u64]; have := HZ2.out; have := HZ.out; omega
            have hw1 : IntKind.u64.wrap (z1 : Int) = (z1 : Int) := by rw [IntKind.wrap_u64]; have := HZ1.out; have := HZ.out; omega
            have hw0 : IntKind.u64.wrap (0 : Int) = 0 := rfl
            go_wp2_with fail
            refine (u64_be gr dr z _ _ hrj HZ.out (by simp only [List.length_append, be_length]; omega)).mono ?_
            rintro e w5 ⟨rfl, hr5, hf5⟩
            have hb5 := below_frm hbj hf5 hbj.size (fun k hk => by omega)
            go_wp2_with fail
            refine (u32_be gr dr z4 _ _ hr5 (by have := HZ4.out; have := HZ.out; omega) (by simp only [List.length_append, be_length]; omega)).mono ?_
            rintro e w6 ⟨rfl, hr6, hf6⟩
            have hb6 := below_frm hb5 hf6 hb5.size (fun k hk => by omega)
            go_wp2_with fail
            refine (u16_be gr dr z2 _ _ hr6 (by have := HZ2.out; have := HZ.out; omega) (by simp only [List.length_append, be_length]; omega)).mono ?_
            rintro e w7 ⟨rfl, hr7, hf7⟩
            have hb7 := below_frm hb6 hf7 hb6.size (fun k hk => by omega)
            go_wp2_with fail
            refine (u8_be gr dr z1 R _ hr7 (by have := HZ1.out; have := HZ.out; omega) (by omega)).mono ?_
            rintro e w8 ⟨rfl, hr8, hf8⟩
            have hb8 := below_frm hb7 hf8 hb7.size (fun k hk => by omega)
            have hck := HC.out w8 hb8 j hlj
            rw [HGZ.out] at hck
            go_wp2
            go_roundw
            case rel => exact ⟨j + 1, by omega, by go_num, by rw [HRR.out]; exact hr8, hb8⟩
            case measure => simp [intOf]; omega
          · obtain rfl : j = k := by omega
            rw [left_end] at hrj
            go_wp2_with fail
            refine (done_any gr dr [] _ hrj nil100).mono ?_
            rintro e w5 ⟨rfl, rfl⟩
            have hz : errLeft [] = 0 := rfl
            go_wp2
            go_ret
            exact ⟨rfl, hbj⟩
      | true =>
        by_cases hkp : 0 < k
        · have HZ1 : Hid ((enc vs).take (15 * k - 1) = left vs k 1 0) := by unfold Hid left; rw [List.drop_zero, Nat.sub_zero]
          have hrb1 : Rds w3 Ab (15 * k - 1) (cellsB (left vs k 1 0)) := by
            have := hrb.take (15 * k - 1) (by omega)
            rwa [cellsB_take, HZ1.out] at this
          have hkq : ((15 : Int) * (k : Int) - 1).toNat = 15 * k - 1 := by omega
          go_wp2_with fail
          refine (read_any2 Ab (15 * k - 1) cb (left vs k 1 0) _ hrb1 (by omega)).mono ?_
          rintro e w4 ⟨gr, dr, rfl, hrd, hb4, hgr, hdr⟩
          have hb4' := hb3'.trans (hb4.mono hb3'.size)
          have hgr' : w.heap.size ≤ gr := Nat.le_trans hb3'.size hgr
          clear hdr hgr hb4 hb3'
          go_wp2_with fail
          go_loopw [10] (fun i wr => ∃ j : Nat, j ≤ k ∧ i = .int .i64 j ∧ Rd wr gr dr (left vs k 1 j) ∧ Below w.heap.size w wr) (fun i _ => k - (intOf i).toNat)
          case atStart => exact ⟨0, by omega, rfl, hrd, hb4'⟩
          case round =>
            obtain ⟨j, hj, rfl, hrj, hbj⟩ := hrel
            by_cases hlj : j < k
            · by_cases hjl : j + 1 < k
              · skip
                have HST := hide (left_step vs k 1 j HL.out hlj (.inr (by omega)) (by omega))
                rw [HST.out] at hrj
                have hR1 : (left vs k 1 (j + 1)).length ≤ 600 := by have := left_length vs k 1 (j + 1) HL.out; omega
                have HZ : Hid (vs.getD j 0 < 18446744073709551616) := HU.out _ (by have := HL.out; simp [List.getD, List.getElem?_eq_getElem (show j < vs.length by omega)])
                clear HST
                generalize hgz : vs.getD j 0 = z at *
                have HGZ := hide hgz
                clear hgz
                obtain ⟨z4, HZ4⟩ : ∃ z4 : Nat, Hid (z4 = z / 4294967296) := ⟨_, rfl⟩
                obtain ⟨z2, HZ2⟩ : ∃ z2 : Nat, Hid (z2 = z / 281474976710656) := ⟨_, rfl⟩
                obtain ⟨z1, HZ1⟩ : ∃ z1 : Nat, Hid (z1 = z / 72057594037927936) := ⟨_, rfl⟩
                unfold enc1 at hrj
                rw [← HZ4.out, ← HZ2.out, ← HZ1.out] at hrj
                simp only [List.append_assoc] at hrj
                generalize hRR : left vs k 1 (j + 1) = R at *
                have HRR := hide hRR
                clear hRR
                have hz4 : (z : Int) / 4294967296 = (z4 : Int) := by have := HZ4.out; omega
                have hz2 : (z : Int) / 281474976710656 = (z2 : Int) := by have := HZ2.out; omega
                have hz1 : (z : Int) / 72057594037927936 = (z1 : Int) := by have := HZ1.out; omega
                have hw4 : IntKind.u64.wrap (z4 : Int) = (z4 : Int) := by rw [IntKind.wrap_u64]; have := HZ4.out; have := HZ.out; omega
                have hw2 : IntKind.u64.wrap (z2 : Int) = (z2 : Int) := by rw [IntKind.wrap_u64]; have := HZ2.out; have := HZ.out; omega
                have hw1 : IntKind.u64.wrap (z1 : Int) = (z1 : Int) := by rw [IntKind.wrap_u64]; have := HZ1.out; have := HZ.out; omega
                have hw0 : IntKind.u64.wrap (0 : Int) = 0 := rfl
                have hls : ((j : Int) == (k : Int) - 1) = false := by simp; omega
                go_wp2_with fail
                refine (u64_be gr dr z _ _ hrj HZ.out (by simp only [List.length_append, be_length]; omega)).mono ?_
                rintro e w5 ⟨rfl, hr5, hf5⟩
                have hb5 := below_frm hbj hf5 hbj.size (fun k hk => by omega)
                go_wp2_with fail
                refine (u32_be gr dr z4 _ _ hr5 (by have := HZ4.out; have := HZ.out; omega) (by simp only [List.length_append, be_length]; omega)).mono ?_
                rintro e w6 ⟨rfl, hr6, hf6⟩
                have hb6 := below_frm hb5 hf6 hb5.size (fun k hk => by omega)
                go_wp2_with fail
                refine (u16_be gr dr z2 _ _ hr6 (by have := HZ2.out; have := HZ.out; omega) (by simp only [List.length_append, be_length]; omega)).mono ?_
                rintro e w7 ⟨rfl, hr7, hf7⟩
                have hb7 := below_frm hb6 hf7 hb6.size (fun k hk => by omega)
                go_wp2_with fail
                refine (u8_be gr dr z1 R _ hr7 (by have := HZ1.out; have := HZ.out; omega) (by omega)).mono ?_
                rintro e w8 ⟨rfl, hr8, hf8⟩
                have hb8 := below_frm hb7 hf8 hb7.size (fun k hk => by omega)
                have hck := HC.out w8 hb8 j hlj
                rw [HGZ.out] at hck
                go_wp2
                go_roundw
                case rel => exact ⟨j + 1, by omega, by go_num, by rw [HRR.out]; exact hr8, hb8⟩
                case measure => simp [intOf]; omega
              · skip
                have HST := hide (left_last vs k j HL.out (by omega))
                rw [HST.out] at hrj
                have hR1 : (left vs k 1 (j + 1)).length ≤ 600 := by have := left_length vs k 1 (j + 1) HL.out; omega
                have HZ : Hid (vs.getD j 0 < 18446744073709551616) := HU.out _ (by have := HL.out; simp [List.getD, List.getElem?_eq_getElem (show j < vs.length by omega)])
                clear HST
                generalize hgz : vs.getD j 0 = z at *
                have HGZ := hide hgz
                clear hgz
                obtain ⟨z4, HZ4⟩ : ∃ z4 : Nat, Hid (z4 = z / 4294967296) := ⟨_, rfl⟩
                obtain ⟨z2, HZ2⟩ : ∃ z2 : Nat, Hid (z2 = z / 281474976710656) := ⟨_, rfl⟩
                obtain ⟨z1, HZ1⟩ : ∃ z1 : Nat, Hid (z1 = z / 72057594037927936) := ⟨_, rfl⟩
                rw [← HZ4.out, ← HZ2.out] at hrj
                have e0 : be 2 z2 = be 2 z2 ++ [] := (List.append_nil _).symm
                rw [e0] at hrj
                clear e0
                generalize hRR : left vs k 1 (j + 1) = R at *
                have HRR := hide hRR
                clear hRR
                have hz4 : (z : Int) / 4294967296 = (z4 : Int) := by have := HZ4.out; omega
                have hz2 : (z : Int) / 281474976710656 = (z2 : Int) := by have := HZ2.out; omega
                have hz1 : (z : Int) / 72057594037927936 = (z1 : Int) := by have := HZ1.out; omega
                have hw4 : IntKind.u64.wrap (z4 : Int) = (z4 : Int) := by rw [IntKind.wrap_u64]; have := HZ4.out; have := HZ.out; omega
                have hw2 : IntKind.u64.wrap (z2 : Int) = (z2 : Int) := by rw [IntKind.wrap_u64]; have := HZ2.out; have := HZ.out; omega
                have hw1 : IntKind.u64.wrap (z1 : Int) = (z1 : Int) := by rw [IntKind.wrap_u64]; have := HZ1.out; have := HZ.out; omega
                have hw0 : IntKind.u64.wrap (0 : Int) = 0 := rfl
                have hls : ((j : Int) == (k : Int) - 1) = true := by simp; omega
                go_wp2_with fail
                refine (u64_be gr dr z _ _ hrj HZ.out (by simp only [List.length_append, be_length, List.length_nil]; omega)).mono ?_
                rintro e w5 ⟨rfl, hr5, hf5⟩
                have hb5 := below_frm hbj hf5 hbj.size (fun k hk => by omega)
                go_wp2_with fail
                refine (u32_be gr dr z4 _ _ hr5 (by have := HZ4.out; have := HZ.out; omega) (by simp only [List.length_append, be_length, List.length_nil]; omega)).mono ?_
                rintro e w6 ⟨rfl, hr6, hf6⟩
                have hb6 := below_frm hb5 hf6 hb5.size (fun k hk => by omega)
                go_wp2_with fail
                refine (u16_be gr dr z2 _ _ hr6 (by have := HZ2.out; have := HZ.out; omega) (by decide)).mono ?_
                rintro e w7 ⟨rfl, hr7, hf7⟩
                have hb7 := below_frm hb6 hf7 hb6.size (fun k hk => by omega)
                go_wp2_with fail
                refine (u8_short gr dr [] _ hr7 (by decide) nil100).mono ?_
                rintro e w8 ⟨rfl, rfl⟩
                have hr8 : Rd w7 gr dr R := by rw [← HRR.out, show j + 1 = k by omega, left_end]; exact hr7
                have hb8 := hb7
                have hck := HC.out w7 hb7 j hlj
                rw [HGZ.out] at hck
                go_wp2
                go_roundw
                case rel => exact ⟨j + 1, by omega, by go_num, by rw [HRR.out]; exact hr8, hb8⟩
                case measure => simp [intOf]; omega
            · obtain rfl : j = k := by omega
              rw [left_end] at hrj
              go_wp2_with fail
              refine (done_any gr dr [] _ hrj nil100).mono ?_
              rintro e w5 ⟨rfl, rfl⟩
              have hz : errLeft [] = 0 := rfl
              go_wp2
              go_ret
              exact ⟨rfl, hbj⟩
        · have hk0 : ¬ (0 : Int) < (k : Int) := by omega
          go_wp2_with fail
          refine (read_any2 Ab (15 * k) cb (enc vs) _ hrb (by omega)).mono ?_
          rw [HZ0.out]
          rintro e w4 ⟨gr, dr, rfl, hrd, hb4, hgr, hdr⟩
          have hb4' := hb3'.trans (hb4.mono hb3'.size)
          have hgr' : w.heap.size ≤ gr := Nat.le_trans hb3'.size hgr
          clear hdr hgr hb4 hb3'
          go_wp2_with fail
          go_loopw [10] (fun i wr => ∃ j : Nat, j ≤ k ∧ i = .int .i64 j ∧ Rd wr gr dr (left vs k 0 j) ∧ Below w.heap.size w wr) (fun i _ => k - (intOf i).toNat)
          case atStart => exact ⟨0, by omega, rfl, hrd, hb4'⟩
          case round =>
            obtain ⟨j, hj, rfl, hrj, hbj⟩ := hrel
            by_cases hlj : j < k
            · omega
            · obtain rfl : j = k := by omega
              rw [left_end] at hrj
              go_wp2_with fail
              refine (done_any gr dr [] _ hrj nil100).mono ?_
              rintro e w5 ⟨rfl, rfl⟩
              have hz : errLeft [] = 0 := rfl
              go_wp2
              go_ret
              exact ⟨rfl, hbj⟩

set_option maxHeartbeats 8000000 in
set_option maxRecDepth 100000 in
theorem back_walk_none (len0 cap0 : Nat) (lv : List Nat) (cut : Bool) (w : World) (h0 : Rds w none len0 (cells64 lv)) :
    Calls Try.prog 5 #[.slice none len0 cap0, .bool cut] w fun e w' => e = .returned (.bool true) ∧ Below w.heap.size w w' := by
  have hl0 : len0 = 0 := by
    rcases Nat.eq_zero_or_pos len0 with h | h
    · exact h
    · obtain ⟨a, h, _⟩ := h0.2 h; cases h
  subst hl0
  go_enter Try.func5, Try.ntmps5
  go_wp2_with fail
  refine (shown_any _).mono ?_
  rintro e w1 ⟨rfl, hb1⟩
  go_wp2_with fail
  have hsz := hb1.size
  have hwr1 := Wr.new w1
  have hbW := hb1.alloc hb1.size (.cells #[.slice none 0 0] 48)
  generalize w1.alloc (.cells #[.slice none 0 0] 48) = W1 at *
  generalize w1.heap.size = gw at *
  go_loopw [7] (fun i wr => i = .int .i64 0 ∧ Wr wr gw none [] ∧ Below w.heap.size w wr) (fun _ _ => 0)
  case atStart => exact ⟨rfl, hwr1, hbW⟩
  case round =>
    obtain ⟨rfl, hW, hbel⟩ := hrel
    go_wp2_with fail
    refine (wdone_any gw none [] _ hW nil100).mono ?_
    rintro e w3 ⟨Ab, cb, rfl, hownb, hb3⟩
    have hlen : (cellsB []).length = 0 := rfl
    rw [hlen] at hownb ⊢
    have hrb : Rds w3 Ab 0 (cellsB []) := (Seg.of_own hownb).rds
    have hb3' := hbel.trans (hb3.mono hbel.size)
    clear hb3 hownb hW
    cases cut with
    | false =>
      go_wp2_with fail
      refine (read_any2 Ab 0 cb [] _ hrb (by omega)).mono ?_
      rintro e w4 ⟨gr, dr, rfl, hrd, hb4, hgr, hdr⟩
      have hb4' := hb3'.trans (hb4.mono hb3'.size)
      clear hdr hgr hb4 hb3'
      go_wp2_with fail
      go_loopw [10] (fun i wr => i = .int .i64 0 ∧ Rd wr gr dr [] ∧ Below w.heap.size w wr) (fun _ _ => 0)
      case atStart => exact ⟨rfl, hrd, hb4'⟩
      case round =>
        obtain ⟨rfl, hrj, hbj⟩ := hrel
        go_wp2_with fail
        refine (done_any gr dr [] _ hrj nil100).mono ?_
        rintro e w5 ⟨rfl, rfl⟩
        have hz : errLeft [] = 0 := rfl
        go_wp2
        go_ret
        exact ⟨rfl, hbj⟩
    | true =>
      go_wp2_with fail
      refine (read_any2 Ab 0 cb [] _ hrb (by omega)).mono ?_
      rintro e w4 ⟨gr, dr, rfl, hrd, hb4, hgr, hdr⟩
      have hb4' := hb3'.trans (hb4.mono hb3'.size)
      clear hdr hgr hb4 hb3'
      go_wp2_with fail
      go_loopw [10] (fun i wr => i = .int .i64 0 ∧ Rd wr gr dr [] ∧ Below w.heap.size w wr) (fun _ _ => 0)
      case atStart => exact ⟨rfl, hrd, hb4'⟩
      case round =>
        obtain ⟨rfl, hrj, hbj⟩ := hrel
        go_wp2_with fail
        refine (done_any gr dr [] _ hrj nil100).mono ?_
        rintro e w5 ⟨rfl, rfl⟩
        have hz : errLeft [] = 0 := rfl
        go_wp2
        go_ret
        exact ⟨rfl, hbj⟩

theorem back_walk (a0 : Option Addr) (len0 cap0 : Nat) (lv : List Nat) (cut : Bool) (w : World) (h0 : Rds w a0 len0 (cells64 lv)) (hu : ∀ n ∈ lv, n < 18446744073709551616) (hc0 : len0 ≤ cap0) (hm0 : cap0 ≤ 9223372036854775807) :
    Calls Try.prog 5 #[.slice a0 len0 cap0, .bool cut] w fun e w' => e = .returned (.bool true) ∧ Below w.heap.size w w' := by
  rcases a0 with _ | ad
  · exact back_walk_none len0 cap0 lv cut w h0
  · exact back_walk_some ad len0 cap0 lv cut w h0 hu hc0 hm0
end Go.Proofs.Ytiamopkdapdpaaa
