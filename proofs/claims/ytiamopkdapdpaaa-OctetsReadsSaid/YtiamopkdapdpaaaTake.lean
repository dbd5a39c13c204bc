/-
  The reader's numbers.
-/
import Derived.Test.YtiamopkdapdpaaaOct3
import Derived.Test.YtiamopkdapdpaaaWidth
import Derived.Test.YtiamopkdapdpaaaNum
namespace Go.Proofs.Ytiamopkdapdpaaa
set_option linter.unusedVariables false
open Go.RowKit

def TakePost (k : IntKind) (g : Nat) (d : Option Nat) (l : List UInt8) (n : Nat) (w : World) (e : Ending) (w' : World) : Prop :=
  e = .returned (.tuple #[.int k (num (l.take n)), .int .i64 0]) ∧ Rd w' g d (l.drop n) ∧ Frm (fun k => k = g) w w'

set_option maxHeartbeats 1000000 in
theorem take8_ok (g : Nat) (d : Option Nat) (l : List UInt8) (w : World) (hr : Rd w g d l) (hn : 1 ≤ l.length) (hl : l.length ≤ 100000) :
    Calls Try.prog 40 #[.pointer (some ⟨g, 0, none⟩)] w (TakePost .u8 g d l 1 w) := by
  go_enter Try.func40, Try.ntmps40
  go_wp2_with (first | (go_at_call 41; refine (width8 _).mono ?_; rintro e w1 ⟨rfl, rfl⟩) | (go_at_call 14; refine (bytes_ok g d l 1 _ hr (by omega) (by omega) hl).mono ?_; rintro e w1 ⟨A1, c1, rfl, hown, hrd, hfr⟩))
  obtain ⟨gb, cb, hv, _, _⟩ := hown.form (by decide)
  injection hv with hA _ hc
  subst hA hc
  have hcells := hown.cells (g := gb) rfl
  have HC : Hid (∀ k, k < 1 → w1.cell? ⟨gb, k, none⟩ = some (.int .u8 ((l.getD k 0).toNat : Int))) := by
    intro k hk
    have h1 : (cellsB (List.take (Int.toNat 1) l))[k]? = some (.int .u8 ((l.getD k 0).toNat : Int)) := by
      have h2 : Int.toNat 1 = 1 := rfl
      rw [h2, cellsB_get, List.getElem?_take, if_pos hk, List.getElem?_eq_getElem (by omega)]
      simp [List.getD, List.getElem?_eq_getElem (show k < l.length by omega)]
    have h3 := hcells k _ h1
    have hadd : (⟨gb, 0, none⟩ : Addr).add k = ⟨gb, k, none⟩ := by unfold Addr.add; split <;> simp_all
    rwa [hadd] at h3
  clear hcells
  go_loop [6, 20] (fun n i => ∃ k : Nat, k ≤ 1 ∧ i = .int .i64 k ∧ n = .int .u64 (num (l.take k))) (fun _ i => 1 - (intOf i).toNat)
  case atStart => exact ⟨0, by omega, rfl, rfl⟩
  case round =>
    obtain ⟨k, hk, rfl, rfl⟩ := hrel
    by_cases hlt : k < 1
    · have hck := HC.out k hlt
      go_wp2
      go_round
      case rel =>
        refine ⟨k + 1, by omega, by go_num, ?_⟩
        have h8 := num_take_lt l k 7 (by omega)
        rw [or_step _ _ (UInt8.toNat_lt _) (Nat.lt_of_lt_of_le h8 (by decide)), num_take_succ l k (by omega)]
      case measure => simp [intOf]; omega
    · obtain rfl : k = 1 := by omega
      go_wp2
      go_ret2
      exact ⟨congrArg (fun z => Ending.returned (.tuple #[.int .u8 z, .int .i64 0])) (show ((num (l.take 1) : Nat) : Int) % 256 = (num (l.take 1) : Nat) by exact Int.emod_eq_of_lt (by omega) (by have := num_take_lt l 1 1 (by omega); omega)), hrd, hfr⟩

set_option maxHeartbeats 1000000 in
theorem take8_short (g : Nat) (d : Option Nat) (l : List UInt8) (w : World) (hr : Rd w g d l) (hn : l.length < 1) (hl : l.length ≤ 100000) :
    Calls Try.prog 40 #[.pointer (some ⟨g, 0, none⟩)] w fun e w' => e = .returned (.tuple #[.int .u8 0, .int .i64 2]) ∧ w = w' := by
  go_enter Try.func40, Try.ntmps40
  go_wp2_with (first | (go_at_call 41; refine (width8 _).mono ?_; rintro e w1 ⟨rfl, rfl⟩) | (go_at_call 14; refine (bytes_short g d l 1 _ hr (by omega) hl).mono ?_; rintro e w1 ⟨rfl, rfl⟩))
  go_ret2
  exact ⟨rfl, rfl⟩

set_option maxHeartbeats 1000000 in
theorem u8_ok (g : Nat) (d : Option Nat) (l : List UInt8) (w : World) (hr : Rd w g d l) (hn : 1 ≤ l.length) (hl : l.length ≤ 100000) :
    Calls Try.prog 29 #[.pointer (some ⟨g, 0, none⟩)] w (TakePost .u8 g d l 1 w) := by
  go_enter Try.func29, Try.ntmps29
  go_wp2_with (go_at_call 40; refine (take8_ok g d l _ hr hn hl).mono ?_; rintro e w1 ⟨rfl, hrd, hfr⟩)
  go_ret2
  exact ⟨rfl, hrd, hfr⟩

set_option maxHeartbeats 1000000 in
theorem u8_short (g : Nat) (d : Option Nat) (l : List UInt8) (w : World) (hr : Rd w g d l) (hn : l.length < 1) (hl : l.length ≤ 100000) :
    Calls Try.prog 29 #[.pointer (some ⟨g, 0, none⟩)] w fun e w' => e = .returned (.tuple #[.int .u8 0, .int .i64 2]) ∧ w = w' := by
  go_enter Try.func29, Try.ntmps29
  go_wp2_with (go_at_call 40; refine (take8_short g d l _ hr hn hl).mono ?_; rintro e w1 ⟨rfl, rfl⟩)
  go_ret2
  exact ⟨rfl, rfl⟩

set_option maxHeartbeats 1000000 in
theorem take16_ok (g : Nat) (d : Option Nat) (l : List UInt8) (w : World) (hr : Rd w g d l) (hn : 2 ≤ l.length) (hl : l.length ≤ 100000) :
    Calls Try.prog 39 #[.pointer (some ⟨g, 0, none⟩)] w (TakePost .u16 g d l 2 w) := by
  go_enter Try.func39, Try.ntmps39
  go_wp2_with (first | (go_at_call 44; refine (width16 _).mono ?_; rintro e w1 ⟨rfl, rfl⟩) | (go_at_call 14; refine (bytes_ok g d l 2 _ hr (by omega) (by omega) hl).mono ?_; rintro e w1 ⟨A1, c1, rfl, hown, hrd, hfr⟩))
  obtain ⟨gb, cb, hv, _, _⟩ := hown.form (by decide)
  injection hv with hA _ hc
  subst hA hc
  have hcells := hown.cells (g := gb) rfl
  have HC : Hid (∀ k, k < 2 → w1.cell? ⟨gb, k, none⟩ = some (.int .u8 ((l.getD k 0).toNat : Int))) := by
    intro k hk
    have h1 : (cellsB (List.take (Int.toNat 2) l))[k]? = some (.int .u8 ((l.getD k 0).toNat : Int)) := by
      have h2 : Int.toNat 2 = 2 := rfl
      rw [h2, cellsB_get, List.getElem?_take, if_pos hk, List.getElem?_eq_getElem (by omega)]
      simp [List.getD, List.getElem?_eq_getElem (show k < l.length by omega)]
    have h3 := hcells k _ h1
    have hadd : (⟨gb, 0, none⟩ : Addr).add k = ⟨gb, k, none⟩ := by unfold Addr.add; split <;> simp_all
    rwa [hadd] at h3
  clear hcells
  go_loop [6, 20] (fun n i => ∃ k : Nat, k ≤ 2 ∧ i = .int .i64 k ∧ n = .int .u64 (num (l.take k))) (fun _ i => 2 - (intOf i).toNat)
  case atStart => exact ⟨0, by omega, rfl, rfl⟩
  case round =>
    obtain ⟨k, hk, rfl, rfl⟩ := hrel
    by_cases hlt : k < 2
    · have hck := HC.out k hlt
      go_wp2
      go_round
      case rel =>
        refine ⟨k + 1, by omega, by go_num, ?_⟩
        have h8 := num_take_lt l k 7 (by omega)
        rw [or_step _ _ (UInt8.toNat_lt _) (Nat.lt_of_lt_of_le h8 (by decide)), num_take_succ l k (by omega)]
      case measure => simp [intOf]; omega
    · obtain rfl : k = 2 := by omega
      go_wp2
      go_ret2
      exact ⟨congrArg (fun z => Ending.returned (.tuple #[.int .u16 z, .int .i64 0])) (show IntKind.u16.wrap ((num (l.take 2) : Nat) : Int) = (num (l.take 2) : Nat) by rw [IntKind.wrap_u16]; exact Int.emod_eq_of_lt (by omega) (by have := num_take_lt l 2 2 (by omega); omega)), hrd, hfr⟩

set_option maxHeartbeats 1000000 in
theorem take16_short (g : Nat) (d : Option Nat) (l : List UInt8) (w : World) (hr : Rd w g d l) (hn : l.length < 2) (hl : l.length ≤ 100000) :
    Calls Try.prog 39 #[.pointer (some ⟨g, 0, none⟩)] w fun e w' => e = .returned (.tuple #[.int .u16 0, .int .i64 2]) ∧ w = w' := by
  go_enter Try.func39, Try.ntmps39
  go_wp2_with (first | (go_at_call 44; refine (width16 _).mono ?_; rintro e w1 ⟨rfl, rfl⟩) | (go_at_call 14; refine (bytes_short g d l 2 _ hr (by omega) hl).mono ?_; rintro e w1 ⟨rfl, rfl⟩))
  go_ret2
  exact ⟨rfl, rfl⟩

set_option maxHeartbeats 1000000 in
theorem u16_ok (g : Nat) (d : Option Nat) (l : List UInt8) (w : World) (hr : Rd w g d l) (hn : 2 ≤ l.length) (hl : l.length ≤ 100000) :
    Calls Try.prog 28 #[.pointer (some ⟨g, 0, none⟩)] w (TakePost .u16 g d l 2 w) := by
  go_enter Try.func28, Try.ntmps28
  go_wp2_with (go_at_call 39; refine (take16_ok g d l _ hr hn hl).mono ?_; rintro e w1 ⟨rfl, hrd, hfr⟩)
  go_ret2
  exact ⟨rfl, hrd, hfr⟩

set_option maxHeartbeats 1000000 in
theorem u16_short (g : Nat) (d : Option Nat) (l : List UInt8) (w : World) (hr : Rd w g d l) (hn : l.length < 2) (hl : l.length ≤ 100000) :
    Calls Try.prog 28 #[.pointer (some ⟨g, 0, none⟩)] w fun e w' => e = .returned (.tuple #[.int .u16 0, .int .i64 2]) ∧ w = w' := by
  go_enter Try.func28, Try.ntmps28
  go_wp2_with (go_at_call 39; refine (take16_short g d l _ hr hn hl).mono ?_; rintro e w1 ⟨rfl, rfl⟩)
  go_ret2
  exact ⟨rfl, rfl⟩

set_option maxHeartbeats 1000000 in
theorem take32_ok (g : Nat) (d : Option Nat) (l : List UInt8) (w : World) (hr : Rd w g d l) (hn : 4 ≤ l.length) (hl : l.length ≤ 100000) :
    Calls Try.prog 38 #[.pointer (some ⟨g, 0, none⟩)] w (TakePost .u32 g d l 4 w) := by
  go_enter Try.func38, Try.ntmps38
  go_wp2_with (first | (go_at_call 43; refine (width32 _).mono ?_; rintro e w1 ⟨rfl, rfl⟩) | (go_at_call 14; refine (bytes_ok g d l 4 _ hr (by omega) (by omega) hl).mono ?_; rintro e w1 ⟨A1, c1, rfl, hown, hrd, hfr⟩))
  obtain ⟨gb, cb, hv, _, _⟩ := hown.form (by decide)
  injection hv with hA _ hc
  subst hA hc
  have hcells := hown.cells (g := gb) rfl
  have HC : Hid (∀ k, k < 4 → w1.cell? ⟨gb, k, none⟩ = some (.int .u8 ((l.getD k 0).toNat : Int))) := by
    intro k hk
    have h1 : (cellsB (List.take (Int.toNat 4) l))[k]? = some (.int .u8 ((l.getD k 0).toNat : Int)) := by
      have h2 : Int.toNat 4 = 4 := rfl
      rw [h2, cellsB_get, List.getElem?_take, if_pos hk, List.getElem?_eq_getElem (by omega)]
      simp [List.getD, List.getElem?_eq_getElem (show k < l.length by omega)]
    have h3 := hcells k _ h1
    have hadd : (⟨gb, 0, none⟩ : Addr).add k = ⟨gb, k, none⟩ := by unfold Addr.add; split <;> simp_all
    rwa [hadd] at h3
  clear hcells
  go_loop [6, 20] (fun n i => ∃ k : Nat, k ≤ 4 ∧ i = .int .i64 k ∧ n = .int .u64 (num (l.take k))) (fun _ i => 4 - (intOf i).toNat)
  case atStart => exact ⟨0, by omega, rfl, rfl⟩
  case round =>
    obtain ⟨k, hk, rfl, rfl⟩ := hrel
    by_cases hlt : k < 4
    · have hck := HC.out k hlt
      go_wp2
      go_round
      case rel =>
        refine ⟨k + 1, by omega, by go_num, ?_⟩
        have h8 := num_take_lt l k 7 (by omega)
        rw [or_step _ _ (UInt8.toNat_lt _) (Nat.lt_of_lt_of_le h8 (by decide)), num_take_succ l k (by omega)]
      case measure => simp [intOf]; omega
    · obtain rfl : k = 4 := by omega
      go_wp2
      go_ret2
      exact ⟨congrArg (fun z => Ending.returned (.tuple #[.int .u32 z, .int .i64 0])) (show ((num (l.take 4) : Nat) : Int) % 4294967296 = (num (l.take 4) : Nat) by exact Int.emod_eq_of_lt (by omega) (by have := num_take_lt l 4 4 (by omega); omega)), hrd, hfr⟩

set_option maxHeartbeats 1000000 in
theorem take32_short (g : Nat) (d : Option Nat) (l : List UInt8) (w : World) (hr : Rd w g d l) (hn : l.length < 4) (hl : l.length ≤ 100000) :
    Calls Try.prog 38 #[.pointer (some ⟨g, 0, none⟩)] w fun e w' => e = .returned (.tuple #[.int .u32 0, .int .i64 2]) ∧ w = w' := by
  go_enter Try.func38, Try.ntmps38
  go_wp2_with (first | (go_at_call 43; refine (width32 _).mono ?_; rintro e w1 ⟨rfl, rfl⟩) | (go_at_call 14; refine (bytes_short g d l 4 _ hr (by omega) hl).mono ?_; rintro e w1 ⟨rfl, rfl⟩))
  go_ret2
  exact ⟨rfl, rfl⟩

set_option maxHeartbeats 1000000 in
theorem u32_ok (g : Nat) (d : Option Nat) (l : List UInt8) (w : World) (hr : Rd w g d l) (hn : 4 ≤ l.length) (hl : l.length ≤ 100000) :
    Calls Try.prog 27 #[.pointer (some ⟨g, 0, none⟩)] w (TakePost .u32 g d l 4 w) := by
  go_enter Try.func27, Try.ntmps27
  go_wp2_with (go_at_call 38; refine (take32_ok g d l _ hr hn hl).mono ?_; rintro e w1 ⟨rfl, hrd, hfr⟩)
  go_ret2
  exact ⟨rfl, hrd, hfr⟩

set_option maxHeartbeats 1000000 in
theorem u32_short (g : Nat) (d : Option Nat) (l : List UInt8) (w : World) (hr : Rd w g d l) (hn : l.length < 4) (hl : l.length ≤ 100000) :
    Calls Try.prog 27 #[.pointer (some ⟨g, 0, none⟩)] w fun e w' => e = .returned (.tuple #[.int .u32 0, .int .i64 2]) ∧ w = w' := by
  go_enter Try.func27, Try.ntmps27
  go_wp2_with (go_at_call 38; refine (take32_short g d l _ hr hn hl).mono ?_; rintro e w1 ⟨rfl, rfl⟩)
  go_ret2
  exact ⟨rfl, rfl⟩

set_option maxHeartbeats 1000000 in
theorem take64_ok (g : Nat) (d : Option Nat) (l : List UInt8) (w : World) (hr : Rd w g d l) (hn : 8 ≤ l.length) (hl : l.length ≤ 100000) :
    Calls Try.prog 37 #[.pointer (some ⟨g, 0, none⟩)] w (TakePost .u64 g d l 8 w) := by
  go_enter Try.func37, Try.ntmps37
  go_wp2_with (first | (go_at_call 42; refine (width64 _).mono ?_; rintro e w1 ⟨rfl, rfl⟩) | (go_at_call 14; refine (bytes_ok g d l 8 _ hr (by omega) (by omega) hl).mono ?_; rintro e w1 ⟨A1, c1, rfl, hown, hrd, hfr⟩))
  obtain ⟨gb, cb, hv, _, _⟩ := hown.form (by decide)
  injection hv with hA _ hc
  subst hA hc
  have hcells := hown.cells (g := gb) rfl
  have HC : Hid (∀ k, k < 8 → w1.cell? ⟨gb, k, none⟩ = some (.int .u8 ((l.getD k 0).toNat : Int))) := by
    intro k hk
    have h1 : (cellsB (List.take (Int.toNat 8) l))[k]? = some (.int .u8 ((l.getD k 0).toNat : Int)) := by
      have h2 : Int.toNat 8 = 8 := rfl
      rw [h2, cellsB_get, List.getElem?_take, if_pos hk, List.getElem?_eq_getElem (by omega)]
      simp [List.getD, List.getElem?_eq_getElem (show k < l.length by omega)]
    have h3 := hcells k _ h1
    have hadd : (⟨gb, 0, none⟩ : Addr).add k = ⟨gb, k, none⟩ := by unfold Addr.add; split <;> simp_all
    rwa [hadd] at h3
  clear hcells
  go_loop [6, 20] (fun n i => ∃ k : Nat, k ≤ 8 ∧ i = .int .i64 k ∧ n = .int .u64 (num (l.take k))) (fun _ i => 8 - (intOf i).toNat)
  case atStart => exact ⟨0, by omega, rfl, rfl⟩
  case round =>
    obtain ⟨k, hk, rfl, rfl⟩ := hrel
    by_cases hlt : k < 8
    · have hck := HC.out k hlt
      go_wp2
      go_round
      case rel =>
        refine ⟨k + 1, by omega, by go_num, ?_⟩
        have h8 := num_take_lt l k 7 (by omega)
        rw [or_step _ _ (UInt8.toNat_lt _) (Nat.lt_of_lt_of_le h8 (by decide)), num_take_succ l k (by omega)]
      case measure => simp [intOf]; omega
    · obtain rfl : k = 8 := by omega
      go_wp2
      go_ret2
      exact ⟨rfl, hrd, hfr⟩

set_option maxHeartbeats 1000000 in
theorem take64_short (g : Nat) (d : Option Nat) (l : List UInt8) (w : World) (hr : Rd w g d l) (hn : l.length < 8) (hl : l.length ≤ 100000) :
    Calls Try.prog 37 #[.pointer (some ⟨g, 0, none⟩)] w fun e w' => e = .returned (.tuple #[.int .u64 0, .int .i64 2]) ∧ w = w' := by
  go_enter Try.func37, Try.ntmps37
  go_wp2_with (first | (go_at_call 42; refine (width64 _).mono ?_; rintro e w1 ⟨rfl, rfl⟩) | (go_at_call 14; refine (bytes_short g d l 8 _ hr (by omega) hl).mono ?_; rintro e w1 ⟨rfl, rfl⟩))
  go_ret2
  exact ⟨rfl, rfl⟩

set_option maxHeartbeats 1000000 in
theorem u64_ok (g : Nat) (d : Option Nat) (l : List UInt8) (w : World) (hr : Rd w g d l) (hn : 8 ≤ l.length) (hl : l.length ≤ 100000) :
    Calls Try.prog 26 #[.pointer (some ⟨g, 0, none⟩)] w (TakePost .u64 g d l 8 w) := by
  go_enter Try.func26, Try.ntmps26
  go_wp2_with (go_at_call 37; refine (take64_ok g d l _ hr hn hl).mono ?_; rintro e w1 ⟨rfl, hrd, hfr⟩)
  go_ret2
  exact ⟨rfl, hrd, hfr⟩

set_option maxHeartbeats 1000000 in
theorem u64_short (g : Nat) (d : Option Nat) (l : List UInt8) (w : World) (hr : Rd w g d l) (hn : l.length < 8) (hl : l.length ≤ 100000) :
    Calls Try.prog 26 #[.pointer (some ⟨g, 0, none⟩)] w fun e w' => e = .returned (.tuple #[.int .u64 0, .int .i64 2]) ∧ w = w' := by
  go_enter Try.func26, Try.ntmps26
  go_wp2_with (go_at_call 37; refine (take64_short g d l _ hr hn hl).mono ?_; rintro e w1 ⟨rfl, rfl⟩)
  go_ret2
  exact ⟨rfl, rfl⟩
end Go.Proofs.Ytiamopkdapdpaaa
