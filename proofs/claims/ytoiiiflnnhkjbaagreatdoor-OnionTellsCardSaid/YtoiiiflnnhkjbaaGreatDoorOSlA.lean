/-
  The reader and the writer.
-/
import Derived.Test.YtoiiiflnnhkjbaaGreatDoorOGen
import Derived.Test.YtoiiiflnnhkjbaaGreatDoorRun
import Derived.Deep.RegionLaw
import Derived.IntWalk
import Derived.Lib.AppendZerosOnto
namespace Go.Proofs.YtoiiiflnnhkjbaaGreatDoor
set_option linter.unusedVariables false
open Go.RowKit

/-- A reader at block g, whose bytes lie in block d, has l left. -/
def Rd (w : World) (g : Nat) (d : Option Nat) (l : List UInt8) : Prop := ∃ v, Blk w g 165 #[v] ∧ Seg w 5 v d (cellsB l)
theorem Rd.lt {w : World} {g : Nat} {d : Option Nat} {l : List UInt8} (h : Rd w g d l) : g < w.heap.size := by obtain ⟨_, h, _⟩ := h; exact h.lt
theorem Rd.frm {S : Nat → Prop} {w w' : World} {g : Nat} {d : Option Nat} {l : List UInt8} (h : Rd w g d l) (f : Frm S w w') (hg : ¬ S g) (hd : ∀ k, d = some k → ¬ S k) : Rd w' g d l := by
  obtain ⟨v, h1, h2⟩ := h
  exact ⟨v, h1.frm f hg, h2.frm f hd⟩
/-- What Read tells. -/
def ReadPost (l : List UInt8) (w : World) (e : Ending) (w' : World) : Prop :=
  ∃ g d, e = .returned (.pointer (some ⟨g, 0, none⟩)) ∧ Rd w' g d l ∧ Below w.heap.size w w' ∧ w.heap.size ≤ g ∧ ∀ k, d = some k → w.heap.size ≤ k
set_option maxHeartbeats 400000 in
theorem read_any (A : Option Addr) (n c : Nat) (l : List UInt8) (w : World) (hr : Rds w A n (cellsB l)) (hn : n ≤ 100000) :
    Calls Tryz.prog 70 #[.slice A n c] w (ReadPost l w) := by
  go_enter Tryz.func70, Tryz.ntmps70
  go_wp2_with (go_at_call 55; refine (clone_any A n c l w hr hn).mono ?_; rintro e w1 ⟨A1, c1, rfl, hown, hb⟩)
  go_ret
  exact ⟨w1.heap.size, _, rfl, ⟨_, Blk.new _ _ _, (Seg.of_own hown).frm (S := fun _ => False) (Frm.alloc _ _ _) (fun _ _ h => h)⟩, hb.alloc hb.size _, hb.size, fun k hk => (hown.lt k hk).1⟩
/-- What Bytes tells, where there are enough. -/
def BytesPost (g : Nat) (d : Option Nat) (l : List UInt8) (n : Nat) (w : World) (e : Ending) (w' : World) : Prop :=
  ∃ A c, e = .returned (.tuple #[.slice A n c, .int .i64 0]) ∧ w'.ownsRow w.heap.size 5 1 (.slice A n c) n (cellsB (l.take n)) ∧ Rd w' g d (l.drop n) ∧ Frm (fun k => k = g) w w'
set_option maxHeartbeats 400000 in
theorem bytes_ok (g : Nat) (d : Option Nat) (l : List UInt8) (n : Int) (w : World) (hr : Rd w g d l) (h0 : 0 ≤ n) (hn : n ≤ l.length) (hl : l.length ≤ 100000) :
    Calls Tryz.prog 101 #[.pointer (some ⟨g, 0, none⟩), .int .i64 n] w (BytesPost g d l n.toNat w) := by
  have hrc := hr
  obtain ⟨v, hb, hs⟩ := hr
  obtain ⟨A, c, rfl⟩ : ∃ A c, v = .slice A l.length c := by
    obtain ⟨A, c, hv, _⟩ := hs
    exact ⟨A, c, by rw [hv, cellsB_length]⟩
  have hc := hb.cell 0
  have hf := hb.frozen 0
  simp at hc
  have hcap : l.length ≤ c := by obtain ⟨A', c', hv, h1, _⟩ := hs; injection hv with _ _ h3; rw [cellsB_length] at h1; omega
  have hrd : Rds w A n.toNat (cellsB (l.take n.toNat)) := by rw [← cellsB_take]; exact (Seg.rds hs).take _ (by omega)
  have HC := hide (hs.cut n.toNat (by omega))
  have HN : Hid ((cellsB (l.take n.toNat)).length = n.toNat) := by rw [cellsB_length, List.length_take]; exact Nat.min_eq_left (by omega)
  have fin : ∀ (w1 : World) (u : Value), Below w.heap.size w w1 → Seg w 5 u d (cellsB (l.drop n.toNat)) → Rd (w1.setCell ⟨g, 0, none⟩ u) g d (l.drop n.toNat) ∧ Frm (fun k => k = g) w (w1.setCell ⟨g, 0, none⟩ u) := by
    intro w1 u h1 h2
    have hf1 : Frm (fun k => k = g) w w1 := Frm.of_below h1
    have hf2 : Frm (fun _ => False) w w1 := Frm.of_below h1
    have hb1 := hb.frm hf2 (fun h => h)
    exact ⟨⟨u, by simpa using hb1.set 0 u, (h2.frm hf2 (fun _ _ h => h)).set hb1 (by decide) 0 u⟩, hf1.trans (Frm.setCell _ _ _ (fun k => k = g) rfl) (fun _ _ h => h)⟩
  have FIN := hide fin
  clear fin
  go_enter Tryz.func101, Tryz.ntmps101
  go_wp2_with (go_at_call 55; refine (clone_any A n.toNat c (l.take n.toNat) w hrd (by omega)).mono ?_; rintro e w1 ⟨A1, c1, rfl, hown, hb1⟩; have hc1 := (hb1.cell hb.lt).trans hc; have hf1 := (hb1.frozen hb.lt).trans hf)
  all_goals
    go_ret2
    have h1 := HC.out
    rw [cellsB_drop] at h1
    simp only [h, if_true, if_false, Nat.sub_self] at h1
    obtain ⟨h2, h3⟩ := FIN.out w1 _ hb1 h1
    rw [HN.out] at hown ⊢
    exact ⟨A1, c1, rfl, own_set hown (hb.frm (S := fun _ => False) (Frm.of_below hb1) (fun h => h)) (by decide) 0 _, h2, h3⟩
theorem width8 (w : World) : Calls Tryz.prog 108 #[] w fun e w' => e = .returned (.int .i64 1) ∧ w = w' :=
  calls_of_fin (v := .int .i64 1) (w1 := w) 1000 (fun cs => by kernel_rfl) ⟨rfl, rfl⟩
theorem width16 (w : World) : Calls Tryz.prog 77 #[] w fun e w' => e = .returned (.int .i64 2) ∧ w = w' :=
  calls_of_fin (v := .int .i64 2) (w1 := w) 1000 (fun cs => by kernel_rfl) ⟨rfl, rfl⟩
theorem width32 (w : World) : Calls Tryz.prog 107 #[] w fun e w' => e = .returned (.int .i64 4) ∧ w = w' :=
  calls_of_fin (v := .int .i64 4) (w1 := w) 1000 (fun cs => by kernel_rfl) ⟨rfl, rfl⟩
theorem width64 (w : World) : Calls Tryz.prog 109 #[] w fun e w' => e = .returned (.int .i64 8) ∧ w = w' :=
  calls_of_fin (v := .int .i64 8) (w1 := w) 1000 (fun cs => by kernel_rfl) ⟨rfl, rfl⟩
def TakePost (k : IntKind) (g : Nat) (d : Option Nat) (l : List UInt8) (n : Nat) (w : World) (e : Ending) (w' : World) : Prop :=
  e = .returned (.tuple #[.int k (num (l.take n)), .int .i64 0]) ∧ Rd w' g d (l.drop n) ∧ Frm (fun k => k = g) w w'
set_option maxHeartbeats 1000000 in
theorem take8_ok (g : Nat) (d : Option Nat) (l : List UInt8) (w : World) (hr : Rd w g d l) (hn : 1 ≤ l.length) (hl : l.length ≤ 100000) :
    Calls Tryz.prog 97 #[.pointer (some ⟨g, 0, none⟩)] w (TakePost .u8 g d l 1 w) := by
  go_enter Tryz.func97, Tryz.ntmps97
  go_wp2_with (first | (go_at_call 108; refine (width8 _).mono ?_; rintro e w1 ⟨rfl, rfl⟩) | (go_at_call 101; refine (bytes_ok g d l 1 _ hr (by omega) (by omega) hl).mono ?_; rintro e w1 ⟨A1, c1, rfl, hown, hrd, hfr⟩))
  obtain ⟨gb, cb, hv, _, _⟩ := hown.form (by decide)
  injection hv with hA _ hc
  subst hA hc
  have hcells := hown.cells (g := gb) rfl
  have HC : Hid (∀ k, k < 1 → w1.cell? ⟨gb, k, none⟩ = some (.int .u8 ((l.getD k 0).toNat : Int))) := by
    intro k hk
    have h1 : (cellsB (List.take (Int.toNat 1) l))[k]? = some (.int .u8 ((l.getD k 0).toNat : Int)) := by
      have h2 : Int.toNat 1 = 1 := rfl
      rw [h2, cellsB_get, List.getElem?_take, if_pos hk, List.getElem?_eq_getElem (by omega)]
      simp [List.getD, List.getElem?_eq_getElem (show k < l.length by omega)]
    have h3 := hcells k _ h1
    have hadd : (⟨gb, 0, none⟩ : Addr).add k = ⟨gb, k, none⟩ := by unfold Addr.add; split <;> simp_all
    rwa [hadd] at h3
  clear hcells
  go_loop [6, 20] (fun n i => ∃ k : Nat, k ≤ 1 ∧ i = .int .i64 k ∧ n = .int .u64 (num (l.take k))) (fun _ i => 1 - (intOf i).toNat)
  case atStart => exact ⟨0, by omega, rfl, rfl⟩
  case round =>
    obtain ⟨k, hk, rfl, rfl⟩ := hrel
    by_cases hlt : k < 1
    · have hck := HC.out k hlt
      go_wp2
      go_round
      case rel =>
        refine ⟨k + 1, by omega, by go_num, ?_⟩
        have h8 := num_take_lt l k 7 (by omega)
        rw [or_step _ _ (UInt8.toNat_lt _) (Nat.lt_of_lt_of_le h8 (by decide)), num_take_succ l k (by omega)]
      case measure => simp [intOf]; omega
    · obtain rfl : k = 1 := by omega
      go_wp2
      go_ret2
      exact ⟨congrArg (fun z => Ending.returned (.tuple #[.int .u8 z, .int .i64 0])) (show ((num (l.take 1) : Nat) : Int) % 256 = (num (l.take 1) : Nat) by exact Int.emod_eq_of_lt (by omega) (by have := num_take_lt l 1 1 (by omega); omega)), hrd, hfr⟩
set_option maxHeartbeats 1000000 in
theorem u8_ok (g : Nat) (d : Option Nat) (l : List UInt8) (w : World) (hr : Rd w g d l) (hn : 1 ≤ l.length) (hl : l.length ≤ 100000) :
    Calls Tryz.prog 71 #[.pointer (some ⟨g, 0, none⟩)] w (TakePost .u8 g d l 1 w) := by
  go_enter Tryz.func71, Tryz.ntmps71
  go_wp2_with (go_at_call 97; refine (take8_ok g d l _ hr hn hl).mono ?_; rintro e w1 ⟨rfl, hrd, hfr⟩)
  go_ret2
  exact ⟨rfl, hrd, hfr⟩
set_option maxHeartbeats 1000000 in
theorem take16_ok (g : Nat) (d : Option Nat) (l : List UInt8) (w : World) (hr : Rd w g d l) (hn : 2 ≤ l.length) (hl : l.length ≤ 100000) :
    Calls Tryz.prog 98 #[.pointer (some ⟨g, 0, none⟩)] w (TakePost .u16 g d l 2 w) := by
  go_enter Tryz.func98, Tryz.ntmps98
  go_wp2_with (first | (go_at_call 77; refine (width16 _).mono ?_; rintro e w1 ⟨rfl, rfl⟩) | (go_at_call 101; refine (bytes_ok g d l 2 _ hr (by omega) (by omega) hl).mono ?_; rintro e w1 ⟨A1, c1, rfl, hown, hrd, hfr⟩))
  obtain ⟨gb, cb, hv, _, _⟩ := hown.form (by decide)
  injection hv with hA _ hc
  subst hA hc
  have hcells := hown.cells (g := gb) rfl
  have HC : Hid (∀ k, k < 2 → w1.cell? ⟨gb, k, none⟩ = some (.int .u8 ((l.getD k 0).toNat : Int))) := by
    intro k hk
    have h1 : (cellsB (List.take (Int.toNat 2) l))[k]? = some (.int .u8 ((l.getD k 0).toNat : Int)) := by
      have h2 : Int.toNat 2 = 2 := rfl
      rw [h2, cellsB_get, List.getElem?_take, if_pos hk, List.getElem?_eq_getElem (by omega)]
      simp [List.getD, List.getElem?_eq_getElem (show k < l.length by omega)]
    have h3 := hcells k _ h1
    have hadd : (⟨gb, 0, none⟩ : Addr).add k = ⟨gb, k, none⟩ := by unfold Addr.add; split <;> simp_all
    rwa [hadd] at h3
  clear hcells
  go_loop [6, 20] (fun n i => ∃ k : Nat, k ≤ 2 ∧ i = .int .i64 k ∧ n = .int .u64 (num (l.take k))) (fun _ i => 2 - (intOf i).toNat)
  case atStart => exact ⟨0, by omega, rfl, rfl⟩
  case round =>
    obtain ⟨k, hk, rfl, rfl⟩ := hrel
    by_cases hlt : k < 2
    · have hck := HC.out k hlt
      go_wp2
      go_round
      case rel =>
        refine ⟨k + 1, by omega, by go_num, ?_⟩
        have h8 := num_take_lt l k 7 (by omega)
        rw [or_step _ _ (UInt8.toNat_lt _) (Nat.lt_of_lt_of_le h8 (by decide)), num_take_succ l k (by omega)]
      case measure => simp [intOf]; omega
    · obtain rfl : k = 2 := by omega
      go_wp2
      go_ret2
      exact ⟨congrArg (fun z => Ending.returned (.tuple #[.int .u16 z, .int .i64 0])) (show IntKind.u16.wrap ((num (l.take 2) : Nat) : Int) = (num (l.take 2) : Nat) by rw [IntKind.wrap_u16]; exact Int.emod_eq_of_lt (by omega) (by have := num_take_lt l 2 2 (by omega); omega)), hrd, hfr⟩
set_option maxHeartbeats 1000000 in
theorem u16_ok (g : Nat) (d : Option Nat) (l : List UInt8) (w : World) (hr : Rd w g d l) (hn : 2 ≤ l.length) (hl : l.length ≤ 100000) :
    Calls Tryz.prog 72 #[.pointer (some ⟨g, 0, none⟩)] w (TakePost .u16 g d l 2 w) := by
  go_enter Tryz.func72, Tryz.ntmps72
  go_wp2_with (go_at_call 98; refine (take16_ok g d l _ hr hn hl).mono ?_; rintro e w1 ⟨rfl, hrd, hfr⟩)
  go_ret2
  exact ⟨rfl, hrd, hfr⟩
set_option maxHeartbeats 1000000 in
theorem take32_ok (g : Nat) (d : Option Nat) (l : List UInt8) (w : World) (hr : Rd w g d l) (hn : 4 ≤ l.length) (hl : l.length ≤ 100000) :
    Calls Tryz.prog 100 #[.pointer (some ⟨g, 0, none⟩)] w (TakePost .u32 g d l 4 w) := by
  go_enter Tryz.func100, Tryz.ntmps100
  go_wp2_with (first | (go_at_call 107; refine (width32 _).mono ?_; rintro e w1 ⟨rfl, rfl⟩) | (go_at_call 101; refine (bytes_ok g d l 4 _ hr (by omega) (by omega) hl).mono ?_; rintro e w1 ⟨A1, c1, rfl, hown, hrd, hfr⟩))
  obtain ⟨gb, cb, hv, _, _⟩ := hown.form (by decide)
  injection hv with hA _ hc
  subst hA hc
  have hcells := hown.cells (g := gb) rfl
  have HC : Hid (∀ k, k < 4 → w1.cell? ⟨gb, k, none⟩ = some (.int .u8 ((l.getD k 0).toNat : Int))) := by
    intro k hk
    have h1 : (cellsB (List.take (Int.toNat 4) l))[k]? = some (.int .u8 ((l.getD k 0).toNat : Int)) := by
      have h2 : Int.toNat 4 = 4 := rfl
      rw [h2, cellsB_get, List.getElem?_take, if_pos hk, List.getElem?_eq_getElem (by omega)]
      simp [List.getD, List.getElem?_eq_getElem (show k < l.length by omega)]
    have h3 := hcells k _ h1
    have hadd : (⟨gb, 0, none⟩ : Addr).add k = ⟨gb, k, none⟩ := by unfold Addr.add; split <;> simp_all
    rwa [hadd] at h3
  clear hcells
  go_loop [6, 20] (fun n i => ∃ k : Nat, k ≤ 4 ∧ i = .int .i64 k ∧ n = .int .u64 (num (l.take k))) (fun _ i => 4 - (intOf i).toNat)
  case atStart => exact ⟨0, by omega, rfl, rfl⟩
  case round =>
    obtain ⟨k, hk, rfl, rfl⟩ := hrel
    by_cases hlt : k < 4
    · have hck := HC.out k hlt
      go_wp2
      go_round
      case rel =>
        refine ⟨k + 1, by omega, by go_num, ?_⟩
        have h8 := num_take_lt l k 7 (by omega)
        rw [or_step _ _ (UInt8.toNat_lt _) (Nat.lt_of_lt_of_le h8 (by decide)), num_take_succ l k (by omega)]
      case measure => simp [intOf]; omega
    · obtain rfl : k = 4 := by omega
      go_wp2
      go_ret2
      exact ⟨congrArg (fun z => Ending.returned (.tuple #[.int .u32 z, .int .i64 0])) (show ((num (l.take 4) : Nat) : Int) % 4294967296 = (num (l.take 4) : Nat) by exact Int.emod_eq_of_lt (by omega) (by have := num_take_lt l 4 4 (by omega); omega)), hrd, hfr⟩
set_option maxHeartbeats 1000000 in
theorem u32_ok (g : Nat) (d : Option Nat) (l : List UInt8) (w : World) (hr : Rd w g d l) (hn : 4 ≤ l.length) (hl : l.length ≤ 100000) :
    Calls Tryz.prog 74 #[.pointer (some ⟨g, 0, none⟩)] w (TakePost .u32 g d l 4 w) := by
  go_enter Tryz.func74, Tryz.ntmps74
  go_wp2_with (go_at_call 100; refine (take32_ok g d l _ hr hn hl).mono ?_; rintro e w1 ⟨rfl, hrd, hfr⟩)
  go_ret2
  exact ⟨rfl, hrd, hfr⟩
set_option maxHeartbeats 1000000 in
theorem take64_ok (g : Nat) (d : Option Nat) (l : List UInt8) (w : World) (hr : Rd w g d l) (hn : 8 ≤ l.length) (hl : l.length ≤ 100000) :
    Calls Tryz.prog 99 #[.pointer (some ⟨g, 0, none⟩)] w (TakePost .u64 g d l 8 w) := by
  go_enter Tryz.func99, Tryz.ntmps99
  go_wp2_with (first | (go_at_call 109; refine (width64 _).mono ?_; rintro e w1 ⟨rfl, rfl⟩) | (go_at_call 101; refine (bytes_ok g d l 8 _ hr (by omega) (by omega) hl).mono ?_; rintro e w1 ⟨A1, c1, rfl, hown, hrd, hfr⟩))
  obtain ⟨gb, cb, hv, _, _⟩ := hown.form (by decide)
  injection hv with hA _ hc
  subst hA hc
  have hcells := hown.cells (g := gb) rfl
  have HC : Hid (∀ k, k < 8 → w1.cell? ⟨gb, k, none⟩ = some (.int .u8 ((l.getD k 0).toNat : Int))) := by
    intro k hk
    have h1 : (cellsB (List.take (Int.toNat 8) l))[k]? = some (.int .u8 ((l.getD k 0).toNat : Int)) := by
      have h2 : Int.toNat 8 = 8 := rfl
      rw [h2, cellsB_get, List.getElem?_take, if_pos hk, List.getElem?_eq_getElem (by omega)]
      simp [List.getD, List.getElem?_eq_getElem (show k < l.length by omega)]
    have h3 := hcells k _ h1
    have hadd : (⟨gb, 0, none⟩ : Addr).add k = ⟨gb, k, none⟩ := by unfold Addr.add; split <;> simp_all
    rwa [hadd] at h3
  clear hcells
  go_loop [6, 20] (fun n i => ∃ k : Nat, k ≤ 8 ∧ i = .int .i64 k ∧ n = .int .u64 (num (l.take k))) (fun _ i => 8 - (intOf i).toNat)
  case atStart => exact ⟨0, by omega, rfl, rfl⟩
  case round =>
    obtain ⟨k, hk, rfl, rfl⟩ := hrel
    by_cases hlt : k < 8
    · have hck := HC.out k hlt
      go_wp2
      go_round
      case rel =>
        refine ⟨k + 1, by omega, by go_num, ?_⟩
        have h8 := num_take_lt l k 7 (by omega)
        rw [or_step _ _ (UInt8.toNat_lt _) (Nat.lt_of_lt_of_le h8 (by decide)), num_take_succ l k (by omega)]
      case measure => simp [intOf]; omega
    · obtain rfl : k = 8 := by omega
      go_wp2
      go_ret2
      exact ⟨rfl, hrd, hfr⟩
set_option maxHeartbeats 1000000 in
theorem u64_ok (g : Nat) (d : Option Nat) (l : List UInt8) (w : World) (hr : Rd w g d l) (hn : 8 ≤ l.length) (hl : l.length ≤ 100000) :
    Calls Tryz.prog 73 #[.pointer (some ⟨g, 0, none⟩)] w (TakePost .u64 g d l 8 w) := by
  go_enter Tryz.func73, Tryz.ntmps73
  go_wp2_with (go_at_call 99; refine (take64_ok g d l _ hr hn hl).mono ?_; rintro e w1 ⟨rfl, hrd, hfr⟩)
  go_ret2
  exact ⟨rfl, hrd, hfr⟩
/-- A writer at block g, whose bytes lie in block d, has l. -/
def Wr (w : World) (g : Nat) (d : Option Nat) (l : List UInt8) : Prop := ∃ v, Blk w g 89 #[v] ∧ w.ownsRow 0 5 1 v l.length (cellsB l) ∧ (v.ownBlock = none ∨ v.ownBlock = d)
theorem Wr.lt {w : World} {g : Nat} {d : Option Nat} {l : List UInt8} (h : Wr w g d l) : g < w.heap.size := by obtain ⟨_, h, _⟩ := h; exact h.lt
theorem Wr.frm {S : Nat → Prop} {w w' : World} {g : Nat} {d : Option Nat} {l : List UInt8} (h : Wr w g d l) (f : Frm S w w') (hg : ¬ S g) (hd : ∀ k, d = some k → ¬ S k) : Wr w' g d l := by
  obtain ⟨v, h1, h2, h3⟩ := h
  refine ⟨v, h1.frm f hg, own_frm h2 f (fun k hk => ?_), h3⟩
  rcases h3 with h3 | h3
  · rw [h3] at hk; cases hk
  · exact hd k (h3 ▸ hk)
/-- What a writer's call leaves: the writer has l now; only its own blocks turned. -/
def Put (g : Nat) (d : Option Nat) (l : List UInt8) (w w' : World) : Prop :=
  ∃ d', Wr w' g d' l ∧ (d' = d ∨ ∃ j, d' = some j ∧ w.heap.size ≤ j) ∧ Frm (fun k => k = g ∨ some k = d) w w'
theorem Put.refl {g : Nat} {d : Option Nat} {l : List UInt8} {w : World} (h : Wr w g d l) : Put g d l w w := ⟨d, h, .inl rfl, Frm.refl _ _⟩
/-- What was appended is stored. -/
theorem put_step {g : Nat} {d d' : Option Nat} {l l' : List UInt8} {w wr wr2 w1 : World} {v v1 : Value} {n : Nat}
    (hd : d' = d ∨ ∃ j, d' = some j ∧ w.heap.size ≤ j) (hf : Frm (fun k => k = g ∨ some k = d) w wr)
    (hb : Blk wr g 89 #[v]) (hown : wr.ownsRow 0 5 1 v l.length (cellsB l)) (hv : v.ownBlock = none ∨ v.ownBlock = d')
    (hf2 : Frm (fun _ => False) wr wr2) (hg : wr2.grownBy w1 v.ownBlock) (hown1 : w1.ownsRow 0 5 1 v1 n (cellsB l ++ cellsB l')) (hn : n = l.length + l'.length)
    (hat : v1.ownBlock = v.ownBlock ∨ v1.ownBlock = some wr2.heap.size) : Put g d (l ++ l') w (w1.setCell ⟨g, 0, none⟩ v1) := by
  subst hn
  have hb2 := hb.frm hf2 (fun h => h)
  have hown2 := own_frm hown hf2 (fun _ _ h => h)
  have hb1 := Blk.grown hb2 hown2 (by decide) hg
  have hs1 := hb1.set 0 v1
  have hwr : ∀ d'', (v1.ownBlock = none ∨ v1.ownBlock = d'') → Wr (w1.setCell ⟨g, 0, none⟩ v1) g d'' (l ++ l') := by
    intro d'' h
    refine ⟨v1, by simpa using hs1, ?_, h⟩
    have := own_set hown1 hb1 (by decide) 0 v1
    rwa [← cellsB_append, ← List.length_append] at this
  have hfr : Frm (fun k => k = g ∨ some k = d) w (w1.setCell ⟨g, 0, none⟩ v1) := by
    refine ((hf.trans hf2 (fun _ _ h => h.elim)).trans (Frm.of_grown hg) (fun i hi h => ?_)).trans (Frm.setCell _ _ _ (fun k => k = g) rfl) (fun _ _ h => .inl h)
    rcases hv with hv | hv
    · rw [hv] at h; cases h
    · rcases hd with rfl | ⟨j, rfl, hj⟩
      · exact .inr (hv ▸ h)
      · rw [hv] at h
        injection h with h
        omega
  have hsz : w.heap.size ≤ wr2.heap.size := Nat.le_trans hf.size hf2.size
  rcases hat with h | h
  · exact ⟨d', hwr d' (by rw [h]; exact hv), hd, hfr⟩
  · exact ⟨some wr2.heap.size, hwr _ (.inr h), .inr ⟨_, rfl, hsz⟩, hfr⟩
/-- What a writer's call tells: the writer. -/
def PutPost (g : Nat) (d : Option Nat) (l : List UInt8) (w : World) (e : Ending) (w' : World) : Prop := e = .returned (.pointer (some ⟨g, 0, none⟩)) ∧ Put g d l w w'
set_option maxHeartbeats 2000000 in
theorem put8_any (g : Nat) (d : Option Nat) (l : List UInt8) (n : Int) (w : World) (hr : Wr w g d l) (hl : l.length ≤ 100000) (h0 : 0 ≤ n) (hn : n < 256) :
    Calls Tryz.prog 88 #[.pointer (some ⟨g, 0, none⟩), .int .u8 n] w (PutPost g d (l ++ be 1 n.toNat) w) := by
  go_enter Tryz.func88, Tryz.ntmps88
  go_wp2_with (go_at_call 108; refine (width8 _).mono ?_; rintro e w1 ⟨rfl, rfl⟩)
  go_loopw [5] (fun i wr => ∃ k : Nat, k ≤ 1 ∧ i = .int .i64 (0 - k) ∧ Put g d (l ++ (be 1 n.toNat).take k) w wr) (fun i _ => (intOf i + 1).toNat)
  case atStart => exact ⟨0, by omega, rfl, by rw [List.take_zero, List.append_nil]; exact Put.refl hr⟩
  case round =>
    obtain ⟨k, hk, rfl, d', ⟨v, hb, hown, hd⟩, hdd, hfr⟩ := hrel
    obtain ⟨A, c, rfl⟩ := own_form hown
    have hlen : (l ++ (be 1 n.toNat).take k).length ≤ 100010 := by rw [List.length_append, List.length_take, be_length]; omega
    by_cases hlt : k < 1
    · have HT := hide (be_take_succ 1 n.toNat k hlt)
      generalize (be 1 n.toNat).take k = t at *
      generalize hlt2 : l ++ t = lt at *
      have HLT := hide hlt2
      clear hlt2
      have hc := hb.cell 0
      have hf := hb.frozen 0
      simp at hc
      obtain rfl : k = 0 := by omega
      have hsh := fun w => shift_byte (P := Tryz.prog) n 0 (0 - 0) (by omega) (by omega) h0 w
      have hwn : IntKind.u64.wrap n = n := by rw [IntKind.wrap_u64]; exact Int.emod_eq_of_lt h0 (by omega)
      have HB := hide (be_byte n 1 0 h0)
      generalize hx : n / 256 ^ (0 - 0) = x at *
      have HX := hide hx
      clear hx
      have hb0 : Blk (wr.alloc (Obj.cells #[Value.int IntKind.u8 (IntKind.u8.wrap x)] 5)).drew g 89 #[.slice A lt.length c] := hb.frm (S := fun _ => False) (Frm.alloc wr _ _).drew (fun h => h)
      have hc0 : (wr.alloc (Obj.cells #[Value.int IntKind.u8 (IntKind.u8.wrap x)] 5)).cell? ⟨g, 0, none⟩ = some (.slice A lt.length c) := by have := hb0.cell 0; simpa using this
      have ho0 : (wr.alloc (Obj.cells #[Value.int IntKind.u8 (IntKind.u8.wrap x)] 5)).drew.ownsRow 0 5 1 (.slice A lt.length c) lt.length (cellsB lt) := hown.alloc _
      have hr0 : Rds (wr.alloc (Obj.cells #[Value.int IntKind.u8 (IntKind.u8.wrap x)] 5)).drew (some ⟨wr.heap.size, 0, none⟩) 1 [.int .u8 (IntKind.u8.wrap x)] := Rds.new1 wr _ _
      have hb1 : (lt.length + 1) * 1 ≤ 140737488355328 := by omega
      have hb2 : lt.length + 1 ≤ 140737488355328 := by omega
      go_wp2_with fail
      go_region_law (refine step_app one_u8 rfl (.tmp 16) (.tmp 23) rfl _ 0 (.slice A lt.length c) lt.length (cellsB lt) rfl ho0 (some ⟨wr.heap.size, 0, none⟩) 1 1 [.int .u8 (IntKind.u8.wrap x)] rfl hr0 (one1 _ _) hb1 hb2 (Nat.zero_le _) ?_; intro A1 c1 w1 hown1 hg1 hat1; have hb1 := Blk.grown hb0 ho0 (by decide) hg1; have hc1 := hb1.cell 0; have hf1 := hb1.frozen 0; simp at hc1)
      all_goals
        go_wp2
        go_roundw
        case rel =>
          refine ⟨0 + 1, by omega, by go_num, ?_⟩
          rw [HT.out, ← List.append_assoc, HLT.out]
          refine put_step (v := .slice A lt.length c) hdd hfr hb hown hd ((Frm.alloc wr (.cells #[.int .u8 (IntKind.u8.wrap x)] 5) _).drew) hg1 ?_ rfl hat1
          have hbb := HB.out
          rw [hbb] at hown1
          exact hown1
        case measure => simp [intOf]
    · obtain rfl : k = 1 := by omega
      go_wp2
      go_ret
      refine ⟨rfl, ?_⟩
      rw [List.take_of_length_le (by rw [be_length]; omega)] at hown
      exact ⟨d', ⟨_, hb, hown, hd⟩, hdd, hfr⟩
set_option maxHeartbeats 1000000 in
theorem wu8_any (g : Nat) (d : Option Nat) (l : List UInt8) (n : Int) (w : World) (hr : Wr w g d l) (hl : l.length ≤ 100000) (h0 : 0 ≤ n) (hn : n < 256) :
    Calls Tryz.prog 63 #[.pointer (some ⟨g, 0, none⟩), .int .u8 n] w (PutPost g d (l ++ be 1 n.toNat) w) := by
  go_enter Tryz.func63, Tryz.ntmps63
  go_wp2_with (go_at_call 88; refine (put8_any g d l n _ hr hl h0 hn).mono ?_; rintro e w1 ⟨rfl, hp⟩)
  go_ret
  exact ⟨rfl, hp⟩
set_option maxHeartbeats 2000000 in
theorem put16_any (g : Nat) (d : Option Nat) (l : List UInt8) (n : Int) (w : World) (hr : Wr w g d l) (hl : l.length ≤ 100000) (h0 : 0 ≤ n) (hn : n < 65536) :
    Calls Tryz.prog 54 #[.pointer (some ⟨g, 0, none⟩), .int .u16 n] w (PutPost g d (l ++ be 2 n.toNat) w) := by
  go_enter Tryz.func54, Tryz.ntmps54
  go_wp2_with (go_at_call 77; refine (width16 _).mono ?_; rintro e w1 ⟨rfl, rfl⟩)
  go_loopw [5] (fun i wr => ∃ k : Nat, k ≤ 2 ∧ i = .int .i64 (1 - k) ∧ Put g d (l ++ (be 2 n.toNat).take k) w wr) (fun i _ => (intOf i + 1).toNat)
  case atStart => exact ⟨0, by omega, rfl, by rw [List.take_zero, List.append_nil]; exact Put.refl hr⟩
  case round =>
    obtain ⟨k, hk, rfl, d', ⟨v, hb, hown, hd⟩, hdd, hfr⟩ := hrel
    obtain ⟨A, c, rfl⟩ := own_form hown
    have hlen : (l ++ (be 2 n.toNat).take k).length ≤ 100010 := by rw [List.length_append, List.length_take, be_length]; omega
    by_cases hlt : k < 2
    · have HT := hide (be_take_succ 2 n.toNat k hlt)
      generalize (be 2 n.toNat).take k = t at *
      generalize hlt2 : l ++ t = lt at *
      have HLT := hide hlt2
      clear hlt2
      have hc := hb.cell 0
      have hf := hb.frozen 0
      simp at hc
      have hge : (0 : Int) ≤ 1 - k := by omega
      have hsh := fun w => shift_byte (P := Tryz.prog) n (8 * (1 - ↑k)) (1 - k) (by omega) (by omega) h0 w
      have hwn : IntKind.u64.wrap n = n := by rw [IntKind.wrap_u64]; exact Int.emod_eq_of_lt h0 (by omega)
      have HB := hide (be_byte n 2 k h0)
      generalize hx : n / 256 ^ (1 - k) = x at *
      have HX := hide hx
      clear hx
      have hb0 : Blk (wr.alloc (Obj.cells #[Value.int IntKind.u8 (IntKind.u8.wrap x)] 5)).drew g 89 #[.slice A lt.length c] := hb.frm (S := fun _ => False) (Frm.alloc wr _ _).drew (fun h => h)
      have hc0 : (wr.alloc (Obj.cells #[Value.int IntKind.u8 (IntKind.u8.wrap x)] 5)).cell? ⟨g, 0, none⟩ = some (.slice A lt.length c) := by have := hb0.cell 0; simpa using this
      have ho0 : (wr.alloc (Obj.cells #[Value.int IntKind.u8 (IntKind.u8.wrap x)] 5)).drew.ownsRow 0 5 1 (.slice A lt.length c) lt.length (cellsB lt) := hown.alloc _
      have hr0 : Rds (wr.alloc (Obj.cells #[Value.int IntKind.u8 (IntKind.u8.wrap x)] 5)).drew (some ⟨wr.heap.size, 0, none⟩) 1 [.int .u8 (IntKind.u8.wrap x)] := Rds.new1 wr _ _
      have hb1 : (lt.length + 1) * 1 ≤ 140737488355328 := by omega
      have hb2 : lt.length + 1 ≤ 140737488355328 := by omega
      go_wp2_with fail
      go_region_law (refine step_app one_u8 rfl (.tmp 16) (.tmp 23) rfl _ 0 (.slice A lt.length c) lt.length (cellsB lt) rfl ho0 (some ⟨wr.heap.size, 0, none⟩) 1 1 [.int .u8 (IntKind.u8.wrap x)] rfl hr0 (one1 _ _) hb1 hb2 (Nat.zero_le _) ?_; intro A1 c1 w1 hown1 hg1 hat1; have hb1 := Blk.grown hb0 ho0 (by decide) hg1; have hc1 := hb1.cell 0; have hf1 := hb1.frozen 0; simp at hc1)
      all_goals
        go_wp2
        go_roundw
        case rel =>
          refine ⟨k + 1, by omega, by go_num, ?_⟩
          rw [HT.out, ← List.append_assoc, HLT.out]
          refine put_step (v := .slice A lt.length c) hdd hfr hb hown hd ((Frm.alloc wr (.cells #[.int .u8 (IntKind.u8.wrap x)] 5) _).drew) hg1 ?_ rfl hat1
          have hbb := HB.out
          rw [hbb] at hown1
          exact hown1
        case measure => simp [intOf]; omega
    · obtain rfl : k = 2 := by omega
      go_wp2
      go_ret
      refine ⟨rfl, ?_⟩
      rw [List.take_of_length_le (by rw [be_length]; omega)] at hown
      exact ⟨d', ⟨_, hb, hown, hd⟩, hdd, hfr⟩
set_option maxHeartbeats 1000000 in
theorem wu16_any (g : Nat) (d : Option Nat) (l : List UInt8) (n : Int) (w : World) (hr : Wr w g d l) (hl : l.length ≤ 100000) (h0 : 0 ≤ n) (hn : n < 65536) :
    Calls Tryz.prog 34 #[.pointer (some ⟨g, 0, none⟩), .int .u16 n] w (PutPost g d (l ++ be 2 n.toNat) w) := by
  go_enter Tryz.func34, Tryz.ntmps34
  go_wp2_with (go_at_call 54; refine (put16_any g d l n _ hr hl h0 hn).mono ?_; rintro e w1 ⟨rfl, hp⟩)
  go_ret
  exact ⟨rfl, hp⟩
set_option maxHeartbeats 2000000 in
theorem put32_any (g : Nat) (d : Option Nat) (l : List UInt8) (n : Int) (w : World) (hr : Wr w g d l) (hl : l.length ≤ 100000) (h0 : 0 ≤ n) (hn : n < 4294967296) :
    Calls Tryz.prog 83 #[.pointer (some ⟨g, 0, none⟩), .int .u32 n] w (PutPost g d (l ++ be 4 n.toNat) w) := by
  go_enter Tryz.func83, Tryz.ntmps83
  go_wp2_with (go_at_call 107; refine (width32 _).mono ?_; rintro e w1 ⟨rfl, rfl⟩)
  go_loopw [5] (fun i wr => ∃ k : Nat, k ≤ 4 ∧ i = .int .i64 (3 - k) ∧ Put g d (l ++ (be 4 n.toNat).take k) w wr) (fun i _ => (intOf i + 1).toNat)
  case atStart => exact ⟨0, by omega, rfl, by rw [List.take_zero, List.append_nil]; exact Put.refl hr⟩
  case round =>
    obtain ⟨k, hk, rfl, d', ⟨v, hb, hown, hd⟩, hdd, hfr⟩ := hrel
    obtain ⟨A, c, rfl⟩ := own_form hown
    have hlen : (l ++ (be 4 n.toNat).take k).length ≤ 100010 := by rw [List.length_append, List.length_take, be_length]; omega
    by_cases hlt : k < 4
    · have HT := hide (be_take_succ 4 n.toNat k hlt)
      generalize (be 4 n.toNat).take k = t at *
      generalize hlt2 : l ++ t = lt at *
      have HLT := hide hlt2
      clear hlt2
      have hc := hb.cell 0
      have hf := hb.frozen 0
      simp at hc
      have hge : (0 : Int) ≤ 3 - k := by omega
      have hsh := fun w => shift_byte (P := Tryz.prog) n (8 * (3 - ↑k)) (3 - k) (by omega) (by omega) h0 w
      have hwn : IntKind.u64.wrap n = n := by rw [IntKind.wrap_u64]; exact Int.emod_eq_of_lt h0 (by omega)
      have HB := hide (be_byte n 4 k h0)
      generalize hx : n / 256 ^ (3 - k) = x at *
      have HX := hide hx
      clear hx
      have hb0 : Blk (wr.alloc (Obj.cells #[Value.int IntKind.u8 (IntKind.u8.wrap x)] 5)).drew g 89 #[.slice A lt.length c] := hb.frm (S := fun _ => False) (Frm.alloc wr _ _).drew (fun h => h)
      have hc0 : (wr.alloc (Obj.cells #[Value.int IntKind.u8 (IntKind.u8.wrap x)] 5)).cell? ⟨g, 0, none⟩ = some (.slice A lt.length c) := by have := hb0.cell 0; simpa using this
      have ho0 : (wr.alloc (Obj.cells #[Value.int IntKind.u8 (IntKind.u8.wrap x)] 5)).drew.ownsRow 0 5 1 (.slice A lt.length c) lt.length (cellsB lt) := hown.alloc _
      have hr0 : Rds (wr.alloc (Obj.cells #[Value.int IntKind.u8 (IntKind.u8.wrap x)] 5)).drew (some ⟨wr.heap.size, 0, none⟩) 1 [.int .u8 (IntKind.u8.wrap x)] := Rds.new1 wr _ _
      have hb1 : (lt.length + 1) * 1 ≤ 140737488355328 := by omega
      have hb2 : lt.length + 1 ≤ 140737488355328 := by omega
      go_wp2_with fail
      go_region_law (refine step_app one_u8 rfl (.tmp 16) (.tmp 23) rfl _ 0 (.slice A lt.length c) lt.length (cellsB lt) rfl ho0 (some ⟨wr.heap.size, 0, none⟩) 1 1 [.int .u8 (IntKind.u8.wrap x)] rfl hr0 (one1 _ _) hb1 hb2 (Nat.zero_le _) ?_; intro A1 c1 w1 hown1 hg1 hat1; have hb1 := Blk.grown hb0 ho0 (by decide) hg1; have hc1 := hb1.cell 0; have hf1 := hb1.frozen 0; simp at hc1)
      all_goals
        go_wp2
        go_roundw
        case rel =>
          refine ⟨k + 1, by omega, by go_num, ?_⟩
          rw [HT.out, ← List.append_assoc, HLT.out]
          refine put_step (v := .slice A lt.length c) hdd hfr hb hown hd ((Frm.alloc wr (.cells #[.int .u8 (IntKind.u8.wrap x)] 5) _).drew) hg1 ?_ rfl hat1
          have hbb := HB.out
          rw [hbb] at hown1
          exact hown1
        case measure => simp [intOf]; omega
    · obtain rfl : k = 4 := by omega
      go_wp2
      go_ret
      refine ⟨rfl, ?_⟩
      rw [List.take_of_length_le (by rw [be_length]; omega)] at hown
      exact ⟨d', ⟨_, hb, hown, hd⟩, hdd, hfr⟩
set_option maxHeartbeats 1000000 in
theorem wu32_any (g : Nat) (d : Option Nat) (l : List UInt8) (n : Int) (w : World) (hr : Wr w g d l) (hl : l.length ≤ 100000) (h0 : 0 ≤ n) (hn : n < 4294967296) :
    Calls Tryz.prog 57 #[.pointer (some ⟨g, 0, none⟩), .int .u32 n] w (PutPost g d (l ++ be 4 n.toNat) w) := by
  go_enter Tryz.func57, Tryz.ntmps57
  go_wp2_with (go_at_call 83; refine (put32_any g d l n _ hr hl h0 hn).mono ?_; rintro e w1 ⟨rfl, hp⟩)
  go_ret
  exact ⟨rfl, hp⟩
set_option maxHeartbeats 2000000 in
theorem put64_any (g : Nat) (d : Option Nat) (l : List UInt8) (n : Int) (w : World) (hr : Wr w g d l) (hl : l.length ≤ 100000) (h0 : 0 ≤ n) (hn : n < 18446744073709551616) :
    Calls Tryz.prog 89 #[.pointer (some ⟨g, 0, none⟩), .int .u64 n] w (PutPost g d (l ++ be 8 n.toNat) w) := by
  go_enter Tryz.func89, Tryz.ntmps89
  go_wp2_with (go_at_call 109; refine (width64 _).mono ?_; rintro e w1 ⟨rfl, rfl⟩)
  go_loopw [5] (fun i wr => ∃ k : Nat, k ≤ 8 ∧ i = .int .i64 (7 - k) ∧ Put g d (l ++ (be 8 n.toNat).take k) w wr) (fun i _ => (intOf i + 1).toNat)
  case atStart => exact ⟨0, by omega, rfl, by rw [List.take_zero, List.append_nil]; exact Put.refl hr⟩
  case round =>
    obtain ⟨k, hk, rfl, d', ⟨v, hb, hown, hd⟩, hdd, hfr⟩ := hrel
    obtain ⟨A, c, rfl⟩ := own_form hown
    have hlen : (l ++ (be 8 n.toNat).take k).length ≤ 100010 := by rw [List.length_append, List.length_take, be_length]; omega
    by_cases hlt : k < 8
    · have HT := hide (be_take_succ 8 n.toNat k hlt)
      generalize (be 8 n.toNat).take k = t at *
      generalize hlt2 : l ++ t = lt at *
      have HLT := hide hlt2
      clear hlt2
      have hc := hb.cell 0
      have hf := hb.frozen 0
      simp at hc
      have hge : (0 : Int) ≤ 7 - k := by omega
      have hsh := fun w => shift_byte (P := Tryz.prog) n (8 * (7 - ↑k)) (7 - k) (by omega) (by omega) h0 w
      have HB := hide (be_byte n 8 k h0)
      generalize hx : n / 256 ^ (7 - k) = x at *
      have HX := hide hx
      clear hx
      have hb0 : Blk (wr.alloc (Obj.cells #[Value.int IntKind.u8 (IntKind.u8.wrap x)] 5)).drew g 89 #[.slice A lt.length c] := hb.frm (S := fun _ => False) (Frm.alloc wr _ _).drew (fun h => h)
      have hc0 : (wr.alloc (Obj.cells #[Value.int IntKind.u8 (IntKind.u8.wrap x)] 5)).cell? ⟨g, 0, none⟩ = some (.slice A lt.length c) := by have := hb0.cell 0; simpa using this
      have ho0 : (wr.alloc (Obj.cells #[Value.int IntKind.u8 (IntKind.u8.wrap x)] 5)).drew.ownsRow 0 5 1 (.slice A lt.length c) lt.length (cellsB lt) := hown.alloc _
      have hr0 : Rds (wr.alloc (Obj.cells #[Value.int IntKind.u8 (IntKind.u8.wrap x)] 5)).drew (some ⟨wr.heap.size, 0, none⟩) 1 [.int .u8 (IntKind.u8.wrap x)] := Rds.new1 wr _ _
      have hb1 : (lt.length + 1) * 1 ≤ 140737488355328 := by omega
      have hb2 : lt.length + 1 ≤ 140737488355328 := by omega
      go_wp2_with fail
      go_region_law (refine step_app one_u8 rfl (.tmp 16) (.tmp 22) rfl _ 0 (.slice A lt.length c) lt.length (cellsB lt) rfl ho0 (some ⟨wr.heap.size, 0, none⟩) 1 1 [.int .u8 (IntKind.u8.wrap x)] rfl hr0 (one1 _ _) hb1 hb2 (Nat.zero_le _) ?_; intro A1 c1 w1 hown1 hg1 hat1; have hb1 := Blk.grown hb0 ho0 (by decide) hg1; have hc1 := hb1.cell 0; have hf1 := hb1.frozen 0; simp at hc1)
      all_goals
        go_wp2
        go_roundw
        case rel =>
          refine ⟨k + 1, by omega, by go_num, ?_⟩
          rw [HT.out, ← List.append_assoc, HLT.out]
          refine put_step (v := .slice A lt.length c) hdd hfr hb hown hd ((Frm.alloc wr (.cells #[.int .u8 (IntKind.u8.wrap x)] 5) _).drew) hg1 ?_ rfl hat1
          have hbb := HB.out
          rw [hbb] at hown1
          exact hown1
        case measure => simp [intOf]; omega
    · obtain rfl : k = 8 := by omega
      go_wp2
      go_ret
      refine ⟨rfl, ?_⟩
      rw [List.take_of_length_le (by rw [be_length]; omega)] at hown
      exact ⟨d', ⟨_, hb, hown, hd⟩, hdd, hfr⟩
set_option maxHeartbeats 1000000 in
theorem wu64_any (g : Nat) (d : Option Nat) (l : List UInt8) (n : Int) (w : World) (hr : Wr w g d l) (hl : l.length ≤ 100000) (h0 : 0 ≤ n) (hn : n < 18446744073709551616) :
    Calls Tryz.prog 64 #[.pointer (some ⟨g, 0, none⟩), .int .u64 n] w (PutPost g d (l ++ be 8 n.toNat) w) := by
  go_enter Tryz.func64, Tryz.ntmps64
  go_wp2_with (go_at_call 89; refine (put64_any g d l n _ hr hl h0 hn).mono ?_; rintro e w1 ⟨rfl, hp⟩)
  go_ret
  exact ⟨rfl, hp⟩
theorem zeroCells_one (z : Value) (n : Nat) (h : z.cells = #[z]) : (Builtin.zeroCells z.cells n).toList = List.replicate n z := by
  rw [h]
  apply List.ext_getElem
  · simp [Builtin.zeroCells]
  · intro i h1 h2
    simp [Builtin.zeroCells, Nat.mod_one]
theorem run_app0 {P : Program} {t e tn : TypeId} {z : Value} {bytes : Nat} {kn : IntKind} (o : One P t e z bytes) (hz1 : z.cells = #[z]) (hzo : z.oneCell' = true) (htn : P.underlying tn = some (.int kn)) (ty : TypeId) (w : World) (base : Nat) (v : Value) (n : Nat) (xs : List Value) (hown : w.ownsRow base e 1 v n xs)
    (kq : IntKind) (m : Nat) (hm : 0 < m) (hsm : (n + m) * bytes ≤ 140737488355328) (hsl : n + m ≤ 140737488355328) (hb : base ≤ w.heap.size) :
    ∃ v' w', (Builtin.append_ #[t, tn] ty #[v, .int kq m]).run P w = .ok v' w' ∧ w'.ownsRow base e 1 v' (n + m) (xs ++ List.replicate m z) ∧ w.grownBy w' v.ownBlock ∧ (v'.ownBlock = v.ownBlock ∨ v'.ownBlock = some w.heap.size) := by
  obtain ⟨i, hi, hz, hs, hby⟩ := o.info
  have h63 : n + m ≤ maxLen := by simp only [maxLen]; omega
  have hlen : (xs ++ List.replicate m z).length = (n + m) * 1 := by rw [List.length_append, hown.1, List.length_replicate]; omega
  have hmb : m * i.bytes ≤ 281474976710656 := by
    rw [hby]
    have : m * bytes ≤ (n + m) * bytes := Nat.mul_le_mul_right _ (by omega)
    omega
  have grown : ∀ (old : Nat), old < n + m → ∀ (row : Option Nat),
      (w.drew.alloc (.cells (xs.toArray ++ Builtin.zeroCells z.cells m ++ Builtin.zeroCells z.cells (grownCap w (n + m) old e - (n + m))) e)).ownsRow base e 1
        (.slice (some ⟨w.heap.size, 0, none⟩) (n + m) (grownCap w (n + m) old e)) (n + m) (xs ++ List.replicate m z) ∧
      w.grownBy (w.drew.alloc (.cells (xs.toArray ++ Builtin.zeroCells z.cells m ++ Builtin.zeroCells z.cells (grownCap w (n + m) old e - (n + m))) e)) row := by
    intro old ho row
    have hge := grownCap_ge w (n + m) old e
    have hcm : grownCap w (n + m) old e ≤ maxLen := grownCap_le_maxLen w (n + m) old e h63
    refine ⟨⟨hlen, .inr ⟨w.heap.size, _, _, rfl, hb, heap_alloc_new w.drew _, hge, hcm, ?_, ?_⟩⟩, ⟨rfl, rfl, rfl, by simp, fun k hk _ => Below.heap_alloc w.drew _ k hk⟩⟩
    · simp only [Array.size_append, List.size_toArray, size_zeroCells, o.cell, hown.1]
      omega
    · simp only [Array.toList_append, List.append_assoc, zeroCells_one _ _ hz1]
      rw [← List.append_assoc, ← hlen]
      exact List.take_left
  rcases hown.2 with ⟨rfl, rfl⟩ | ⟨g, cap, cur, rfl, hbg, hg, hnc, hcm, hcs, htake⟩
  · have hx : xs = [] := List.eq_nil_of_length_eq_zero (by simpa using hown.1)
    subst hx
    have hr := Lib.run_append_nil_zeros (P := P) w t tn ty e i z kq kn o.slice htn hi hz m hm (by omega) (by omega) hmb
    have hgr := grown 0 (by omega) (Value.ownBlock (.slice none 0 0))
    simp only [Nat.zero_add, List.nil_append, Array.empty_append] at hgr ⊢
    exact ⟨_, _, hr, hgr.1, hgr.2, .inr rfl⟩
  · by_cases hroom : n + m ≤ cap
    · have hnews : (List.replicate m z).length = m := List.length_replicate
      have hst := run_storeCells_at (P := P) g n e (List.replicate m z) 0 cur w hg (by rw [hnews]; omega) (by intro u hu; rw [List.eq_of_mem_replicate hu]; exact hzo)
      simp only [Nat.add_zero] at hst
      have hw : IntKind.i64.wrap (m : Int) = m := by rw [IntKind.wrap_i64]; omega
      have hneg : ¬ ((m : Int) < 0) := by omega
      have h48i : ¬ (281474976710656 < (m : Int) * (i.bytes : Int)) := by
        rw [← Int.natCast_mul]
        omega
      have hns : ¬ (m * i.size = 0) := Nat.mul_ne_zero (by omega) (by omega)
      have hr : (Builtin.append_ #[t, tn] ty #[.slice (some ⟨g, 0, none⟩) n cap, .int kq m]).run P w = .ok (.slice (some ⟨g, 0, none⟩) (n + m) cap) (w.setRow g (cur.toList.take n ++ List.replicate m z ++ cur.toList.drop (n + m)).toArray) := by
        rw [hnews] at hst
        have hadd : (⟨g, 0, none⟩ : Addr).add n = ⟨g, n, none⟩ := by unfold Addr.add; split <;> simp_all
        have hm0 : ¬ m = 0 := by omega
        simp [Builtin.append_, run_underlying o.slice, run_underlying htn, sizeOf, typeInfo, zeroValue, hi, hz, asInt, asIntOf, hw, hneg, h48i, hroom, hs, hm0, zeroCells_one _ _ hz1, hadd, hst]
      refine ⟨_, _, hr, ⟨hlen, .inr ⟨g, cap, _, rfl, hbg, setRow_heap w g cur _ e _ hg, hroom, hcm, ?_, ?_⟩⟩, ⟨rfl, rfl, rfl, by simp, fun k _ hk => setRow_other w g k _ (fun e => hk (by simp [Value.ownBlock, e]))⟩, .inl rfl⟩
      · simp only [List.size_toArray, List.length_append, List.length_take, List.length_drop, Array.length_toList, List.length_replicate]
        omega
      · simp only [Nat.mul_one] at htake hlen ⊢
        rw [htake, ← hlen]
        exact List.take_left
    · have holds : ∀ j u, xs[j]? = some u → w.cell? ((⟨g, 0, none⟩ : Addr).add j) = some u := hown.cells (g := g) rfl
      have hf := run_firstCells_some (P := P) w.drew i.size n ⟨g, 0, none⟩ n cap xs (by rw [hs]; exact hown.1) (by simpa using holds)
      have hr := Lib.run_append_grow_zeros (P := P) w t tn ty e i z kq kn o.slice htn hi hz (some ⟨g, 0, none⟩) n cap xs hf m hm (by omega) (by omega) (by omega) hmb (growslice_fits (by omega) (by rw [hby]; exact hsm))
      have hgr := grown cap (by omega) (Value.ownBlock (.slice (some ⟨g, 0, none⟩) n cap))
      exact ⟨_, _, hr, hgr.1, hgr.2, .inr rfl⟩
theorem wpl_app0 {P : Program} {t e tn : TypeId} {z : Value} {bytes : Nat} {kn : IntKind} (o : One P t e z bytes) (hz1 : z.cells = #[z]) (hzo : z.oneCell' = true) (htn : P.underlying tn = some (.int kn)) {ops : Array Oper} {rest : List Oper} {op : Oper} {a : Act} {Q : Exit → Act → World → Prop} (hgd : op.guard = none) (s x : Operand)
    (ho : op.op = .call { callee := .builtin .append, args := #[s, x], argTypes := #[t, tn] }) (w : World) (base : Nat) (v : Value) (n : Nat) (xs : List Value) (hs : a.eval s = v) (hown : w.ownsRow base e 1 v n xs)
    (kq : IntKind) (k : Int) (m : Nat) (hx : a.eval x = .int kq k) (hk : k = m) (hm : 0 < m) (hsm : (n + m) * bytes ≤ 140737488355328) (hsl : n + m ≤ 140737488355328) (hb : base ≤ w.heap.size)
    (h : ∀ A' c' w', w'.ownsRow base e 1 (.slice A' (n + m) c') (n + m) (xs ++ List.replicate m z) → w.grownBy w' v.ownBlock → ((Value.slice A' (n + m) c').ownBlock = v.ownBlock ∨ (Value.slice A' (n + m) c').ownBlock = some w.heap.size) → wpList P ops Q rest (a.put op.dst (.slice A' (n + m) c')) w') : wpList P ops Q (op :: rest) a w := by
  subst hk
  obtain ⟨v', w', hr, h2, h3, h4⟩ := run_app0 o hz1 hzo htn op.type w base v n xs hown kq m hm hsm hsl hb
  obtain ⟨A', c', rfl⟩ := own_form h2
  exact Lib.wpList_append_run w hgd s x t tn ho v (.int kq m) hs hx _ w' hr (h A' c' w' h2 h3 h4)
set_option maxHeartbeats 1000000 in
theorem wbytes_any (g : Nat) (d : Option Nat) (l l' : List UInt8) (A' : Option Addr) (n' c' : Nat) (w : World) (hr : Wr w g d l) (hl : l.length ≤ 100000) (hr' : Rds w A' n' (cellsB l')) (hl' : n' ≤ 100000) :
    Calls Tryz.prog 90 #[.pointer (some ⟨g, 0, none⟩), .slice A' n' c'] w (PutPost g d (l ++ l') w) := by
  obtain ⟨v, hb, hown, hd⟩ := hr
  obtain ⟨A, c, rfl⟩ := own_form hown
  have hc := hb.cell 0
  have hf := hb.frozen 0
  simp at hc
  have HL := hide hr'.1
  have hb1 : (l.length + n') * 1 ≤ 140737488355328 := by omega
  have hb2 : l.length + n' ≤ 140737488355328 := by omega
  go_enter Tryz.func90, Tryz.ntmps90
  go_wp2_with (at_builtin; refine wpl_app one_u8 rfl (.tmp 9) (.tmp 10) rfl _ 0 (.slice A l.length c) l.length (cellsB l) rfl hown A' n' c' (cellsB l') rfl hr' (cellsB_one l') hb1 hb2 (Nat.zero_le _) ?_; intro A1 c1 w1 hown1 hg1 hat1; have hb1 := Blk.grown hb hown (by decide) hg1; have hc1 := hb1.cell 0; have hf1 := hb1.frozen 0; simp at hc1)
  go_ret
  refine ⟨rfl, put_step (v := .slice A l.length c) (.inl rfl) (Frm.refl _ _) hb hown hd (Frm.refl _ _) hg1 hown1 ?_ hat1⟩
  have := HL.out
  rw [cellsB_length] at this
  omega
set_option maxHeartbeats 1000000 in
theorem wdone_any (g : Nat) (d : Option Nat) (l : List UInt8) (w : World) (hr : Wr w g d l) (hl : l.length ≤ 100000) :
    Calls Tryz.prog 35 #[.pointer (some ⟨g, 0, none⟩)] w (New w.heap.size 5 (cellsB l) w) := by
  obtain ⟨v, hb, hown, hd⟩ := hr
  obtain ⟨A, c, rfl⟩ := own_form hown
  have hc := hb.cell 0
  simp at hc
  have hrd : Rds w A l.length (cellsB l) := (Seg.of_own hown).rds
  go_enter Tryz.func35, Tryz.ntmps35
  go_wp2_with (go_at_call 55; refine (clone_any A l.length c l w hrd hl).mono ?_; rintro e w1 ⟨A1, c1, rfl, hown1, hb1⟩)
  go_ret
  exact ⟨A1, c1, rfl, hown1, hb1⟩
set_option maxHeartbeats 1000000 in
theorem wzeros_some (g : Nat) (d : Option Nat) (l : List UInt8) (n : Int) (w : World) (hr : Wr w g d l) (hl : l.length ≤ 100000) (hn : 0 < n) (hn' : n ≤ 100000) :
    Calls Tryz.prog 66 #[.pointer (some ⟨g, 0, none⟩), .int .i64 n] w (PutPost g d (l ++ List.replicate n.toNat 0) w) := by
  have hr0 := hr
  obtain ⟨v, hb, hown, hd⟩ := hr
  obtain ⟨A, c, rfl⟩ := own_form hown
  have hc := hb.cell 0
  have hf := hb.frozen 0
  simp at hc
  have hq : decide (0 < n) = true := by simp; omega
  have hq2 : decide (n ≤ 2147483647 - (l.length : Int)) = true := by simp; omega
  have hb1 : (l.length + n.toNat) * 1 ≤ 140737488355328 := by omega
  have hb2 : l.length + n.toNat ≤ 140737488355328 := by omega
  have hpos : 0 < n.toNat := by omega
  have HN : Hid (n = ((n.toNat : Nat) : Int)) := (Int.toNat_of_nonneg (by omega)).symm
  go_enter Tryz.func66, Tryz.ntmps66
  go_wp2_with (at_builtin; refine wpl_app0 one_u8 rfl rfl Tryz.underlying3 rfl (.tmp 21) (.tmp 22) rfl _ 0 (.slice A l.length c) l.length (cellsB l) rfl hown .i64 n n.toNat rfl HN.out hpos hb1 hb2 (Nat.zero_le _) ?_; intro A1 c1 w1 hown1 hg1 hat1; have hb1 := Blk.grown hb hown (by decide) hg1; have hc1 := hb1.cell 0; have hf1 := hb1.frozen 0; simp at hc1)
  go_ret
  refine ⟨rfl, put_step (n := l.length + n.toNat) (v := .slice A l.length c) (.inl rfl) (Frm.refl _ _) hb hown hd (Frm.refl _ _) hg1 ?_ ?_ hat1⟩
  · have hz : cellsB (List.replicate n.toNat 0) = List.replicate n.toNat (.int .u8 0) := by simp [cellsB]
    rw [hz]
    exact hown1
  · rw [List.length_replicate]
theorem num_be (w n : Nat) (h : n < 256 ^ w) : num (be w n) = n := by
  suffices hh : ∀ k, k ≤ w → num ((be w n).take k) = n / 256 ^ (w - k) by
    have := hh w (Nat.le_refl _)
    rw [List.take_of_length_le (by rw [be_length]; exact Nat.le_refl _), Nat.sub_self, Nat.pow_zero, Nat.div_one] at this
    exact this
  intro k
  induction k with
  | zero => intro _; rw [List.take_zero, Nat.sub_zero, Nat.div_eq_of_lt h]; rfl
  | succ k ih =>
    intro hk
    have h1 := ih (by omega)
    rw [be_take_succ w n k (by omega), num_snoc, h1, UInt8.toNat_ofNat']
    have e : w - k = (w - (k + 1)) + 1 := by omega
    have e2 : w - 1 - k = w - (k + 1) := by omega
    rw [e, e2, Nat.pow_succ, ← Nat.div_div_eq_div_mul]
    generalize n / 256 ^ (w - (k + 1)) = y
    omega
theorem num_fold (l : List UInt8) : ∀ a : Nat, l.foldl (fun n b => n * 256 + b.toNat) a = a * 256 ^ l.length + num l := by
  unfold num
  induction l with
  | nil => intro a; simp
  | cons b l ih =>
    intro a
    rw [List.foldl_cons, List.foldl_cons, ih, ih (0 * 256 + b.toNat), List.length_cons, Nat.pow_succ]
    have : (a * 256 + b.toNat) * 256 ^ l.length = a * (256 ^ l.length * 256) + (0 * 256 + b.toNat) * 256 ^ l.length := by
      rw [Nat.add_mul, Nat.zero_mul, Nat.zero_add, Nat.mul_assoc, Nat.mul_comm 256 (256 ^ l.length)]
    omega
theorem num_cons (b : UInt8) (l : List UInt8) : num (b :: l) = b.toNat * 256 ^ l.length + num l := by
  show (b :: l).foldl _ 0 = _
  rw [List.foldl_cons, num_fold]
  simp
theorem be_add (w c n : Nat) : be w (c * 256 ^ w + n) = be w n := by
  unfold be
  apply List.map_congr_left
  intro j hj
  have hjw : j < w := List.mem_range.1 hj
  obtain ⟨k, hk⟩ : ∃ k, k = w - 1 - j := ⟨_, rfl⟩
  rw [← hk]
  have e : 256 ^ w = 256 ^ k * (256 ^ (w - 1 - k) * 256) := by
    rw [← Nat.pow_succ, ← Nat.pow_add]
    congr 1
    omega
  have e2 : (c * 256 ^ w + n) / 256 ^ k = n / 256 ^ k + c * 256 ^ (w - 1 - k) * 256 := by
    rw [e, Nat.add_comm, show c * (256 ^ k * (256 ^ (w - 1 - k) * 256)) = 256 ^ k * (c * 256 ^ (w - 1 - k) * 256) by
      rw [Nat.mul_left_comm, Nat.mul_assoc]]
    exact Nat.add_mul_div_left _ _ (Nat.pow_pos (by omega))
  rw [e2]
  apply UInt8.toNat_inj.1
  rw [UInt8.toNat_ofNat', UInt8.toNat_ofNat']
  omega
theorem be_num : ∀ l : List UInt8, be l.length (num l) = l
  | [] => rfl
  | b :: l => by
    have h := num_lt l
    rw [List.length_cons, be_succ, num_cons, be_add, be_num l]
    have e : (b.toNat * 256 ^ l.length + num l) / 256 ^ l.length = b.toNat := by
      rw [Nat.mul_comm, Nat.mul_add_div (Nat.pow_pos (by omega)), Nat.div_eq_of_lt h, Nat.add_zero]
    rw [e]
    simp
theorem be_numN (l : List UInt8) (n : Nat) (h : l.length = n) : be n (num l) = l := by
  subst h
  exact be_num l
end Go.Proofs.YtoiiiflnnhkjbaaGreatDoor
