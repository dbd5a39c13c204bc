/-
  The reader: bytes, numbers, all that is left.
-/
import Derived.Test.YtedodbejbkdplaaGn
import Derived.Test.YtedodbejbkdplaaRun
import Derived.Deep.RegionLaw
import Derived.IntWalk
namespace Go.Proofs.Ytedodbejbkdplaa
set_option linter.unusedVariables false
open Go.RowKit

set_option maxHeartbeats 400000 in
theorem clone_any (A : Option Addr) (n c : Nat) (l : List UInt8) (w : World) (hr : Rds w A n (cellsB l)) (hn : n ≤ 100000) :
    Calls Try.prog 44 #[.slice A n c] w (New w.heap.size 5 (cellsB l) w) := by
  have q22 : ∀ (w : World) (a : Option Addr) (n c n' c' : Nat), (binOp .eql 40 (.slice a n c) (.slice none n' c')).run Try.prog w = .ok (.bool a.isNone) w := fun w a n c n' c' => Lib.run_eql_slice_nil w _ _ a n c n' c' Try.underlying40
  have HL := hide hr.1
  by_cases hA : A.isNone = true
  · obtain rfl : A = none := by simpa using hA
    have h0 : n = 0 := by
      rcases Nat.eq_zero_or_pos n with h | h
      · exact h
      · obtain ⟨a, h, _⟩ := hr.2 h; cases h
    have hl : cellsB l = [] := List.eq_nil_of_length_eq_zero (hr.1.trans h0)
    subst h0
    have HL := hide hl
    clear hl
    go_enter Try.func44, Try.ntmps44
    go_wp2
    go_ret
    unfold New
    rw [HL.out]
    exact ⟨_, _, rfl, ⟨rfl, .inl ⟨rfl, rfl⟩⟩, Below.refl _ _⟩
  · have hA' : A.isNone = false := by cases h : A.isNone <;> simp_all
    have hr' : Rds (w.alloc (.cells #[] 5)) A n (cellsB l) := hr.below ((Below.refl _ _).alloc (Nat.le_refl _) _)
    go_enter Try.func44, Try.ntmps44
    go_wp2_with (at_builtin; refine wpl_app one_u8 rfl (.tmp 5) (.tmp 6) rfl _ w.heap.size _ 0 [] rfl (World.ownsRow_made w #[] 0 (Nat.le_refl _) (by simp [maxLen]) (by simp)) A n c (cellsB l) rfl hr' (cellsB_one l) (by omega) (by omega) (by simp) ?_; intro A1 c1 w1 hown1 hg1 hat1)
    go_ret
    have hz : 0 + n = (cellsB l).length := by rw [HL.out, Nat.zero_add]
    rw [List.nil_append, hz] at hown1
    exact ⟨A1, c1, congrArg (fun k => Ending.returned (.slice A1 k c1)) HL.out.symm, hown1, ((Below.refl _ _).alloc (Nat.le_refl _) _).trans ((Frm.of_grown hg1).below (by simp) (fun k hk => Nat.le_of_eq (Option.some.inj hk).symm))⟩
/-- A reader at block g, whose bytes lie in block d, has l left. -/
def Rd (w : World) (g : Nat) (d : Option Nat) (l : List UInt8) : Prop := ∃ v, Blk w g 95 #[v] ∧ Seg w 5 v d (cellsB l)
theorem Rd.lt {w : World} {g : Nat} {d : Option Nat} {l : List UInt8} (h : Rd w g d l) : g < w.heap.size := by obtain ⟨_, h, _⟩ := h; exact h.lt
theorem Rd.frm {S : Nat → Prop} {w w' : World} {g : Nat} {d : Option Nat} {l : List UInt8} (h : Rd w g d l) (f : Frm S w w') (hg : ¬ S g) (hd : ∀ k, d = some k → ¬ S k) : Rd w' g d l := by
  obtain ⟨v, h1, h2⟩ := h
  exact ⟨v, h1.frm f hg, h2.frm f hd⟩
/-- What Read tells. -/
def ReadPost (l : List UInt8) (w : World) (e : Ending) (w' : World) : Prop :=
  ∃ g d, e = .returned (.pointer (some ⟨g, 0, none⟩)) ∧ Rd w' g d l ∧ Below w.heap.size w w' ∧ w.heap.size ≤ g ∧ ∀ k, d = some k → w.heap.size ≤ k
set_option maxHeartbeats 400000 in
theorem read_any (A : Option Addr) (n c : Nat) (l : List UInt8) (w : World) (hr : Rds w A n (cellsB l)) (hn : n ≤ 100000) :
    Calls Try.prog 22 #[.slice A n c] w (ReadPost l w) := by
  go_enter Try.func22, Try.ntmps22
  go_wp2_with (go_at_call 44; refine (clone_any A n c l w hr hn).mono ?_; rintro e w1 ⟨A1, c1, rfl, hown, hb⟩)
  go_ret
  exact ⟨w1.heap.size, _, rfl, ⟨_, Blk.new _ _ _, (Seg.of_own hown).frm (S := fun _ => False) (Frm.alloc _ _ _) (fun _ _ h => h)⟩, hb.alloc hb.size _, hb.size, fun k hk => (hown.lt k hk).1⟩
/-- What Bytes tells, where there are enough. -/
def BytesPost (g : Nat) (d : Option Nat) (l : List UInt8) (n : Nat) (w : World) (e : Ending) (w' : World) : Prop :=
  ∃ A c, e = .returned (.tuple #[.slice A n c, .int .i64 0]) ∧ w'.ownsRow w.heap.size 5 1 (.slice A n c) n (cellsB (l.take n)) ∧ Rd w' g d (l.drop n) ∧ Frm (fun k => k = g) w w'
set_option maxHeartbeats 400000 in
theorem bytes_ok (g : Nat) (d : Option Nat) (l : List UInt8) (n : Int) (w : World) (hr : Rd w g d l) (h0 : 0 ≤ n) (hn : n ≤ l.length) (hl : l.length ≤ 100000) :
    Calls Try.prog 27 #[.pointer (some ⟨g, 0, none⟩), .int .i64 n] w (BytesPost g d l n.toNat w) := by
  have hrc := hr
  obtain ⟨v, hb, hs⟩ := hr
  obtain ⟨A, c, rfl⟩ : ∃ A c, v = .slice A l.length c := by
    obtain ⟨A, c, hv, _⟩ := hs
    exact ⟨A, c, by rw [hv, cellsB_length]⟩
  have hc := hb.cell 0
  have hf := hb.frozen 0
  simp at hc
  have hcap : l.length ≤ c := by obtain ⟨A', c', hv, h1, _⟩ := hs; injection hv with _ _ h3; rw [cellsB_length] at h1; omega
  have hrd : Rds w A n.toNat (cellsB (l.take n.toNat)) := by rw [← cellsB_take]; exact (Seg.rds hs).take _ (by omega)
  have HC := hide (hs.cut n.toNat (by omega))
  have HN : Hid ((cellsB (l.take n.toNat)).length = n.toNat) := by rw [cellsB_length, List.length_take]; exact Nat.min_eq_left (by omega)
  have fin : ∀ (w1 : World) (u : Value), Below w.heap.size w w1 → Seg w 5 u d (cellsB (l.drop n.toNat)) → Rd (w1.setCell ⟨g, 0, none⟩ u) g d (l.drop n.toNat) ∧ Frm (fun k => k = g) w (w1.setCell ⟨g, 0, none⟩ u) := by
    intro w1 u h1 h2
    have hf1 : Frm (fun k => k = g) w w1 := Frm.of_below h1
    have hf2 : Frm (fun _ => False) w w1 := Frm.of_below h1
    have hb1 := hb.frm hf2 (fun h => h)
    exact ⟨⟨u, by simpa using hb1.set 0 u, (h2.frm hf2 (fun _ _ h => h)).set hb1 (by decide) 0 u⟩, hf1.trans (Frm.setCell _ _ _ (fun k => k = g) rfl) (fun _ _ h => h)⟩
  have FIN := hide fin
  clear fin
  go_enter Try.func27, Try.ntmps27
  go_wp2_with (go_at_call 44; refine (clone_any A n.toNat c (l.take n.toNat) w hrd (by omega)).mono ?_; rintro e w1 ⟨A1, c1, rfl, hown, hb1⟩; have hc1 := (hb1.cell hb.lt).trans hc; have hf1 := (hb1.frozen hb.lt).trans hf)
  all_goals
    go_ret2
    have h1 := HC.out
    rw [cellsB_drop] at h1
    simp only [h, if_true, if_false, Nat.sub_self] at h1
    obtain ⟨h2, h3⟩ := FIN.out w1 _ hb1 h1
    rw [HN.out] at hown ⊢
    exact ⟨A1, c1, rfl, own_set hown (hb.frm (S := fun _ => False) (Frm.of_below hb1) (fun h => h)) (by decide) 0 _, h2, h3⟩
def RestPost (g : Nat) (d : Option Nat) (l : List UInt8) (w : World) (e : Ending) (w' : World) : Prop :=
  ∃ A c, e = .returned (.slice A l.length c) ∧ w'.ownsRow w.heap.size 5 1 (.slice A l.length c) l.length (cellsB l) ∧ Rd w' g d [] ∧ Frm (fun k => k = g) w w'
set_option maxHeartbeats 400000 in
theorem rest_any (g : Nat) (d : Option Nat) (l : List UInt8) (w : World) (hr : Rd w g d l) (hl : l.length ≤ 100000) :
    Calls Try.prog 28 #[.pointer (some ⟨g, 0, none⟩)] w (RestPost g d l w) := by
  obtain ⟨v, hb, hs⟩ := hr
  obtain ⟨A, c, rfl⟩ : ∃ A c, v = .slice A l.length c := by
    obtain ⟨A, c, hv, _⟩ := hs
    exact ⟨A, c, by rw [hv, cellsB_length]⟩
  have hc := hb.cell 0
  have hf := hb.frozen 0
  simp at hc
  have HN := hide (cellsB_length l)
  go_enter Try.func28, Try.ntmps28
  go_wp2_with (go_at_call 44; refine (clone_any A l.length c l w (Seg.rds hs) hl).mono ?_; rintro e w1 ⟨A1, c1, rfl, hown, hb1⟩; have hc1 := (hb1.cell hb.lt).trans hc; have hf1 := (hb1.frozen hb.lt).trans hf)
  go_ret
  rw [HN.out] at hown ⊢
  have hb2 := hb.frm (S := fun _ => False) (Frm.of_below hb1) (fun h => h)
  refine ⟨A1, c1, rfl, own_set hown hb2 (by decide) 0 _, ⟨_, by simpa using hb2.set 0 _, ?_⟩, (Frm.of_below hb1).trans (Frm.setCell _ _ _ (fun k => k = g) rfl) (fun _ _ h => h)⟩
  exact ⟨none, 0, rfl, Nat.le_refl _, by simp [maxLen], .inl ⟨rfl, rfl⟩⟩
theorem width8 (w : World) : Calls Try.prog 53 #[] w fun e w' => e = .returned (.int .i64 1) ∧ w = w' :=
  calls_of_fin (v := .int .i64 1) (w1 := w) 1000 (fun cs => by kernel_rfl) ⟨rfl, rfl⟩
theorem width16 (w : World) : Calls Try.prog 54 #[] w fun e w' => e = .returned (.int .i64 2) ∧ w = w' :=
  calls_of_fin (v := .int .i64 2) (w1 := w) 1000 (fun cs => by kernel_rfl) ⟨rfl, rfl⟩
theorem width32 (w : World) : Calls Try.prog 56 #[] w fun e w' => e = .returned (.int .i64 4) ∧ w = w' :=
  calls_of_fin (v := .int .i64 4) (w1 := w) 1000 (fun cs => by kernel_rfl) ⟨rfl, rfl⟩
theorem width64 (w : World) : Calls Try.prog 55 #[] w fun e w' => e = .returned (.int .i64 8) ∧ w = w' :=
  calls_of_fin (v := .int .i64 8) (w1 := w) 1000 (fun cs => by kernel_rfl) ⟨rfl, rfl⟩
def TakePost (k : IntKind) (g : Nat) (d : Option Nat) (l : List UInt8) (n : Nat) (w : World) (e : Ending) (w' : World) : Prop :=
  e = .returned (.tuple #[.int k (num (l.take n)), .int .i64 0]) ∧ Rd w' g d (l.drop n) ∧ Frm (fun k => k = g) w w'
set_option maxHeartbeats 1000000 in
theorem take8_ok (g : Nat) (d : Option Nat) (l : List UInt8) (w : World) (hr : Rd w g d l) (hn : 1 ≤ l.length) (hl : l.length ≤ 100000) :
    Calls Try.prog 45 #[.pointer (some ⟨g, 0, none⟩)] w (TakePost .u8 g d l 1 w) := by
  go_enter Try.func45, Try.ntmps45
  go_wp2_with (first | (go_at_call 53; refine (width8 _).mono ?_; rintro e w1 ⟨rfl, rfl⟩) | (go_at_call 27; refine (bytes_ok g d l 1 _ hr (by omega) (by omega) hl).mono ?_; rintro e w1 ⟨A1, c1, rfl, hown, hrd, hfr⟩))
  obtain ⟨gb, cb, hv, _, _⟩ := hown.form (by decide)
  injection hv with hA _ hc
  subst hA hc
  have hcells := hown.cells (g := gb) rfl
  have HC : Hid (∀ k, k < 1 → w1.cell? ⟨gb, k, none⟩ = some (.int .u8 ((l.getD k 0).toNat : Int))) := by
    intro k hk
    have h1 : (cellsB (List.take (Int.toNat 1) l))[k]? = some (.int .u8 ((l.getD k 0).toNat : Int)) := by
      have h2 : Int.toNat 1 = 1 := rfl
      rw [h2, cellsB_get, List.getElem?_take, if_pos hk, List.getElem?_eq_getElem (by omega)]
      simp [List.getD, List.getElem?_eq_getElem (show k < l.length by omega)]
    have h3 := hcells k _ h1
    have hadd : (⟨gb, 0, none⟩ : Addr).add k = ⟨gb, k, none⟩ := by unfold Addr.add; split <;> simp_all
    rwa [hadd] at h3
  clear hcells
  go_loop [6, 20] (fun n i => ∃ k : Nat, k ≤ 1 ∧ i = .int .i64 k ∧ n = .int .u64 (num (l.take k))) (fun _ i => 1 - (intOf i).toNat)
  case atStart => exact ⟨0, by omega, rfl, rfl⟩
  case round =>
    obtain ⟨k, hk, rfl, rfl⟩ := hrel
    by_cases hlt : k < 1
    · have hck := HC.out k hlt
      go_wp2
      go_round
      case rel =>
        refine ⟨k + 1, by omega, by go_num, ?_⟩
        have h8 := num_take_lt l k 7 (by omega)
        rw [or_step _ _ (UInt8.toNat_lt _) (Nat.lt_of_lt_of_le h8 (by decide)), num_take_succ l k (by omega)]
      case measure => simp [intOf]; omega
    · obtain rfl : k = 1 := by omega
      go_wp2
      go_ret2
      exact ⟨congrArg (fun z => Ending.returned (.tuple #[.int .u8 z, .int .i64 0])) (show ((num (l.take 1) : Nat) : Int) % 256 = (num (l.take 1) : Nat) by exact Int.emod_eq_of_lt (by omega) (by have := num_take_lt l 1 1 (by omega); omega)), hrd, hfr⟩
set_option maxHeartbeats 1000000 in
theorem u8_ok (g : Nat) (d : Option Nat) (l : List UInt8) (w : World) (hr : Rd w g d l) (hn : 1 ≤ l.length) (hl : l.length ≤ 100000) :
    Calls Try.prog 23 #[.pointer (some ⟨g, 0, none⟩)] w (TakePost .u8 g d l 1 w) := by
  go_enter Try.func23, Try.ntmps23
  go_wp2_with (go_at_call 45; refine (take8_ok g d l _ hr hn hl).mono ?_; rintro e w1 ⟨rfl, hrd, hfr⟩)
  go_ret2
  exact ⟨rfl, hrd, hfr⟩
set_option maxHeartbeats 1000000 in
theorem take16_ok (g : Nat) (d : Option Nat) (l : List UInt8) (w : World) (hr : Rd w g d l) (hn : 2 ≤ l.length) (hl : l.length ≤ 100000) :
    Calls Try.prog 46 #[.pointer (some ⟨g, 0, none⟩)] w (TakePost .u16 g d l 2 w) := by
  go_enter Try.func46, Try.ntmps46
  go_wp2_with (first | (go_at_call 54; refine (width16 _).mono ?_; rintro e w1 ⟨rfl, rfl⟩) | (go_at_call 27; refine (bytes_ok g d l 2 _ hr (by omega) (by omega) hl).mono ?_; rintro e w1 ⟨A1, c1, rfl, hown, hrd, hfr⟩))
  obtain ⟨gb, cb, hv, _, _⟩ := hown.form (by decide)
  injection hv with hA _ hc
  subst hA hc
  have hcells := hown.cells (g := gb) rfl
  have HC : Hid (∀ k, k < 2 → w1.cell? ⟨gb, k, none⟩ = some (.int .u8 ((l.getD k 0).toNat : Int))) := by
    intro k hk
    have h1 : (cellsB (List.take (Int.toNat 2) l))[k]? = some (.int .u8 ((l.getD k 0).toNat : Int)) := by
      have h2 : Int.toNat 2 = 2 := rfl
      rw [h2, cellsB_get, List.getElem?_take, if_pos hk, List.getElem?_eq_getElem (by omega)]
      simp [List.getD, List.getElem?_eq_getElem (show k < l.length by omega)]
    have h3 := hcells k _ h1
    have hadd : (⟨gb, 0, none⟩ : Addr).add k = ⟨gb, k, none⟩ := by unfold Addr.add; split <;> simp_all
    rwa [hadd] at h3
  clear hcells
  go_loop [6, 20] (fun n i => ∃ k : Nat, k ≤ 2 ∧ i = .int .i64 k ∧ n = .int .u64 (num (l.take k))) (fun _ i => 2 - (intOf i).toNat)
  case atStart => exact ⟨0, by omega, rfl, rfl⟩
  case round =>
    obtain ⟨k, hk, rfl, rfl⟩ := hrel
    by_cases hlt : k < 2
    · have hck := HC.out k hlt
      go_wp2
      go_round
      case rel =>
        refine ⟨k + 1, by omega, by go_num, ?_⟩
        have h8 := num_take_lt l k 7 (by omega)
        rw [or_step _ _ (UInt8.toNat_lt _) (Nat.lt_of_lt_of_le h8 (by decide)), num_take_succ l k (by omega)]
      case measure => simp [intOf]; omega
    · obtain rfl : k = 2 := by omega
      go_wp2
      go_ret2
      exact ⟨congrArg (fun z => Ending.returned (.tuple #[.int .u16 z, .int .i64 0])) (show IntKind.u16.wrap ((num (l.take 2) : Nat) : Int) = (num (l.take 2) : Nat) by rw [IntKind.wrap_u16]; exact Int.emod_eq_of_lt (by omega) (by have := num_take_lt l 2 2 (by omega); omega)), hrd, hfr⟩
set_option maxHeartbeats 1000000 in
theorem u16_ok (g : Nat) (d : Option Nat) (l : List UInt8) (w : World) (hr : Rd w g d l) (hn : 2 ≤ l.length) (hl : l.length ≤ 100000) :
    Calls Try.prog 24 #[.pointer (some ⟨g, 0, none⟩)] w (TakePost .u16 g d l 2 w) := by
  go_enter Try.func24, Try.ntmps24
  go_wp2_with (go_at_call 46; refine (take16_ok g d l _ hr hn hl).mono ?_; rintro e w1 ⟨rfl, hrd, hfr⟩)
  go_ret2
  exact ⟨rfl, hrd, hfr⟩
set_option maxHeartbeats 1000000 in
theorem take32_ok (g : Nat) (d : Option Nat) (l : List UInt8) (w : World) (hr : Rd w g d l) (hn : 4 ≤ l.length) (hl : l.length ≤ 100000) :
    Calls Try.prog 48 #[.pointer (some ⟨g, 0, none⟩)] w (TakePost .u32 g d l 4 w) := by
  go_enter Try.func48, Try.ntmps48
  go_wp2_with (first | (go_at_call 56; refine (width32 _).mono ?_; rintro e w1 ⟨rfl, rfl⟩) | (go_at_call 27; refine (bytes_ok g d l 4 _ hr (by omega) (by omega) hl).mono ?_; rintro e w1 ⟨A1, c1, rfl, hown, hrd, hfr⟩))
  obtain ⟨gb, cb, hv, _, _⟩ := hown.form (by decide)
  injection hv with hA _ hc
  subst hA hc
  have hcells := hown.cells (g := gb) rfl
  have HC : Hid (∀ k, k < 4 → w1.cell? ⟨gb, k, none⟩ = some (.int .u8 ((l.getD k 0).toNat : Int))) := by
    intro k hk
    have h1 : (cellsB (List.take (Int.toNat 4) l))[k]? = some (.int .u8 ((l.getD k 0).toNat : Int)) := by
      have h2 : Int.toNat 4 = 4 := rfl
      rw [h2, cellsB_get, List.getElem?_take, if_pos hk, List.getElem?_eq_getElem (by omega)]
      simp [List.getD, List.getElem?_eq_getElem (show k < l.length by omega)]
    have h3 := hcells k _ h1
    have hadd : (⟨gb, 0, none⟩ : Addr).add k = ⟨gb, k, none⟩ := by unfold Addr.add; split <;> simp_all
    rwa [hadd] at h3
  clear hcells
  go_loop [6, 20] (fun n i => ∃ k : Nat, k ≤ 4 ∧ i = .int .i64 k ∧ n = .int .u64 (num (l.take k))) (fun _ i => 4 - (intOf i).toNat)
  case atStart => exact ⟨0, by omega, rfl, rfl⟩
  case round =>
    obtain ⟨k, hk, rfl, rfl⟩ := hrel
    by_cases hlt : k < 4
    · have hck := HC.out k hlt
      go_wp2
      go_round
      case rel =>
        refine ⟨k + 1, by omega, by go_num, ?_⟩
        have h8 := num_take_lt l k 7 (by omega)
        rw [or_step _ _ (UInt8.toNat_lt _) (Nat.lt_of_lt_of_le h8 (by decide)), num_take_succ l k (by omega)]
      case measure => simp [intOf]; omega
    · obtain rfl : k = 4 := by omega
      go_wp2
      go_ret2
      exact ⟨congrArg (fun z => Ending.returned (.tuple #[.int .u32 z, .int .i64 0])) (show ((num (l.take 4) : Nat) : Int) % 4294967296 = (num (l.take 4) : Nat) by exact Int.emod_eq_of_lt (by omega) (by have := num_take_lt l 4 4 (by omega); omega)), hrd, hfr⟩
set_option maxHeartbeats 1000000 in
theorem u32_ok (g : Nat) (d : Option Nat) (l : List UInt8) (w : World) (hr : Rd w g d l) (hn : 4 ≤ l.length) (hl : l.length ≤ 100000) :
    Calls Try.prog 26 #[.pointer (some ⟨g, 0, none⟩)] w (TakePost .u32 g d l 4 w) := by
  go_enter Try.func26, Try.ntmps26
  go_wp2_with (go_at_call 48; refine (take32_ok g d l _ hr hn hl).mono ?_; rintro e w1 ⟨rfl, hrd, hfr⟩)
  go_ret2
  exact ⟨rfl, hrd, hfr⟩
set_option maxHeartbeats 1000000 in
theorem take64_ok (g : Nat) (d : Option Nat) (l : List UInt8) (w : World) (hr : Rd w g d l) (hn : 8 ≤ l.length) (hl : l.length ≤ 100000) :
    Calls Try.prog 47 #[.pointer (some ⟨g, 0, none⟩)] w (TakePost .u64 g d l 8 w) := by
  go_enter Try.func47, Try.ntmps47
  go_wp2_with (first | (go_at_call 55; refine (width64 _).mono ?_; rintro e w1 ⟨rfl, rfl⟩) | (go_at_call 27; refine (bytes_ok g d l 8 _ hr (by omega) (by omega) hl).mono ?_; rintro e w1 ⟨A1, c1, rfl, hown, hrd, hfr⟩))
  obtain ⟨gb, cb, hv, _, _⟩ := hown.form (by decide)
  injection hv with hA _ hc
  subst hA hc
  have hcells := hown.cells (g := gb) rfl
  have HC : Hid (∀ k, k < 8 → w1.cell? ⟨gb, k, none⟩ = some (.int .u8 ((l.getD k 0).toNat : Int))) := by
    intro k hk
    have h1 : (cellsB (List.take (Int.toNat 8) l))[k]? = some (.int .u8 ((l.getD k 0).toNat : Int)) := by
      have h2 : Int.toNat 8 = 8 := rfl
      rw [h2, cellsB_get, List.getElem?_take, if_pos hk, List.getElem?_eq_getElem (by omega)]
      simp [List.getD, List.getElem?_eq_getElem (show k < l.length by omega)]
    have h3 := hcells k _ h1
    have hadd : (⟨gb, 0, none⟩ : Addr).add k = ⟨gb, k, none⟩ := by unfold Addr.add; split <;> simp_all
    rwa [hadd] at h3
  clear hcells
  go_loop [6, 20] (fun n i => ∃ k : Nat, k ≤ 8 ∧ i = .int .i64 k ∧ n = .int .u64 (num (l.take k))) (fun _ i => 8 - (intOf i).toNat)
  case atStart => exact ⟨0, by omega, rfl, rfl⟩
  case round =>
    obtain ⟨k, hk, rfl, rfl⟩ := hrel
    by_cases hlt : k < 8
    · have hck := HC.out k hlt
      go_wp2
      go_round
      case rel =>
        refine ⟨k + 1, by omega, by go_num, ?_⟩
        have h8 := num_take_lt l k 7 (by omega)
        rw [or_step _ _ (UInt8.toNat_lt _) (Nat.lt_of_lt_of_le h8 (by decide)), num_take_succ l k (by omega)]
      case measure => simp [intOf]; omega
    · obtain rfl : k = 8 := by omega
      go_wp2
      go_ret2
      exact ⟨rfl, hrd, hfr⟩
set_option maxHeartbeats 1000000 in
theorem u64_ok (g : Nat) (d : Option Nat) (l : List UInt8) (w : World) (hr : Rd w g d l) (hn : 8 ≤ l.length) (hl : l.length ≤ 100000) :
    Calls Try.prog 25 #[.pointer (some ⟨g, 0, none⟩)] w (TakePost .u64 g d l 8 w) := by
  go_enter Try.func25, Try.ntmps25
  go_wp2_with (go_at_call 47; refine (take64_ok g d l _ hr hn hl).mono ?_; rintro e w1 ⟨rfl, hrd, hfr⟩)
  go_ret2
  exact ⟨rfl, hrd, hfr⟩
end Go.Proofs.Ytedodbejbkdplaa
