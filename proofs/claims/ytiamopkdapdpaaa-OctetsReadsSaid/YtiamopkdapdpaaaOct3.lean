import Derived.Test.YtiamopkdapdpaaaOct2
namespace Go.Proofs.Ytiamopkdapdpaaa
set_option linter.unusedVariables false
open Go.RowKit

set_option maxHeartbeats 400000 in
theorem bytes_short (g : Nat) (d : Option Nat) (l : List UInt8) (n : Int) (w : World) (hr : Rd w g d l) (hn : (l.length : Int) < n) (hl : l.length ≤ 100000) :
    Calls Try.prog 14 #[.pointer (some ⟨g, 0, none⟩), .int .i64 n] w fun e w' => e = .returned (.tuple #[.slice none 0 0, .int .i64 2]) ∧ w = w' := by
  obtain ⟨v, hb, hs⟩ := hr
  obtain ⟨A, c, rfl⟩ : ∃ A c, v = .slice A l.length c := by
    obtain ⟨A, c, hv, _⟩ := hs
    exact ⟨A, c, by rw [hv, cellsB_length]⟩
  have hc := hb.cell 0
  simp at hc
  go_enter Try.func14, Try.ntmps14
  go_wp2
  go_ret2
  exact ⟨rfl, rfl⟩

set_option maxHeartbeats 400000 in
theorem bytes_neg (g : Nat) (n : Int) (w : World) (hn : n < 0) :
    Calls Try.prog 14 #[.pointer (some ⟨g, 0, none⟩), .int .i64 n] w fun e w' => e = .returned (.tuple #[.slice none 0 0, .int .i64 1]) ∧ w = w' := by
  go_enter Try.func14, Try.ntmps14
  go_wp2
  go_ret2
  exact ⟨rfl, rfl⟩

set_option maxHeartbeats 400000 in
theorem left_any (g : Nat) (d : Option Nat) (l : List UInt8) (w : World) (hr : Rd w g d l) (hl : l.length ≤ 100000) :
    Calls Try.prog 17 #[.pointer (some ⟨g, 0, none⟩)] w fun e w' => e = .returned (.int .i64 l.length) ∧ w = w' := by
  obtain ⟨v, hb, hs⟩ := hr
  obtain ⟨A, c, rfl⟩ : ∃ A c, v = .slice A l.length c := by
    obtain ⟨A, c, hv, _⟩ := hs
    exact ⟨A, c, by rw [hv, cellsB_length]⟩
  have hc := hb.cell 0
  simp at hc
  go_enter Try.func17, Try.ntmps17
  go_wp2
  go_ret
  exact ⟨rfl, rfl⟩

def errLeft (l : List UInt8) : Int := if l.length = 0 then 0 else 3

set_option maxHeartbeats 400000 in
theorem done_any (g : Nat) (d : Option Nat) (l : List UInt8) (w : World) (hr : Rd w g d l) (hl : l.length ≤ 100000) :
    Calls Try.prog 16 #[.pointer (some ⟨g, 0, none⟩)] w fun e w' => e = .returned (.int .i64 (errLeft l)) ∧ w = w' := by
  obtain ⟨v, hb, hs⟩ := hr
  obtain ⟨A, c, rfl⟩ : ∃ A c, v = .slice A l.length c := by
    obtain ⟨A, c, hv, _⟩ := hs
    exact ⟨A, c, by rw [hv, cellsB_length]⟩
  have hc := hb.cell 0
  simp at hc
  by_cases h : 0 < l.length
  · have HF : Hid (errLeft l = 3) := by unfold Hid errLeft; rw [if_neg (by omega)]
    go_enter Try.func16, Try.ntmps16
    go_wp2
    go_ret
    rw [HF.out]
    exact ⟨rfl, rfl⟩
  · have HF : Hid (errLeft l = 0) := by unfold Hid errLeft; rw [if_pos (by omega)]
    go_enter Try.func16, Try.ntmps16
    go_wp2
    go_ret
    rw [HF.out]
    exact ⟨rfl, rfl⟩

def RestPost (g : Nat) (d : Option Nat) (l : List UInt8) (w : World) (e : Ending) (w' : World) : Prop :=
  ∃ A c, e = .returned (.slice A l.length c) ∧ w'.ownsRow w.heap.size 5 1 (.slice A l.length c) l.length (cellsB l) ∧ Rd w' g d [] ∧ Frm (fun k => k = g) w w'

set_option maxHeartbeats 400000 in
theorem rest_any (g : Nat) (d : Option Nat) (l : List UInt8) (w : World) (hr : Rd w g d l) (hl : l.length ≤ 100000) :
    Calls Try.prog 15 #[.pointer (some ⟨g, 0, none⟩)] w (RestPost g d l w) := by
  obtain ⟨v, hb, hs⟩ := hr
  obtain ⟨A, c, rfl⟩ : ∃ A c, v = .slice A l.length c := by
    obtain ⟨A, c, hv, _⟩ := hs
    exact ⟨A, c, by rw [hv, cellsB_length]⟩
  have hc := hb.cell 0
  have hf := hb.frozen 0
  simp at hc
  have HN := hide (cellsB_length l)
  go_enter Try.func15, Try.ntmps15
  go_wp2_with (go_at_call 30; refine (clone_any A l.length c l w (Seg.rds hs) hl).mono ?_; rintro e w1 ⟨A1, c1, rfl, hown, hb1⟩; have hc1 := (hb1.cell hb.lt).trans hc; have hf1 := (hb1.frozen hb.lt).trans hf)
  go_ret
  rw [HN.out] at hown ⊢
  have hb2 := hb.frm (S := fun _ => False) (Frm.of_below hb1) (fun h => h)
  refine ⟨A1, c1, rfl, own_set hown hb2 (by decide) 0 _, ⟨_, by simpa using hb2.set 0 _, ?_⟩, (Frm.of_below hb1).trans (Frm.setCell _ _ _ (fun k => k = g) rfl) (fun _ _ h => h)⟩
  exact ⟨none, 0, rfl, Nat.le_refl _, by simp [maxLen], .inl ⟨rfl, rfl⟩⟩
end Go.Proofs.Ytiamopkdapdpaaa
