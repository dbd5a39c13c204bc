/-
  The writer: bytes, noughts, all of it.
-/
import Derived.Test.YtiamopkdapdpaaaPut
import Derived.Test.YtiamopkdapdpaaaZero
namespace Go.Proofs.Ytiamopkdapdpaaa
set_option linter.unusedVariables false
open Go.RowKit

set_option maxHeartbeats 1000000 in
theorem wbytes_any (g : Nat) (d : Option Nat) (l l' : List UInt8) (A' : Option Addr) (n' c' : Nat) (w : World) (hr : Wr w g d l) (hl : l.length ≤ 100000) (hr' : Rds w A' n' (cellsB l')) (hl' : n' ≤ 100000) :
    Calls Try.prog 21 #[.pointer (some ⟨g, 0, none⟩), .slice A' n' c'] w (PutPost g d (l ++ l') w) := by
  obtain ⟨v, hb, hown, hd⟩ := hr
  obtain ⟨A, c, rfl⟩ := own_form hown
  have hc := hb.cell 0
  have hf := hb.frozen 0
  simp at hc
  have HL := hide hr'.1
  have hb1 : (l.length + n') * 1 ≤ 140737488355328 := by omega
  have hb2 : l.length + n' ≤ 140737488355328 := by omega
  go_enter Try.func21, Try.ntmps21
  go_wp2_with (at_builtin; refine wpl_app one_u8 rfl (.tmp 9) (.tmp 10) rfl _ 0 (.slice A l.length c) l.length (cellsB l) rfl hown A' n' c' (cellsB l') rfl hr' (cellsB_one l') hb1 hb2 (Nat.zero_le _) ?_; intro A1 c1 w1 hown1 hg1 hat1; have hb1 := Blk.grown hb hown (by decide) hg1; have hc1 := hb1.cell 0; have hf1 := hb1.frozen 0; simp at hc1)
  go_ret
  refine ⟨rfl, put_step (v := .slice A l.length c) (.inl rfl) (Frm.refl _ _) hb hown hd (Frm.refl _ _) hg1 hown1 ?_ hat1⟩
  have := HL.out
  rw [cellsB_length] at this
  omega

set_option maxHeartbeats 1000000 in
theorem wdone_any (g : Nat) (d : Option Nat) (l : List UInt8) (w : World) (hr : Wr w g d l) (hl : l.length ≤ 100000) :
    Calls Try.prog 19 #[.pointer (some ⟨g, 0, none⟩)] w (New w.heap.size 5 (cellsB l) w) := by
  obtain ⟨v, hb, hown, hd⟩ := hr
  obtain ⟨A, c, rfl⟩ := own_form hown
  have hc := hb.cell 0
  simp at hc
  have hrd : Rds w A l.length (cellsB l) := (Seg.of_own hown).rds
  go_enter Try.func19, Try.ntmps19
  go_wp2_with (go_at_call 30; refine (clone_any A l.length c l w hrd hl).mono ?_; rintro e w1 ⟨A1, c1, rfl, hown1, hb1⟩)
  go_ret
  exact ⟨A1, c1, rfl, hown1, hb1⟩

set_option maxHeartbeats 1000000 in
theorem wzeros_none (g : Nat) (d : Option Nat) (l : List UInt8) (n : Int) (w : World) (hr : Wr w g d l) (hl : l.length ≤ 100000) (hn : n ≤ 0) :
    Calls Try.prog 22 #[.pointer (some ⟨g, 0, none⟩), .int .i64 n] w (PutPost g d l w) := by
  have hr0 := hr
  obtain ⟨v, hb, hown, hd⟩ := hr
  obtain ⟨A, c, rfl⟩ := own_form hown
  have hc := hb.cell 0
  simp at hc
  have hq : decide (0 < n) = false := by simp; omega
  go_enter Try.func22, Try.ntmps22
  go_wp2
  go_ret
  exact ⟨rfl, Put.refl hr0⟩

set_option maxHeartbeats 1000000 in
theorem wzeros_some (g : Nat) (d : Option Nat) (l : List UInt8) (n : Int) (w : World) (hr : Wr w g d l) (hl : l.length ≤ 100000) (hn : 0 < n) (hn' : n ≤ 100000) :
    Calls Try.prog 22 #[.pointer (some ⟨g, 0, none⟩), .int .i64 n] w (PutPost g d (l ++ List.replicate n.toNat 0) w) := by
  have hr0 := hr
  obtain ⟨v, hb, hown, hd⟩ := hr
  obtain ⟨A, c, rfl⟩ := own_form hown
  have hc := hb.cell 0
  have hf := hb.frozen 0
  simp at hc
  have hq : decide (0 < n) = true := by simp; omega
  have hq2 : decide (n ≤ 2147483647 - (l.length : Int)) = true := by simp; omega
  have hb1 : (l.length + n.toNat) * 1 ≤ 140737488355328 := by omega
  have hb2 : l.length + n.toNat ≤ 140737488355328 := by omega
  have hpos : 0 < n.toNat := by omega
  have HN : Hid (n = ((n.toNat : Nat) : Int)) := (Int.toNat_of_nonneg (by omega)).symm
  go_enter Try.func22, Try.ntmps22
  go_wp2_with (at_builtin; refine wpl_app0 one_u8 rfl rfl Try.underlying3 rfl (.tmp 21) (.tmp 22) rfl _ 0 (.slice A l.length c) l.length (cellsB l) rfl hown .i64 n n.toNat rfl HN.out hpos hb1 hb2 (Nat.zero_le _) ?_; intro A1 c1 w1 hown1 hg1 hat1; have hb1 := Blk.grown hb hown (by decide) hg1; have hc1 := hb1.cell 0; have hf1 := hb1.frozen 0; simp at hc1)
  go_ret
  refine ⟨rfl, put_step (n := l.length + n.toNat) (v := .slice A l.length c) (.inl rfl) (Frm.refl _ _) hb hown hd (Frm.refl _ _) hg1 ?_ ?_ hat1⟩
  · have hz : cellsB (List.replicate n.toNat 0) = List.replicate n.toNat (.int .u8 0) := by simp [cellsB]
    rw [hz]
    exact hown1
  · rw [List.length_replicate]

theorem wzeros_any (g : Nat) (d : Option Nat) (l : List UInt8) (n : Int) (w : World) (hr : Wr w g d l) (hl : l.length ≤ 100000) (hn' : n ≤ 100000) :
    Calls Try.prog 22 #[.pointer (some ⟨g, 0, none⟩), .int .i64 n] w (PutPost g d (l ++ List.replicate n.toNat 0) w) := by
  by_cases h : 0 < n
  · exact wzeros_some g d l n w hr hl h hn'
  · have h0 : n.toNat = 0 := by omega
    rw [h0, List.replicate_zero, List.append_nil]
    exact wzeros_none g d l n w hr hl (by omega)
end Go.Proofs.Ytiamopkdapdpaaa
