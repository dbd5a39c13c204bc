/-
  delay: times, place, Draw and the document's Log2, At and Draw, by contracts. No condition but the numbers' own bounds.
-/
import Derived.Test.YtgaocmpcjnjmdaaDl3
namespace Go.Proofs.Ytgaocmpcjnjmdaa
set_option linter.unusedVariables false
open Go.RowKit

/-- The table's place, and what is drawn, over integers. -/
def tabV (i : Int) : Int := (tabN i.toNat : Int)
def drawV (word mean most : Int) : Int := (drawN word.toNat mean.toNat most.toNat : Int)
theorem tabV_bounds (i : Int) (h : i ≤ 255) : 0 ≤ tabV i ∧ tabV i ≤ 363408 := by
  have := tabN_le i.toNat (by omega)
  unfold tabV
  omega
theorem mul_hi {a b A B : Int} (ha : 0 ≤ a) (hb : 0 ≤ b) (hA : a ≤ A) (hB : b ≤ B) : 0 ≤ a * b ∧ a * b ≤ A * B :=
  ⟨Int.mul_nonneg ha hb, Int.mul_le_mul hA hB hb (by omega)⟩

def placesB : Bool := (List.range 256).all fun i => decide (logN (256 - i) ≤ 524288)
theorem places_all : placesB = true := by kernel_rfl
theorem place_le (i : Nat) (h : i ≤ 255) : logN (256 - i) ≤ 524288 := by
  have := List.all_eq_true.1 places_all i (List.mem_range.2 (by omega))
  simpa using this

set_option maxHeartbeats 400000 in
theorem times_any (a b : Int) (w : World) (ha : 0 ≤ a) (ha1 : a < 4294967296) (hb : 0 ≤ b) (hb1 : b < 4294967296) :
    Calls Try.prog 20 #[.int .u32 a, .int .u32 b] w fun e w' => e = .returned (.int .u64 (a * b / 65536)) ∧ w = w' := by
  obtain ⟨m0, m1⟩ := mul_hi ha hb (show a ≤ 4294967295 by omega) (show b ≤ 4294967295 by omega)
  obtain ⟨M, hM⟩ : ∃ M, a * b = M := ⟨_, rfl⟩
  rw [hM] at m0 m1
  have m2 : M < 18446744073709551616 := by omega
  go_enter Try.func20, Try.ntmps20
  go_wp2
  go_ret
  exact ⟨by rw [hM]; rfl, rfl⟩

theorem tabV_of (i : Int) (h0 : 0 ≤ i) (h : i ≤ 255) : (524288 - logV (256 - i)) * 45426 / 65536 = tabV i ∧ 0 ≤ 524288 - logV (256 - i) ∧ 524288 - logV (256 - i) ≤ 524288 := by
  have h1 : logN (256 - i.toNat) ≤ 524288 := by
    have := place_le i.toNat (by omega)
    exact this
  unfold logV tabV tabN
  rw [show (256 - i).toNat = 256 - i.toNat by omega]
  omega
theorem drawV_of (word mean most : Int) (h0 : 0 ≤ word) (h1 : 0 ≤ mean) (h2 : 0 ≤ most) : drawV word mean most = min (tabV (word / 72057594037927936) * mean / 65536) most := by
  unfold drawV drawN tabV
  rw [show (word / 72057594037927936).toNat = word.toNat / 72057594037927936 by omega]
  have e : ((tabN (word.toNat / 72057594037927936) * mean.toNat : Nat) : Int) = (tabN (word.toNat / 72057594037927936) : Int) * mean := by
    rw [Int.natCast_mul, Int.toNat_of_nonneg h1]
  rw [← e]
  omega

set_option maxHeartbeats 400000 in
theorem place_any (i : Int) (w : World) (h0 : 0 ≤ i) (h : i ≤ 255) :
    Calls Try.prog 16 #[.int .u8 i] w fun e w' => e = .returned (.int .u32 (tabV i)) ∧ Below w.heap.size w w' := by
  obtain ⟨e1, e2, e3⟩ := tabV_of i h0 h
  obtain ⟨t0, t1⟩ := tabV_bounds i h
  have hlog := fun w => log2_any (256 - i) w (by omega) (by omega)
  obtain ⟨T, hT⟩ : ∃ T, tabV i = T := ⟨_, rfl⟩
  obtain ⟨L, hL⟩ : ∃ L, logV (256 - i) = L := ⟨_, rfl⟩
  rw [hT] at e1 t0 t1 ⊢
  rw [hL] at e1 e2 e3 hlog
  clear hT hL
  go_enter Try.func16, Try.ntmps16
  go_wp2_with (first
    | (go_at_call 11; refine (hlog _).mono ?_; rintro e w1 ⟨rfl, hB⟩)
    | (go_at_call 20; refine (times_any _ _ _ (by omega) (by omega) (by omega) (by omega)).mono ?_; rintro e w' ⟨rfl, rfl⟩))
  go_ret
  exact ⟨rfl, hB⟩

set_option maxHeartbeats 400000 in
theorem draw_any (a m p : Int) (w : World) (ha : 0 ≤ a) (ha1 : a < 18446744073709551616) (hm : 0 ≤ m) (hm1 : m < 4294967296) (hp : 0 ≤ p) (hp1 : p < 4294967296) :
    Calls Try.prog 14 #[.int .u64 a, .int .u32 m, .int .u32 p] w fun e w' => e = .returned (.int .u32 (drawV a m p)) ∧ Below w.heap.size w w' := by
  have hpl := fun w => place_any (a / 72057594037927936) w (by omega) (by omega)
  obtain ⟨t0, t1⟩ := tabV_bounds (a / 72057594037927936) (by omega)
  have e := drawV_of a m p ha hm hp
  obtain ⟨T, hT⟩ : ∃ T, tabV (a / 72057594037927936) = T := ⟨_, rfl⟩
  rw [hT] at hpl t0 t1 e
  clear hT
  have ht := fun w => times_any T m w t0 (by omega) hm hm1
  obtain ⟨m0, m1⟩ := mul_hi t0 hm t1 (show m ≤ 4294967295 by omega)
  obtain ⟨D, hD⟩ : ∃ D, T * m / 65536 = D := ⟨_, rfl⟩
  have hD0 : 0 ≤ D := by omega
  have hD1 : D < 18446744073709551616 := by omega
  rw [hD] at e ht
  obtain ⟨V, hV⟩ : ∃ V, drawV a m p = V := ⟨_, rfl⟩
  rw [hV] at e ⊢
  clear hV hD m0 m1
  have e' : Veil (V = min D p) := e
  clear e
  by_cases hc : D ≤ p
  · have hV : V = D := by have e : V = min D p := e'; omega
    subst hV
    go_enter Try.func14, Try.ntmps14
    go_wp2_with (first
      | (go_at_call 16; refine (hpl _).mono ?_; rintro e w1 ⟨rfl, hB⟩)
      | (go_at_call 20; refine (ht _).mono ?_; rintro e w' ⟨rfl, rfl⟩))
    go_ret
    trace_state
    exact ⟨rfl, hB⟩
  · have hV : V = p := by have e : V = min D p := e'; omega
    subst hV
    go_enter Try.func14, Try.ntmps14
    go_wp2_with (first
      | (go_at_call 16; refine (hpl _).mono ?_; rintro e w1 ⟨rfl, hB⟩)
      | (go_at_call 20; refine (ht _).mono ?_; rintro e w' ⟨rfl, rfl⟩))
    go_ret
    exact ⟨rfl, hB⟩
end Go.Proofs.Ytgaocmpcjnjmdaa
