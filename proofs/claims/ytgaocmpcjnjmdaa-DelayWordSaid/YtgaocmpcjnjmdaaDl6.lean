/-
  delay: the document's Log2, At and Draw by contracts, over the same numbers; memory stays as it was.
-/
import Derived.Test.YtgaocmpcjnjmdaaDl5
namespace Go.Proofs.Ytgaocmpcjnjmdaa
set_option linter.unusedVariables false
open Go.RowKit

set_option maxHeartbeats 4000000 in
set_option maxRecDepth 100000 in
theorem rlog2_pos (n : Nat) (w : World) (hn : 1 ≤ n) (h : n < 4294967296) :
    Calls Try.prog 12 #[.int .u32 (n : Int)] w fun e w' => e = .returned (.int .u32 (logN n : Int)) ∧ w = w' := by
  have hok := normN_ok (n := n) (by omega) (by omega)
  have hl31 := log2_le31 (n := n) (by omega) (by omega)
  have HLN : Hid (lenN n = Nat.log2 n + 1) := lenN_pos (by omega)
  have HLG : Hid (logN n = Nat.log2 n * 65536 + (bitsN 16 (normN n, 0)).2) := by show _ = _; unfold logN; rw [if_neg (by omega)]
  have HNO : Hid (normN n = n * 2 ^ (31 - Nat.log2 n)) := rfl
  obtain ⟨P, hP⟩ : ∃ P, P = Nat.log2 n := ⟨_, rfl⟩
  obtain ⟨N, hN⟩ : ∃ N, N = normN n := ⟨_, rfl⟩
  obtain ⟨X, hX⟩ : ∃ X : Nat → Nat, X = xAt N := ⟨_, rfl⟩
  obtain ⟨B, hB⟩ : ∃ B : Nat → Nat, B = fun k => (bitsN k (N, 0)).2 := ⟨_, rfl⟩
  rw [← hN] at hok
  have hX0 : Hid (X 0 = N) := by show _ = _; rw [hX]; rfl
  have hB0 : Hid (B 0 = 0) := by show _ = _; rw [hB]; rfl
  have hSt : Hid (∀ k, ∃ M : Nat, X k * X k = M ∧ M < 18446744073709551616 ∧ B k < 2 ^ k ∧
      ((M / 2147483648 < 4294967296 ∧ X (k + 1) = M / 2147483648 ∧ B (k + 1) = 2 * B k) ∨ (4294967296 ≤ M / 2147483648 ∧ X (k + 1) = M / 2147483648 / 2 ∧ B (k + 1) = 2 * B k + 1))) := by
    intro k
    have s1 := sqAt_ok hok k
    have s2 := bitAt_step hok k
    have s3 := (bitsN_ok k hok).bits
    rw [hX, hB]
    refine ⟨_, rfl, s1, s3, ?_⟩
    rcases s2 with ⟨t1, t2, t3⟩ | ⟨t1, t2, t3⟩
    · unfold bitAt at t1
      exact .inl ⟨by omega, t2, t3⟩
    · unfold bitAt at t1
      exact .inr ⟨by omega, t2, t3⟩
  have HLG' : Hid (logN n = P * 65536 + B 16) := by show _ = _; rw [HLG.out, hP, hB, hN]
  have HNO' : Hid (N = n * 2 ^ (31 - P)) := by show _ = _; rw [hN, hP]; exact HNO.out
  have HLN' : Hid (lenN n = P + 1) := by show _ = _; rw [HLN.out, hP]
  rw [← hP] at hl31
  have hNlt : N < 4294967296 := hok.hi
  clear hok hP hN hX hB HLG HNO HLN
  obtain ⟨L, hL⟩ : ∃ L, logN n = L := ⟨_, rfl⟩
  rw [hL] at HLG' ⊢
  clear hL
  have hn0 : ¬ n = 0 := by omega
  go_enter Try.func12, Try.ntmps12
  go_wp2_with fail
  go_loopw [3, 4] (fun q p wr => ∃ m k : Nat, q = .int .u32 (k : Int) ∧ p = .int .u32 (m : Int) ∧ 1 ≤ m ∧ m ≤ n ∧ Hid (lenN n = lenN m + k) ∧ w = wr) (fun q p _ => (intOf p).toNat)
  case atStart => exact ⟨n, 0, rfl, rfl, hn, Nat.le_refl _, rfl, rfl⟩
  case round =>
    obtain ⟨m, k, rfl, rfl, hm1, hmn, hmk, rfl⟩ := hrel
    have hk : (k : Int) ≤ 32 := by have := hmk.out; have := HLN'.out; omega
    by_cases hm : m = 1
    · have hkP : k = P := by
        have h1 := hmk.out
        have h2 := HLN'.out
        have h3 : lenN m = 1 := by rw [hm]; rfl
        omega
      subst hm
      rw [hkP] at *
      clear hkP
      clear hmk hm1 hmn HLN'
      go_wp2_with fail
      go_loopw [5, 6] (fun p q wr => ∃ i x : Nat, q = .int .u32 (i : Int) ∧ p = .int .u64 (x : Int) ∧ i ≤ 31 ∧ Hid (N = x * 2 ^ (31 - i)) ∧ w = wr) (fun p q _ => 31 - (intOf q).toNat)
      case atStart => exact ⟨P, n, rfl, rfl, hl31, HNO', rfl⟩
      case round =>
        obtain ⟨i, x, rfl, rfl, hi31, hxN, rfl⟩ := hrel
        by_cases hi : i = 31
        · subst hi
          have hxN' : x = N := by
            have h1 := hxN.out
            rw [Nat.sub_self, Nat.pow_zero, Nat.mul_one] at h1
            exact h1.symm
          subst hxN'
          clear hxN HNO'
          go_wp2_with fail
          go_loopw [5, 7, 8] (fun p b q wr => ∃ k : Nat, k ≤ 16 ∧ q = .int .i64 (k : Int) ∧ p = .int .u64 (X k : Int) ∧ b = .int .u32 (B k : Int) ∧ w = wr) (fun p b q _ => 16 - (intOf q).toNat)
          case atStart => exact ⟨0, by omega, rfl, by rw [hX0.out], by rw [hB0.out]; rfl, rfl⟩
          case round =>
            obtain ⟨k, hk, rfl, rfl, rfl, rfl⟩ := hrel
            obtain ⟨M, hM, hM1, hBk, hc⟩ := hSt.out k
            have hBk2 : B k < 65536 := by
              have : 2 ^ k ≤ 2 ^ 16 := Nat.pow_le_pow_right (by omega) hk
              omega
            by_cases hk2 : k = 16
            · subst hk2
              have e : (P : Int) * 65536 + (B 16 : Int) = (L : Int) := by have := HLG'.out; omega
              have h3 : (B 16 : Int) < 65536 := by omega
              have h4 : (P : Int) ≤ 31 := by omega
              clear hM hM1 hBk hc hBk2
              go_wp2_with fail
              go_ret
              exact ⟨rfl, rfl⟩
            · have hk3 : (k : Int) < 16 := by omega
              have hM' : (X k : Int) * (X k : Int) = (M : Int) := by rw [← hM]; exact (Int.natCast_mul _ _).symm
              have hM0 : (0 : Int) ≤ (M : Int) := by omega
              have hM2 : (M : Int) < 18446744073709551616 := by omega
              have hB3 : (B k : Int) < 65536 := by omega
              clear hM hBk hBk2 hM1
              rcases hc with ⟨c1, c2, c3⟩ | ⟨c1, c2, c3⟩
              · obtain ⟨Y, hY⟩ : ∃ Y : Int, (M : Int) / 2147483648 = Y := ⟨_, rfl⟩
                have c0' : 0 ≤ Y := by omega
                have c1' : Y < 4294967296 := by omega
                have c2' : Hid ((X (k + 1) : Int) = Y) := by show _ = _; omega
                obtain ⟨b, hb⟩ : ∃ b : Int, b = (B k : Int) := ⟨_, rfl⟩
                have c3' : Hid ((B (k + 1) : Int) = 2 * b) := by show _ = _; omega
                have c4' : 0 ≤ b := by omega
                rw [← hb] at hB3 ⊢
                clear c1 c2 c3 hb
                have hd : decide (4294967296 ≤ Y) = false := decide_eq_false (by omega)
                clear c1'
                go_wp2_with fail
                go_roundw
                case rel => exact ⟨k + 1, by omega, congrArg (Value.int .i64) (by omega), congrArg (Value.int .u64) c2'.out.symm, congrArg (Value.int .u32) c3'.out.symm, by first | rfl | trivial⟩
                case measure => simp [intOf]; omega
              · obtain ⟨Y, hY⟩ : ∃ Y : Int, (M : Int) / 2147483648 = Y := ⟨_, rfl⟩
                have c0' : Y < 18446744073709551616 := by omega
                have c1' : 4294967296 ≤ Y := by omega
                have c2' : Hid ((X (k + 1) : Int) = Y / 2) := by show _ = _; omega
                obtain ⟨b, hb⟩ : ∃ b : Int, b = (B k : Int) := ⟨_, rfl⟩
                have c3' : Hid ((B (k + 1) : Int) = 2 * b + 1) := by show _ = _; omega
                have c4' : 0 ≤ b := by omega
                rw [← hb] at hB3 ⊢
                clear c1 c2 c3 hb
                go_wp2_with fail
                go_roundw
                case rel => exact ⟨k + 1, by omega, congrArg (Value.int .i64) (by omega), congrArg (Value.int .u64) c2'.out.symm, congrArg (Value.int .u32) c3'.out.symm, by first | rfl | trivial⟩
                case measure => simp [intOf]; omega
        · have hi2 : (i : Int) < 31 := by omega
          have hp : 2 ^ (31 - i) = 2 * 2 ^ (31 - (i + 1)) := by rw [show 31 - i = (31 - (i + 1)) + 1 by omega, Nat.pow_succ, Nat.mul_comm]
          have hx2 : (x : Int) < 4294967296 := by
            have h1 := hxN.out
            have h2 : x * 1 ≤ x * 2 ^ (31 - i) := Nat.mul_le_mul_left _ (Nat.two_pow_pos _)
            omega
          have FIN : Hid (N = (2 * x) * 2 ^ (31 - (i + 1))) := by
            show _ = _
            rw [hxN.out, hp, Nat.mul_comm 2 x, Nat.mul_assoc]
          clear hp hxN
          go_wp2_with fail
          go_roundw
          case rel => exact ⟨i + 1, 2 * x, congrArg (Value.int .u32) (by omega), congrArg (Value.int .u64) (by omega), by omega, FIN, by first | rfl | trivial⟩
          case measure => simp [intOf]; omega
    · have hm2 : (1 : Int) < (m : Int) := by omega
      have hm3 : (m : Int) < 4294967296 := by omega
      have hl := lenN_shift m 1 (by omega)
      have FIN : Hid (lenN n = lenN (m / 2) + (k + 1)) := by
        show _ = _
        have h1 := hmk.out
        rw [show (2 : Nat) ^ 1 = 2 from rfl] at hl
        omega
      clear hl hmk
      go_wp2_with fail
      go_roundw
      case rel => exact ⟨m / 2, k + 1, congrArg (Value.int .u32) (by omega), congrArg (Value.int .u32) (by omega), by omega, by omega, FIN, by first | rfl | trivial⟩
      case measure => simp [intOf]; omega

set_option maxHeartbeats 400000 in
theorem rlog2_any (x : Int) (w : World) (h0 : 0 ≤ x) (h : x < 4294967296) :
    Calls Try.prog 12 #[.int .u32 x] w fun e w' => e = .returned (.int .u32 (logV x)) ∧ w = w' := by
  by_cases hx : x = 0
  · subst hx
    go_enter Try.func12, Try.ntmps12
    go_wp2
    go_ret
    exact ⟨rfl, rfl⟩
  · have := rlog2_pos x.toNat w (by omega) (by omega)
    rw [Int.toNat_of_nonneg h0] at this
    exact this

set_option maxHeartbeats 400000 in
theorem rat_any (i : Int) (w : World) (h0 : 0 ≤ i) (h : i ≤ 255) :
    Calls Try.prog 13 #[.int .i64 i] w fun e w' => e = .returned (.int .u32 (tabV i)) ∧ w = w' := by
  obtain ⟨e1, e2, e3⟩ := tabV_of i h0 h
  obtain ⟨t0, t1⟩ := tabV_bounds i h
  have hlog := fun w => rlog2_any (256 - i) w (by omega) (by omega)
  obtain ⟨T, hT⟩ : ∃ T, tabV i = T := ⟨_, rfl⟩
  obtain ⟨L, hL⟩ : ∃ L, logV (256 - i) = L := ⟨_, rfl⟩
  rw [hT] at e1 t0 t1 ⊢
  rw [hL] at e1 e2 e3 hlog
  clear hT hL
  go_enter Try.func13, Try.ntmps13
  go_wp2_with (go_at_call 12; refine (hlog _).mono ?_; rintro e w' ⟨rfl, rfl⟩)
  go_ret
  exact ⟨rfl, rfl⟩

set_option maxHeartbeats 400000 in
theorem rdraw_any (a m p : Int) (w : World) (ha : 0 ≤ a) (ha1 : a < 18446744073709551616) (hm : 0 ≤ m) (hm1 : m < 4294967296) (hp : 0 ≤ p) (hp1 : p < 4294967296) :
    Calls Try.prog 15 #[.int .u64 a, .int .u32 m, .int .u32 p] w fun e w' => e = .returned (.int .u32 (drawV a m p)) ∧ w = w' := by
  have hpl := fun w => rat_any (a / 72057594037927936) w (by omega) (by omega)
  obtain ⟨t0, t1⟩ := tabV_bounds (a / 72057594037927936) (by omega)
  have e := drawV_of a m p ha hm hp
  obtain ⟨T, hT⟩ : ∃ T, tabV (a / 72057594037927936) = T := ⟨_, rfl⟩
  rw [hT] at hpl t0 t1 e
  clear hT
  obtain ⟨m0, m1⟩ := mul_hi t0 hm t1 (show m ≤ 4294967295 by omega)
  obtain ⟨D, hD⟩ : ∃ D, T * m = D := ⟨_, rfl⟩
  rw [hD] at m0 m1 e
  have hD1 : D < 18446744073709551616 := by omega
  obtain ⟨V, hV⟩ : ∃ V, drawV a m p = V := ⟨_, rfl⟩
  rw [hV] at e ⊢
  clear hV m1
  have e' : Veil (V = min (D / 65536) p) := e
  clear e
  by_cases hc : D / 65536 ≤ p
  · have hV : D / 65536 = V := by have e : V = min (D / 65536) p := e'; omega
    clear e'
    go_enter Try.func15, Try.ntmps15
    go_wp2_with (go_at_call 13; refine (hpl _).mono ?_; rintro e w1 ⟨rfl, rfl⟩)
    go_ret
    exact ⟨rfl, rfl⟩
  · have hV : V = p := by have e : V = min (D / 65536) p := e'; omega
    subst hV
    clear e'
    have hc : V < D / 65536 := by omega
    go_enter Try.func15, Try.ntmps15
    go_wp2_with (go_at_call 13; refine (hpl _).mono ?_; rintro e w1 ⟨rfl, rfl⟩)
    go_ret
    exact ⟨rfl, rfl⟩
end Go.Proofs.Ytgaocmpcjnjmdaa
