/-
  The document's roots and primes.
-/
import Derived.Test.YtbicjcpdcopbhaaDoorRo3
import Derived.Test.YtbicjcpdcopbhaaDoorRo4
namespace Go.Proofs.YtbicjcpdcopbhaaDoor
set_option linter.unusedVariables false
set_option linter.unusedSimpArgs false
open Go.RowKit


set_option maxHeartbeats 8000000 in
set_option maxRecDepth 100000 in
theorem prime_any (i : Nat) (w : World) (hi : i < 64) :
    Calls Tryd.prog 20 #[.int .i64 (i : Int)] w fun e w' => (∃ q, e = .returned (.int .u64 ((q + 2 : Nat) : Int)) ∧ prm q = true ∧ piN q = i ∧ q < 310) ∧ w' = w := by
  go_enter Tryd.func20, Tryd.ntmps20
  go_wp2_with fail
  go_loop [0, 3] (fun x y => ∃ m : Nat, m ≤ 310 ∧ x = .int .i64 ((i : Int) - (piN m : Nat)) ∧ y = .int .u64 ((m + 1 : Nat) : Int) ∧ (piN m ≤ i ∨ ∃ q, m = q + 1 ∧ prm q = true ∧ piN q = i)) (fun _ y => 400 - (intOf y).toNat)
  case atStart => exact ⟨0, by omega, by simp [piN], rfl, .inl (by simp [piN])⟩
  case round =>
    obtain ⟨m, hm, rfl, rfl, hor⟩ := hrel
    rcases hor with hle | ⟨q, rfl, hp, hpi⟩
    · have hm3 : m < 310 := by
        rcases Nat.lt_or_ge m 310 with h | h
        · exact h
        · have := pi_mono h; rw [pi_all] at this; omega
      have hge : (0 : Int) ≤ (i : Int) - (piN m : Nat) := by omega
      have e1 : IntKind.u64.wrap ((m : Int) + 1 + 1) = ((m + 2 : Nat) : Int) := by rw [IntKind.wrap_u64]; omega
      have e2 : IntKind.i64.wrap ((i : Int) - (piN m : Nat) - 1) = (i : Int) - (piN m : Nat) - 1 := IntWalk.i64_in _ (by omega)
      have HPS : Hid (piN (m + 1) = piN m + if prm m then 1 else 0) := rfl
      have HPM : Hid (prm m = isP (m + 2) m) := rfl
      obtain ⟨pm, hpm⟩ : ∃ pm, pm = piN m := ⟨_, rfl⟩
      have HPQ := hide hpm
      rw [← hpm] at hge e2 HPS hle
      rw [← hpm]
      have hpm64 : pm ≤ 63 := by omega
      clear hpm
      have e1' : (m : Int) + 1 + 1 = ((m + 2 : Nat) : Int) := by omega
      obtain ⟨n, hn⟩ : ∃ n, n = m + 2 := ⟨_, rfl⟩
      have HNN := hide hn
      rw [← hn] at e1 e1'
      have e3 : IntKind.u64.wrap (n : Int) = (n : Int) := by rw [IntKind.wrap_u64]; omega
      have hnb : n ≤ 400 := by omega
      clear hn
      go_wp2_with fail
      go_loop [4, 5] (fun b k => ∃ t c : Nat, t ≤ m ∧ c = t + 2 ∧ k = .int .u64 (c : Int) ∧ b = .bool (isP n t)) (fun _ k => 400 - (intOf k).toNat)
      case atStart => exact ⟨0, 2, by omega, rfl, rfl, rfl⟩
      case round =>
        obtain ⟨t, c, htm, hc, rfl, rfl⟩ := hrel
        have HC := hide hc
        have hcb : c ≤ 400 := by omega
        have hc0 : ¬ ((c : Int) = 0) := by omega
        have e4 : IntKind.u64.wrap ((c : Int) + 1) = (c : Int) + 1 := by rw [IntKind.wrap_u64]; omega
        by_cases htl : t < m
        · have hcn : (c : Int) < (n : Int) := by have := HNN.out; omega
          have HS : Hid (isP n (t + 1) = (isP n t && decide (n % c ≠ 0))) := by show _ = _; rw [hc]; rfl
          have e5 : Int.tmod (n : Int) (c : Int) = ((n % c : Nat) : Int) := tmodN n c
          have e6 : (n : Int) % (c : Int) = ((n % c : Nat) : Int) := by simp
          generalize n % c = r at *
          clear hc
          cases hb : isP n t with
          | false =>
            have HS2 : Hid (isP n (t + 1) = false) := by rw [hb] at HS; exact HS.out
            clear hb HS
            go_wp2_with fail
            go_round
            case rel => exact ⟨t + 1, c + 1, by omega, by have := HC.out; omega, by go_num, by rw [HS2.out]⟩
            case measure => simp [intOf]; omega
          | true =>
            have HS2 : Hid (isP n (t + 1) = decide (r ≠ 0)) := by rw [hb] at HS; exact HS.out
            clear hb HS
            by_cases hr : r = 0
            · have hr' : (r : Int) = 0 := by omega
              go_wp2_with fail
              go_round
              case rel => exact ⟨t + 1, c + 1, by omega, by have := HC.out; omega, by go_num, by rw [HS2.out]; simp [hr]⟩
              case measure => simp [intOf]; omega
            · have hr' : ¬ ((r : Int) = 0) := by omega
              go_wp2_with fail
              go_round
              case rel => exact ⟨t + 1, c + 1, by omega, by have := HC.out; omega, by go_num, by rw [HS2.out]; simp [hr]⟩
              case measure => simp [intOf]; omega
        · obtain rfl : t = m := by omega
          have hcn : ¬ ((c : Int) < (n : Int)) := by have := HNN.out; omega
          have HPM2 : Hid (prm t = isP n t) := by show _ = _; rw [HNN.out]; rfl
          clear hc
          cases hb : isP n t with
          | false =>
            have HP2 : Hid (piN (t + 1) = pm) := by show _ = _; rw [HPS.out, HPM2.out, hb]; rfl
            clear hb
            go_wp2_with fail
            go_round
            case rel => exact ⟨t + 1, by omega, by rw [HP2.out], by have := HNN.out; simp; omega, .inl (by rw [HP2.out]; exact hle)⟩
            case measure => simp [intOf]; have := HNN.out; omega
          | true =>
            have HP2 : Hid (piN (t + 1) = pm + 1) := by show _ = _; rw [HPS.out, HPM2.out, hb]; rfl
            have HP3 : Hid (prm t = true) := by show _ = _; rw [HPM2.out]; exact hb
            clear hb
            go_wp2_with fail
            go_round
            case rel => exact ⟨t + 1, by omega, by rw [HP2.out]; simp; omega, by have := HNN.out; simp; omega, by
              rcases Nat.lt_or_ge pm i with h | h
              · exact .inl (by rw [HP2.out]; omega)
              · exact .inr ⟨t, rfl, HP3.out, by rw [← HPQ.out]; omega⟩⟩
            case measure => simp [intOf]; have := HNN.out; omega
    · have hlt : ¬ ((0 : Int) ≤ (i : Int) - (piN (q + 1) : Nat)) := by rw [show piN (q + 1) = piN q + if prm q then 1 else 0 from rfl, hp, hpi]; simp; omega
      go_wp2_with fail
      go_ret
      exact ⟨⟨q, by simp; omega, hp, hpi, by omega⟩, rfl⟩
end Go.Proofs.YtbicjcpdcopbhaaDoor
