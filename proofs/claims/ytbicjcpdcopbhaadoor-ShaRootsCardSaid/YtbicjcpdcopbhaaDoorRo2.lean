/-
  The document's roots of primes: digits, what is above.
-/
import Derived.Test.YtbicjcpdcopbhaaDoorRo1
import Derived.Test.YtbicjcpdcopbhaaDoorLaws
namespace Go.Proofs.YtbicjcpdcopbhaaDoor
set_option linter.unusedVariables false
set_option linter.unusedSimpArgs false
open Go.RowKit

/-- A slice of long digits. -/
def Dg (w : World) (v : Value) (l : List Nat) : Prop := ∃ a c, v = .slice (some a) l.length c ∧ Rds w (some a) l.length (cellsQ l)
theorem Dg.below {w w' : World} {v : Value} {l : List Nat} (h : Dg w v l) (hb : Below w.heap.size w w') : Dg w' v l := by
  obtain ⟨a, c, hv, hr⟩ := h
  exact ⟨a, c, hv, hr.below hb⟩

set_option maxHeartbeats 2000000 in
theorem digits_any (n : Nat) (w : World) :
    Calls Tryd.prog 44 #[.int .u64 (n : Int)] w fun e w' => ∃ v, e = .returned v ∧ Dg w' v (digL n) ∧ Below w.heap.size w w' := by
  have HC : Hid ([Value.int .u64 ((n : Int) % 65536), .int .u64 ((IntKind.u64.wrap ((n : Int) / 65536)).tmod 65536), .int .u64 ((IntKind.u64.wrap ((n : Int) / 4294967296)).tmod 65536), .int .u64 (IntKind.u64.wrap ((n : Int) / 281474976710656))] = cellsQ (digL n)) := by
    have h1 : (IntKind.u64.wrap ((n : Int) / 65536)).tmod 65536 = (mod64 (mod64 (n / 65536) % 65536) : Nat) := by
      rw [IntKind.wrap_u64, Int.tmod_eq_emod_of_nonneg (by omega), mod64, mod64]; omega
    have h2 : (IntKind.u64.wrap ((n : Int) / 4294967296)).tmod 65536 = (mod64 (mod64 (n / 4294967296) % 65536) : Nat) := by
      rw [IntKind.wrap_u64, Int.tmod_eq_emod_of_nonneg (by omega), mod64, mod64]; omega
    have h3 : IntKind.u64.wrap ((n : Int) / 281474976710656) = (mod64 (n / 281474976710656) : Nat) := by
      rw [IntKind.wrap_u64, mod64]; omega
    have h4 : (n : Int) % 65536 = (mod64 (n % 65536) : Nat) := by rw [mod64]; omega
    show _ = _
    rw [h1, h2, h3, h4]
    rfl
  go_enter Tryd.func44, Tryd.ntmps44
  go_wp2_with fail
  go_ret
  have hr := alloc_rds w [Value.int .u64 ((n : Int) % 65536), .int .u64 ((IntKind.u64.wrap ((n : Int) / 65536)).tmod 65536), .int .u64 ((IntKind.u64.wrap ((n : Int) / 4294967296)).tmod 65536), .int .u64 (IntKind.u64.wrap ((n : Int) / 281474976710656))] 32 (0, 0)
  refine ⟨_, rfl, ⟨_, _, rfl, ?_⟩, (Frm.alloc w _ (fun _ => False)).below (Nat.le_refl _) (fun _ h => h.elim)⟩
  rw [← HC.out]
  exact hr

theorem Dg.get {w : World} {a : Addr} {n : Nat} {l : List Nat} (h : Rds w (some a) n (cellsQ l)) (j : Nat) (hj : j < n) : w.cell? (a.add j) = some (.int .u64 ((l.getD j 0 : Nat) : Int)) := by
  obtain ⟨a', ha, hc⟩ := h.2 (by omega)
  injection ha with ha
  subst ha
  exact hc j _ (cellsQ_at l j (by have := h.1; rw [cellsQ_length] at this; omega))
theorem getD_out (l : List Nat) (j : Nat) (h : l.length ≤ j) : l.getD j 0 = 0 := by rw [List.getD_eq_getElem?_getD, List.getElem?_eq_none h]; rfl

set_option maxHeartbeats 4000000 in
theorem above_any (pa pb : Addr) (na nb ca cb : Nat) (a b : List Nat) (w : World) (ha : Rds w (some pa) na (cellsQ a)) (hb : Rds w (some pb) nb (cellsQ b)) (hna : na ≤ 100) (hnb : nb ≤ 100) :
    Calls Tryd.prog 46 #[.slice (some pa) na ca, .slice (some pb) nb cb] w fun e w' => e = .returned (.bool (abv a b (max na nb))) ∧ w' = w := by
  have hla : a.length = na := by have := ha.1; rwa [cellsQ_length] at this
  have hlb : b.length = nb := by have := hb.1; rwa [cellsQ_length] at this
  have HA := hide ha
  have HB := hide hb
  have Hla := hide hla
  have Hlb := hide hlb
  obtain ⟨M, hM⟩ : ∃ M, M = max na nb := ⟨_, rfl⟩
  have hMa : na ≤ M := by omega
  have hMb : nb ≤ M := by omega
  have hMm : M ≤ 100 := by omega
  have HMX : Hid ((M : Int) = if (nb : Int) > (na : Int) then (nb : Int) else (na : Int)) := by show _ = _; split <;> omega
  have HM := hide hM
  rw [← hM]
  clear ha hb hla hlb hM
  go_enter Tryd.func46, Tryd.ntmps46
  go_wp2_with (refine wpl_max rfl (.tmp 9) (.tmp 11) _ _ rfl _ (na : Int) (nb : Int) (M : Int) rfl rfl HMX.out ?_)
  go_loop [5] (fun i => ∃ j : Nat, j ≤ M ∧ i = .int .i64 j ∧ abv a b M = abv a b j) (fun i => (intOf i).toNat)
  case atStart => exact ⟨M, Nat.le_refl _, rfl, rfl⟩
  case round =>
    obtain ⟨j, hj, rfl, he⟩ := hrel
    have HE := hide he
    clear he
    rcases j with _ | j
    · have HE0 : Hid (abv a b M = false) := HE.out
      clear HE
      go_wp2_with fail
      go_ret
      exact ⟨by rw [HE0.out]; rfl, rfl⟩
    · have HS : Hid (abv a b M = if a.getD j 0 = b.getD j 0 then abv a b j else decide (b.getD j 0 < a.getD j 0)) := HE.out
      have e1 : IntKind.i64.wrap ((j : Int) + 1 - 1) = (j : Int) := by rw [IntWalk.i64_in _ (by omega)]; omega
      have e2 : (j : Int) + 1 - 1 = (j : Int) := by omega
      clear HE
      by_cases hja : j < na
      · by_cases hjb : j < nb
        · have ia : ((j : Int) + 1) ≤ (na : Int) := by omega
          have hca := Dg.get HA.out j (by omega)
          have ib : ((j : Int) + 1) ≤ (nb : Int) := by omega
          have hcb := Dg.get HB.out j (by omega)
          generalize a.getD j 0 = x at *
          generalize b.getD j 0 = y at *
          by_cases hxy : x = y
          · have HS0 : Hid (abv a b M = abv a b j) := by have := HS.out; rw [if_pos hxy] at this; exact this
            have hxi : (x : Int) = (y : Int) := by omega
            go_wp2_with fail
            go_round
            case rel => exact ⟨j, by omega, by go_num, HS0.out⟩
            case measure => simp [intOf]
          · have HS0 : Hid (abv a b M = decide (y < x)) := by have := HS.out; rw [if_neg hxy] at this; exact this
            have hxi : ¬ ((x : Int) = (y : Int)) := by omega
            have HD : Hid (decide ((y : Int) < (x : Int)) = decide (y < x)) := by show _ = _; rw [decide_eq_decide]; omega
            clear hxy
            go_wp2_with fail
            go_ret
            exact ⟨by rw [HS0.out, ← HD.out]; simp, rfl⟩
        · have ia : ((j : Int) + 1) ≤ (na : Int) := by omega
          have hca := Dg.get HA.out j (by omega)
          have ib : ¬ (((j : Int) + 1) ≤ (nb : Int)) := by omega
          have hxb : b.getD j 0 = 0 := getD_out b j (by rw [Hlb.out]; omega)
          rw [hxb] at HS
          generalize a.getD j 0 = x at *
          by_cases hxy : x = 0
          · have HS0 : Hid (abv a b M = abv a b j) := by have := HS.out; rw [if_pos hxy] at this; exact this
            have hxi : (x : Int) = (0 : Int) := by omega
            go_wp2_with fail
            go_round
            case rel => exact ⟨j, by omega, by go_num, HS0.out⟩
            case measure => simp [intOf]
          · have HS0 : Hid (abv a b M = decide (0 < x)) := by have := HS.out; rw [if_neg hxy] at this; exact this
            have hxi : ¬ ((x : Int) = (0 : Int)) := by omega
            have HD : Hid (decide ((0 : Int) < (x : Int)) = decide (0 < x)) := by show _ = _; rw [decide_eq_decide]; omega
            clear hxy
            go_wp2_with fail
            go_ret
            exact ⟨by rw [HS0.out, ← HD.out]; simp, rfl⟩
      · by_cases hjb : j < nb
        · have ia : ¬ (((j : Int) + 1) ≤ (na : Int)) := by omega
          have hxa : a.getD j 0 = 0 := getD_out a j (by rw [Hla.out]; omega)
          have ib : ((j : Int) + 1) ≤ (nb : Int) := by omega
          have hcb := Dg.get HB.out j (by omega)
          rw [hxa] at HS
          generalize b.getD j 0 = y at *
          by_cases hxy : 0 = y
          · have HS0 : Hid (abv a b M = abv a b j) := by have := HS.out; rw [if_pos hxy] at this; exact this
            have hxi : (0 : Int) = (y : Int) := by omega
            go_wp2_with fail
            go_round
            case rel => exact ⟨j, by omega, by go_num, HS0.out⟩
            case measure => simp [intOf]
          · have HS0 : Hid (abv a b M = decide (y < 0)) := by have := HS.out; rw [if_neg hxy] at this; exact this
            have hxi : ¬ ((0 : Int) = (y : Int)) := by omega
            have HD : Hid (decide ((y : Int) < (0 : Int)) = decide (y < 0)) := by show _ = _; rw [decide_eq_decide]; omega
            clear hxy
            go_wp2_with fail
            go_ret
            exact ⟨by rw [HS0.out, ← HD.out]; simp, rfl⟩
        · have ia : ¬ (((j : Int) + 1) ≤ (na : Int)) := by omega
          have hxa : a.getD j 0 = 0 := getD_out a j (by rw [Hla.out]; omega)
          have ib : ¬ (((j : Int) + 1) ≤ (nb : Int)) := by omega
          have hxb : b.getD j 0 = 0 := getD_out b j (by rw [Hlb.out]; omega)
          rw [hxa] at HS
          rw [hxb] at HS
          have HS0 : Hid (abv a b M = abv a b j) := by show _ = _; have := HS.out; simpa using this
          go_wp2_with fail
          go_round
          case rel => exact ⟨j, by omega, by go_num, HS0.out⟩
          case measure => simp [intOf]
end Go.Proofs.YtbicjcpdcopbhaaDoor
