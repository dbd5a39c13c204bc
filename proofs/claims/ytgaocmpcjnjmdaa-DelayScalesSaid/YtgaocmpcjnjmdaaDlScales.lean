/-
  DelayScales: the walk. For every input the law returns true; what lay when the call began lies as it lay. No condition.
-/
import Derived.Test.YtgaocmpcjnjmdaaDl7
import Derived.Test.YtgaocmpcjnjmdaaNFrame
namespace Go.Proofs.Ytgaocmpcjnjmdaa
set_option linter.unusedVariables false
open Go.RowKit

theorem mask30 (t : Int) (h : 0 ≤ t) (h1 : t < 4294967296) : ∃ T, bits BinOp.and IntKind.u32 t 1073741823 = T ∧ 0 ≤ T ∧ T < 1073741824 := by
  refine ⟨_, u32_and t 1073741823 h h1 (by decide) (by decide), by omega, ?_⟩
  have := Nat.and_le_right (n := t.toNat) (m := (1073741823 : Int).toNat)
  have e : (1073741823 : Int).toNat = 1073741823 := rfl
  omega
/-- What is drawn of the sum, and of twice the mean. -/
theorem scales_num (word a b : Int) (h : 0 ≤ word) (h1 : word < 18446744073709551616) (ha : 0 ≤ a) (hb : 0 ≤ b) :
    drawV word a 4294967295 ≤ drawV word (2 * a) 4294967295 ∧ drawV word b 4294967295 ≤ drawV word (a + b) 4294967295 ∧
    0 ≤ drawV word a 4294967295 ∧ drawV word a 4294967295 ≤ 4294967295 ∧ 0 ≤ drawV word b 4294967295 ∧ drawV word b 4294967295 ≤ 4294967295 ∧ drawV word (2 * a) 4294967295 ≤ 4294967295 ∧ drawV word (a + b) 4294967295 ≤ 4294967295 ∧
    (drawV word (2 * a) 4294967295 = 4294967295 ∨ drawV word (2 * a) 4294967295 = 2 * drawV word a 4294967295 ∨ drawV word (2 * a) 4294967295 = 2 * drawV word a 4294967295 + 1) ∧
    (drawV word (2 * a) 4294967295 = 4294967295 ∨ drawV word (a + b) 4294967295 = 4294967295 ∨ drawV word (a + b) 4294967295 = drawV word a 4294967295 + drawV word b 4294967295 ∨ drawV word (a + b) 4294967295 = drawV word a 4294967295 + drawV word b 4294967295 + 1) := by
  rw [drawV_of word a _ h ha (by omega), drawV_of word b _ h hb (by omega), drawV_of word (2 * a) _ h (by omega) (by omega), drawV_of word (a + b) _ h (by omega) (by omega)]
  obtain ⟨t0, t1⟩ := tabV_bounds (word / 72057594037927936) (by omega)
  generalize tabV (word / 72057594037927936) = T at *
  have e1 : T * (2 * a) = 2 * (T * a) := by rw [← Int.mul_assoc, Int.mul_comm T 2, Int.mul_assoc]
  have e2 : T * (a + b) = T * a + T * b := Int.mul_add _ _ _
  have p1 : 0 ≤ T * a := Int.mul_nonneg t0 ha
  have p2 : 0 ≤ T * b := Int.mul_nonneg t0 hb
  rw [e1, e2]
  generalize T * a = A at *
  generalize T * b = C at *
  omega

set_option maxHeartbeats 4000000 in
set_option maxRecDepth 100000 in
theorem scales_walk (word a b : Int) (w : World) (hword0 : 0 ≤ word) (hword1 : word < 18446744073709551616) (ha0 : 0 ≤ a) (ha1 : a < 4294967296) (hb0 : 0 ≤ b) (hb1 : b < 4294967296) :
    Calls Try.prog 7 #[.int .u64 word, .int .u32 a, .int .u32 b] w fun e w' => e = .returned (.bool true) ∧ Below w.heap.size w w' := by
  obtain ⟨A, hA, hA0, hA1⟩ := mask30 a ha0 ha1
  obtain ⟨C, hC, hC0, hC1⟩ := mask30 b hb0 hb1
  have dx := fun w => draw_any word A 4294967295 w hword0 hword1 (by omega) (by omega) (by omega) (by omega)
  have dy := fun w => draw_any word C 4294967295 w hword0 hword1 (by omega) (by omega) (by omega) (by omega)
  have db := fun w => draw_any word (A + C) 4294967295 w hword0 hword1 (by omega) (by omega) (by omega) (by omega)
  have dt := fun w => draw_any word (2 * A) 4294967295 w hword0 hword1 (by omega) (by omega) (by omega) (by omega)
  obtain ⟨s1, s2, s3, s4, s5, s6, s7, s8, s9, s10⟩ := scales_num word A C hword0 hword1 hA0 hC0
  generalize drawV word A 4294967295 = x at *
  generalize drawV word C 4294967295 = y at *
  generalize drawV word (A + C) 4294967295 = bo at *
  generalize drawV word (2 * A) 4294967295 = tw at *
  by_cases g1 : tw = 4294967295
  · have f1 : (tw == 4294967295) = true := by simpa using g1
    clear g1 s9 s10
    go_enter Try.func7, Try.ntmps7
    go_wp2_with fail
    refine (shown_any _).mono ?_
    rintro e w1 ⟨rfl, hb1⟩
    go_wp2_with fail
    refine (dx _).mono ?_
    rintro e w2 ⟨rfl, hb2⟩
    replace hb2 := below_then hb1 hb2 hb1.size
    clear hb1
    go_wp2_with fail
    refine (dy _).mono ?_
    rintro e w3 ⟨rfl, hb3⟩
    replace hb3 := below_then hb2 hb3 hb2.size
    clear hb2
    go_wp2_with fail
    refine (db _).mono ?_
    rintro e w4 ⟨rfl, hb4⟩
    replace hb4 := below_then hb3 hb4 hb3.size
    clear hb3
    go_wp2_with fail
    refine (dt _).mono ?_
    rintro e w5 ⟨rfl, hb5⟩
    replace hb5 := below_then hb4 hb5 hb4.size
    clear hb4
    go_wp2_with fail
    go_ret
    exact ⟨rfl, hb5⟩
  · have f1 : (tw == 4294967295) = false := by simpa using g1
    by_cases g2 : bo = 4294967295
    · have f2 : (bo == 4294967295) = true := by simpa using g2
      clear g1 g2 s9 s10
      go_enter Try.func7, Try.ntmps7
      go_wp2_with fail
      refine (shown_any _).mono ?_
      rintro e w1 ⟨rfl, hb1⟩
      go_wp2_with fail
      refine (dx _).mono ?_
      rintro e w2 ⟨rfl, hb2⟩
      replace hb2 := below_then hb1 hb2 hb1.size
      clear hb1
      go_wp2_with fail
      refine (dy _).mono ?_
      rintro e w3 ⟨rfl, hb3⟩
      replace hb3 := below_then hb2 hb3 hb2.size
      clear hb2
      go_wp2_with fail
      refine (db _).mono ?_
      rintro e w4 ⟨rfl, hb4⟩
      replace hb4 := below_then hb3 hb4 hb3.size
      clear hb3
      go_wp2_with fail
      refine (dt _).mono ?_
      rintro e w5 ⟨rfl, hb5⟩
      replace hb5 := below_then hb4 hb5 hb4.size
      clear hb4
      go_wp2_with fail
      go_ret
      exact ⟨rfl, hb5⟩
    · have f2 : (bo == 4294967295) = false := by simpa using g2
      have k1 : tw = 2 * x ∨ tw = 2 * x + 1 := by omega
      have k2 : bo = x + y ∨ bo = x + y + 1 := by omega
      clear s9 s10 g1 g2
      rcases k1 with k1 | k1
      · have m1 : (tw == 2 * x) = true := by simpa using k1
        rcases k2 with k2 | k2
        · have m2 : (bo == x + y) = true := by simpa using k2
          clear k1 k2
          go_enter Try.func7, Try.ntmps7
          go_wp2_with fail
          refine (shown_any _).mono ?_
          rintro e w1 ⟨rfl, hb1⟩
          go_wp2_with fail
          refine (dx _).mono ?_
          rintro e w2 ⟨rfl, hb2⟩
          replace hb2 := below_then hb1 hb2 hb1.size
          clear hb1
          go_wp2_with fail
          refine (dy _).mono ?_
          rintro e w3 ⟨rfl, hb3⟩
          replace hb3 := below_then hb2 hb3 hb2.size
          clear hb2
          go_wp2_with fail
          refine (db _).mono ?_
          rintro e w4 ⟨rfl, hb4⟩
          replace hb4 := below_then hb3 hb4 hb3.size
          clear hb3
          go_wp2_with fail
          refine (dt _).mono ?_
          rintro e w5 ⟨rfl, hb5⟩
          replace hb5 := below_then hb4 hb5 hb4.size
          clear hb4
          go_wp2_with fail
          go_ret
          exact ⟨rfl, hb5⟩
        · have m2 : (bo == x + y) = false := by simp; omega
          have m3 : (bo == x + y + 1) = true := by simpa using k2
          clear k1 k2
          go_enter Try.func7, Try.ntmps7
          go_wp2_with fail
          refine (shown_any _).mono ?_
          rintro e w1 ⟨rfl, hb1⟩
          go_wp2_with fail
          refine (dx _).mono ?_
          rintro e w2 ⟨rfl, hb2⟩
          replace hb2 := below_then hb1 hb2 hb1.size
          clear hb1
          go_wp2_with fail
          refine (dy _).mono ?_
          rintro e w3 ⟨rfl, hb3⟩
          replace hb3 := below_then hb2 hb3 hb2.size
          clear hb2
          go_wp2_with fail
          refine (db _).mono ?_
          rintro e w4 ⟨rfl, hb4⟩
          replace hb4 := below_then hb3 hb4 hb3.size
          clear hb3
          go_wp2_with fail
          refine (dt _).mono ?_
          rintro e w5 ⟨rfl, hb5⟩
          replace hb5 := below_then hb4 hb5 hb4.size
          clear hb4
          go_wp2_with fail
          go_ret
          exact ⟨rfl, hb5⟩
      · have m1 : (tw == 2 * x) = false := by simp; omega
        have m4 : (tw == 2 * x + 1) = true := by simpa using k1
        rcases k2 with k2 | k2
        · have m2 : (bo == x + y) = true := by simpa using k2
          clear k1 k2
          go_enter Try.func7, Try.ntmps7
          go_wp2_with fail
          refine (shown_any _).mono ?_
          rintro e w1 ⟨rfl, hb1⟩
          go_wp2_with fail
          refine (dx _).mono ?_
          rintro e w2 ⟨rfl, hb2⟩
          replace hb2 := below_then hb1 hb2 hb1.size
          clear hb1
          go_wp2_with fail
          refine (dy _).mono ?_
          rintro e w3 ⟨rfl, hb3⟩
          replace hb3 := below_then hb2 hb3 hb2.size
          clear hb2
          go_wp2_with fail
          refine (db _).mono ?_
          rintro e w4 ⟨rfl, hb4⟩
          replace hb4 := below_then hb3 hb4 hb3.size
          clear hb3
          go_wp2_with fail
          refine (dt _).mono ?_
          rintro e w5 ⟨rfl, hb5⟩
          replace hb5 := below_then hb4 hb5 hb4.size
          clear hb4
          go_wp2_with fail
          go_ret
          exact ⟨rfl, hb5⟩
        · have m2 : (bo == x + y) = false := by simp; omega
          have m3 : (bo == x + y + 1) = true := by simpa using k2
          clear k1 k2
          go_enter Try.func7, Try.ntmps7
          go_wp2_with fail
          refine (shown_any _).mono ?_
          rintro e w1 ⟨rfl, hb1⟩
          go_wp2_with fail
          refine (dx _).mono ?_
          rintro e w2 ⟨rfl, hb2⟩
          replace hb2 := below_then hb1 hb2 hb1.size
          clear hb1
          go_wp2_with fail
          refine (dy _).mono ?_
          rintro e w3 ⟨rfl, hb3⟩
          replace hb3 := below_then hb2 hb3 hb2.size
          clear hb2
          go_wp2_with fail
          refine (db _).mono ?_
          rintro e w4 ⟨rfl, hb4⟩
          replace hb4 := below_then hb3 hb4 hb3.size
          clear hb3
          go_wp2_with fail
          refine (dt _).mono ?_
          rintro e w5 ⟨rfl, hb5⟩
          replace hb5 := below_then hb4 hb5 hb4.size
          clear hb4
          go_wp2_with fail
          go_ret
          exact ⟨rfl, hb5⟩
end Go.Proofs.Ytgaocmpcjnjmdaa
