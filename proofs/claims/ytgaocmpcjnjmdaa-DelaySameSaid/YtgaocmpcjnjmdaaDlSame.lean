/-
  DelaySame: the walk. For every input the law returns true; what lay when the call began lies as it lay. No condition.
-/
import Derived.Test.YtgaocmpcjnjmdaaDl7
import Derived.Test.YtgaocmpcjnjmdaaNFrame
namespace Go.Proofs.Ytgaocmpcjnjmdaa
set_option linter.unusedVariables false
open Go.RowKit

theorem mask31s (t : Int) (h : 0 ≤ t) (h1 : t < 4294967296) : ∃ T, bits BinOp.and IntKind.u32 t 2147483647 = T ∧ 0 ≤ T ∧ T < 2147483648 := by
  refine ⟨_, u32_and t 2147483647 h h1 (by decide) (by decide), by omega, ?_⟩
  have := Nat.and_le_right (n := t.toNat) (m := (2147483647 : Int).toNat)
  have e : (2147483647 : Int).toNat = 2147483647 := rfl
  omega

/-- The highest eight bits of a word that is put together. -/
theorem word_put (i b : Int) (hi : 0 ≤ i) (hi1 : i ≤ 255) (hb : 0 ≤ b) (hb1 : b < 18446744073709551616) :
    ∃ R, bits BinOp.or IntKind.u64 (i * 72057594037927936) (IntKind.u64.wrap (b * 256) / 256) = R ∧ 0 ≤ R ∧ R < 18446744073709551616 ∧ R / 72057594037927936 = i := by
  have hw : IntKind.u64.wrap (b * 256) = b * 256 % 18446744073709551616 := by simp [IntKind.wrap, IntKind.bits, IntKind.signed]
  rw [hw]
  obtain ⟨l, hl⟩ : ∃ l : Nat, b * 256 % 18446744073709551616 / 256 = (l : Int) := ⟨(b * 256 % 18446744073709551616 / 256).toNat, by omega⟩
  obtain ⟨n, rfl⟩ : ∃ n : Nat, i = (n : Int) := ⟨i.toNat, by omega⟩
  have hl1 : l < 2 ^ 56 := by omega
  have e := Nat.two_pow_add_eq_or_of_lt (i := 56) hl1 n
  rw [hl, u64_or _ _ (by omega) (by omega) (by omega) (by omega)]
  have e1 : ((n : Int) * 72057594037927936).toNat = 2 ^ 56 * n := by omega
  have e2 : ((l : Int)).toNat = l := by omega
  rw [e1, e2, ← e]
  exact ⟨_, rfl, by omega, by omega, by omega⟩

set_option maxHeartbeats 4000000 in
set_option maxRecDepth 100000 in
theorem same_walk (i mean b : Int) (w : World) (hi0 : 0 ≤ i) (hi1 : i ≤ 255) (hmean0 : 0 ≤ mean) (hmean1 : mean < 4294967296) (hb0 : 0 ≤ b) (hb1 : b < 18446744073709551616) :
    Calls Try.prog 8 #[.int .u8 i, .int .u32 mean, .int .u64 b] w fun e w' => e = .returned (.bool true) ∧ Below w.heap.size w w' := by
  obtain ⟨M, hM, hM0, hM1⟩ := mask31s mean hmean0 hmean1
  obtain ⟨I, rfl⟩ : ∃ I : Nat, i = (I : Int) := ⟨i.toNat, by omega⟩
  obtain ⟨e1, e2, e3⟩ := tabV_of (I : Int) hi0 hi1
  obtain ⟨t0, t1⟩ := tabV_bounds (I : Int) hi1
  obtain ⟨R, hR, hR0, hR1, hR2⟩ := word_put (I : Int) b hi0 hi1 hb0 hb1
  have hlog := fun w => log2_any (256 - (I : Int)) w (by omega) (by omega)
  have hdr := fun w => draw_any R M 4294967295 w hR0 hR1 hM0 (by omega) (by omega) (by omega)
  have hdv := drawV_of R M 4294967295 hR0 hM0 (by omega)
  have hc0 : ∀ w g, Tab w g → w.cell? ⟨g, I, none⟩ = some (.int .u32 (tabV (I : Int))) := fun w g h => h.cell I (by omega)
  rw [hR2] at hdv
  clear hR2
  generalize logV (256 - (I : Int)) = L at *
  generalize tabV (I : Int) = T' at *
  obtain ⟨m0, m1⟩ := mul_hi t0 hM0 t1 (show M ≤ 2147483647 by omega)
  obtain ⟨D, hD⟩ : ∃ D, T' * M = D := ⟨_, rfl⟩
  rw [hD] at m0 m1 hdv
  have hD2 : D < 18446744073709551616 := by omega
  obtain ⟨Q, hQ⟩ : ∃ Q, D / 65536 = Q := ⟨_, rfl⟩
  have hQ0 : 0 ≤ Q := by omega
  have hQ1 : Q < 18446744073709551616 := by omega
  rw [hQ] at hdv
  clear m1
  rcases Int.lt_trichotomy Q 4294967295 with h | h | h
  · rw [show min Q 4294967295 = Q by omega] at hdv
    rw [hdv] at hdr
    clear hdv
    go_enter Try.func8, Try.ntmps8
    go_wp2_with fail
    refine (shown_any _).mono ?_
    rintro e w1 ⟨rfl, hb1⟩
    go_wp2_with fail
    refine (table_any _).mono ?_
    rintro e w2 ⟨rfl, hb2⟩
    replace hb2 := below_then hb1 hb2 hb1.size
    clear hb1
    have HTC := hide tabL_cells
    have HTO := hide (cellsW_one tabL)
    have HZC := hide zeroT_size
    have HZ0 := hide zero256
    have HTab : Hid (∀ w g, Blk w g 25 (cellsW tabL).toArray → Tab w g) := fun _ _ h => h
    generalize cellsW tabL = T at *
    generalize cellsW (List.replicate 256 0) = Z at *
    go_wp2_with (first
      | ((with_reducible refine wpl_alloca (op := ⟨some 8, _, _, _, _, _⟩) rfl _ rfl _ HZ0.out ?_); intro g w3 hB3 hs3 hF3)
      | ((with_reducible refine wpl_storea agg256 rfl (.tmp 8) (.tmp 14) rfl g T rfl rfl _ _ hB3 HTC.out HZC.out HTO.out ?_); intro w4 hB4 hF4))
    have hT4 := HTab.out _ _ hB4
    have hb4 : Below w.heap.size w w4 := below_frm (hb2.trans (hF3.below hb2.size (fun k hk => hk.elim))) hF4 (by have := hb2.size; have := hF3.size; omega) (by intro k hk; have := hb2.size; omega)
    clear hB4 hF4 hB3 hF3 hb2 HTC HZC HTO HZ0 HTab
    refine (hlog _).mono ?_
    rintro e w5 ⟨rfl, hb5⟩
    have hT5 := hT4.below hb5
    clear hT4
    replace hb5 := below_then hb4 hb5 hb4.size
    clear hb4
    have hc := hc0 _ _ hT5
    go_wp2_with fail
    refine (hdr _).mono ?_
    rintro e w6 ⟨rfl, hb6⟩
    have hT6 := hT5.below hb6
    clear hT5
    replace hb6 := below_then hb5 hb6 hb5.size
    clear hb5
    go_wp2_with fail
    go_ret
    exact ⟨rfl, hb6⟩
  · subst h
    rw [show min (4294967295 : Int) 4294967295 = 4294967295 by omega] at hdv
    rw [hdv] at hdr
    clear hdv
    go_enter Try.func8, Try.ntmps8
    go_wp2_with fail
    refine (shown_any _).mono ?_
    rintro e w1 ⟨rfl, hb1⟩
    go_wp2_with fail
    refine (table_any _).mono ?_
    rintro e w2 ⟨rfl, hb2⟩
    replace hb2 := below_then hb1 hb2 hb1.size
    clear hb1
    have HTC := hide tabL_cells
    have HTO := hide (cellsW_one tabL)
    have HZC := hide zeroT_size
    have HZ0 := hide zero256
    have HTab : Hid (∀ w g, Blk w g 25 (cellsW tabL).toArray → Tab w g) := fun _ _ h => h
    generalize cellsW tabL = T at *
    generalize cellsW (List.replicate 256 0) = Z at *
    go_wp2_with (first
      | ((with_reducible refine wpl_alloca (op := ⟨some 8, _, _, _, _, _⟩) rfl _ rfl _ HZ0.out ?_); intro g w3 hB3 hs3 hF3)
      | ((with_reducible refine wpl_storea agg256 rfl (.tmp 8) (.tmp 14) rfl g T rfl rfl _ _ hB3 HTC.out HZC.out HTO.out ?_); intro w4 hB4 hF4))
    have hT4 := HTab.out _ _ hB4
    have hb4 : Below w.heap.size w w4 := below_frm (hb2.trans (hF3.below hb2.size (fun k hk => hk.elim))) hF4 (by have := hb2.size; have := hF3.size; omega) (by intro k hk; have := hb2.size; omega)
    clear hB4 hF4 hB3 hF3 hb2 HTC HZC HTO HZ0 HTab
    refine (hlog _).mono ?_
    rintro e w5 ⟨rfl, hb5⟩
    have hT5 := hT4.below hb5
    clear hT4
    replace hb5 := below_then hb4 hb5 hb4.size
    clear hb4
    have hc := hc0 _ _ hT5
    go_wp2_with fail
    refine (hdr _).mono ?_
    rintro e w6 ⟨rfl, hb6⟩
    have hT6 := hT5.below hb6
    clear hT5
    replace hb6 := below_then hb5 hb6 hb5.size
    clear hb5
    go_wp2_with fail
    go_ret
    exact ⟨rfl, hb6⟩
  · rw [show min Q 4294967295 = 4294967295 by omega] at hdv
    rw [hdv] at hdr
    clear hdv
    go_enter Try.func8, Try.ntmps8
    go_wp2_with fail
    refine (shown_any _).mono ?_
    rintro e w1 ⟨rfl, hb1⟩
    go_wp2_with fail
    refine (table_any _).mono ?_
    rintro e w2 ⟨rfl, hb2⟩
    replace hb2 := below_then hb1 hb2 hb1.size
    clear hb1
    have HTC := hide tabL_cells
    have HTO := hide (cellsW_one tabL)
    have HZC := hide zeroT_size
    have HZ0 := hide zero256
    have HTab : Hid (∀ w g, Blk w g 25 (cellsW tabL).toArray → Tab w g) := fun _ _ h => h
    generalize cellsW tabL = T at *
    generalize cellsW (List.replicate 256 0) = Z at *
    go_wp2_with (first
      | ((with_reducible refine wpl_alloca (op := ⟨some 8, _, _, _, _, _⟩) rfl _ rfl _ HZ0.out ?_); intro g w3 hB3 hs3 hF3)
      | ((with_reducible refine wpl_storea agg256 rfl (.tmp 8) (.tmp 14) rfl g T rfl rfl _ _ hB3 HTC.out HZC.out HTO.out ?_); intro w4 hB4 hF4))
    have hT4 := HTab.out _ _ hB4
    have hb4 : Below w.heap.size w w4 := below_frm (hb2.trans (hF3.below hb2.size (fun k hk => hk.elim))) hF4 (by have := hb2.size; have := hF3.size; omega) (by intro k hk; have := hb2.size; omega)
    clear hB4 hF4 hB3 hF3 hb2 HTC HZC HTO HZ0 HTab
    refine (hlog _).mono ?_
    rintro e w5 ⟨rfl, hb5⟩
    have hT5 := hT4.below hb5
    clear hT4
    replace hb5 := below_then hb4 hb5 hb4.size
    clear hb4
    have hc := hc0 _ _ hT5
    go_wp2_with fail
    refine (hdr _).mono ?_
    rintro e w6 ⟨rfl, hb6⟩
    have hT6 := hT5.below hb6
    clear hT5
    replace hb6 := below_then hb5 hb6 hb5.size
    clear hb5
    go_wp2_with fail
    go_ret
    exact ⟨rfl, hb6⟩
end Go.Proofs.Ytgaocmpcjnjmdaa
