/-
  DelayWord: the walk. For every input the law returns true; what lay when the call began lies as it lay. No condition.
-/
import Derived.Test.YtgaocmpcjnjmdaaDl8
import Derived.Test.YtgaocmpcjnjmdaaNFrame
import Derived.Test.YtgaocmpcjnjmdaaQuietC
namespace Go.Proofs.Ytgaocmpcjnjmdaa
set_option linter.unusedVariables false
open Go.RowKit

/-- The highest eight bits of a word that is put together. -/
theorem word_put2 (i b : Int) (hi : 0 ≤ i) (hi1 : i ≤ 255) (hb : 0 ≤ b) (hb1 : b < 18446744073709551616) :
    ∃ R, bits BinOp.or IntKind.u64 (i * 72057594037927936) (IntKind.u64.wrap (b * 256) / 256) = R ∧ 0 ≤ R ∧ R < 18446744073709551616 ∧ R / 72057594037927936 = i := by
  have hw : IntKind.u64.wrap (b * 256) = b * 256 % 18446744073709551616 := by simp [IntKind.wrap, IntKind.bits, IntKind.signed]
  rw [hw]
  obtain ⟨l, hl⟩ : ∃ l : Nat, b * 256 % 18446744073709551616 / 256 = (l : Int) := ⟨(b * 256 % 18446744073709551616 / 256).toNat, by omega⟩
  obtain ⟨n, rfl⟩ : ∃ n : Nat, i = (n : Int) := ⟨i.toNat, by omega⟩
  have hl1 : l < 2 ^ 56 := by omega
  have e := Nat.two_pow_add_eq_or_of_lt (i := 56) hl1 n
  rw [hl, u64_or _ _ (by omega) (by omega) (by omega) (by omega)]
  have e1 : ((n : Int) * 72057594037927936).toNat = 2 ^ 56 * n := by omega
  have e2 : ((l : Int)).toNat = l := by omega
  rw [e1, e2, ← e]
  exact ⟨_, rfl, by omega, by omega, by omega⟩

set_option maxHeartbeats 4000000 in
set_option maxRecDepth 100000 in
theorem word_walk (word other mean most : Int) (w : World) (hword0 : 0 ≤ word) (hword1 : word < 18446744073709551616) (hother0 : 0 ≤ other) (hother1 : other < 18446744073709551616) (hmean0 : 0 ≤ mean) (hmean1 : mean < 4294967296) (hmost0 : 0 ≤ most) (hmost1 : most < 4294967296) :
    Calls Try.prog 6 #[.int .u64 word, .int .u64 other, .int .u32 mean, .int .u32 most] w fun e w' => e = .returned (.bool true) ∧ Below w.heap.size w w' := by
  obtain ⟨I, hI⟩ : ∃ I : Nat, word / 72057594037927936 = (I : Int) := ⟨(word / 72057594037927936).toNat, by omega⟩
  have hI1 : I < 256 := by omega
  have hI2 : (I : Int) < 256 := by omega
  obtain ⟨R, hR, hR0, hR1, hR2⟩ := word_put2 (I : Int) other (by omega) (by omega) hother0 hother1
  obtain ⟨t0, t1⟩ := tabV_bounds (I : Int) (by omega)
  have d1 := fun w => draw_any word mean most w hword0 hword1 hmean0 hmean1 hmost0 hmost1
  have d2 := fun w => draw_any R mean most w hR0 hR1 hmean0 hmean1 hmost0 hmost1
  have d3 := fun w => draw_any word 65536 4294967295 w hword0 hword1 (by omega) (by omega) (by omega) (by omega)
  have d4 := fun w => draw_any word 0 most w hword0 hword1 (by omega) (by omega) hmost0 hmost1
  have d5 := fun w => draw_any word mean 0 w hword0 hword1 hmean0 hmean1 (by omega) (by omega)
  have e2 : drawV R mean most = drawV word mean most := by rw [drawV_of _ _ _ hR0 hmean0 hmost0, drawV_of _ _ _ hword0 hmean0 hmost0, hR2, hI]
  have e3 : drawV word 65536 4294967295 = tabV (I : Int) := by
    rw [drawV_of _ _ _ hword0 (by omega) (by omega), hI]
    omega
  have e4 : drawV word 0 most = 0 := by
    rw [drawV_of _ _ _ hword0 (by omega) hmost0, Int.mul_zero]
    omega
  have e5 : drawV word mean 0 = 0 := by
    rw [drawV_of _ _ _ hword0 hmean0 (by omega)]
    have := Int.mul_nonneg (tabV_bounds (word / 72057594037927936) (by omega)).1 hmean0
    omega
  rw [e2] at d2
  rw [e3] at d3
  rw [e4] at d4
  rw [e5] at d5
  clear e2 e3 e4 e5 hR2
  have hc0 : ∀ w g, Tab w g → w.cell? ⟨g, I, none⟩ = some (.int .u32 (tabV (I : Int))) := fun w g h => h.cell I hI1
  generalize tabV (I : Int) = V at *
  generalize drawV word mean most = D at *
  go_enter Try.func6, Try.ntmps6
  go_wp2_with fail
  refine (shown_any _).mono ?_
  rintro e w1 ⟨rfl, hb1⟩
  go_wp2_with fail
  refine (table_any _).mono ?_
  rintro e w2 ⟨rfl, hb2⟩
  replace hb2 := below_then hb1 hb2 hb1.size
  clear hb1
  have HTC := hide tabL_cells
  have HTO := hide (cellsW_one tabL)
  have HZC := hide zeroT_size
  have HZ0 := hide zero256
  have HTab : Hid (∀ w g, Blk w g 25 (cellsW tabL).toArray → Tab w g) := fun _ _ h => h
  generalize cellsW tabL = T at *
  generalize cellsW (List.replicate 256 0) = Z at *
  go_wp2_with (first
    | ((with_reducible refine wpl_alloca (op := ⟨some 10, _, _, _, _, _⟩) rfl _ rfl _ HZ0.out ?_); intro g w3 hB3 hs3 hF3)
    | ((with_reducible refine wpl_storea agg256 rfl (.tmp 10) (.tmp 13) rfl g T rfl rfl _ _ hB3 HTC.out HZC.out HTO.out ?_); intro w4 hB4 hF4))
  have hT4 := HTab.out _ _ hB4
  have hb4 : Below w.heap.size w w4 := below_frm (hb2.trans (hF3.below hb2.size (fun k hk => hk.elim))) hF4 (by have := hb2.size; have := hF3.size; omega) (by intro k hk; have := hb2.size; omega)
  clear hB4 hF4 hB3 hF3 hb2 HTC HZC HTO HZ0 HTab
  obtain ⟨C, hC⟩ : ∃ C : World → Prop, C = fun w' => Tab w' g ∧ Below w.heap.size w w' := ⟨_, rfl⟩
  have hC0 : C w4.drew := by rw [hC]; exact ⟨hT4.drew, hb4.os, hb4.tape, hb4.output, hb4.size, hb4.block⟩
  have c1 : ∀ w', C w' → Calls Try.prog 14 #[.int .u64 word, .int .u32 mean, .int .u32 most] w' (fun e w'' => e = .returned (.int .u32 D) ∧ C w'') := by
    rw [hC]
    exact fun w' h => (d1 w').mono fun e w'' k => ⟨k.1, h.1.below k.2, below_then h.2 k.2 h.2.size⟩
  have c2 : ∀ w', C w' → Calls Try.prog 14 #[.int .u64 R, .int .u32 mean, .int .u32 most] w' (fun e w'' => e = .returned (.int .u32 D) ∧ C w'') := by
    rw [hC]
    exact fun w' h => (d2 w').mono fun e w'' k => ⟨k.1, h.1.below k.2, below_then h.2 k.2 h.2.size⟩
  have c3 : ∀ w', C w' → Calls Try.prog 14 #[.int .u64 word, .int .u32 65536, .int .u32 4294967295] w' (fun e w'' => e = .returned (.int .u32 V) ∧ C w'') := by
    rw [hC]
    exact fun w' h => (d3 w').mono fun e w'' k => ⟨k.1, h.1.below k.2, below_then h.2 k.2 h.2.size⟩
  have c4 : ∀ w', C w' → Calls Try.prog 14 #[.int .u64 word, .int .u32 0, .int .u32 most] w' (fun e w'' => e = .returned (.int .u32 0) ∧ C w'') := by
    rw [hC]
    exact fun w' h => (d4 w').mono fun e w'' k => ⟨k.1, h.1.below k.2, below_then h.2 k.2 h.2.size⟩
  have c5 : ∀ w', C w' → Calls Try.prog 14 #[.int .u64 word, .int .u32 mean, .int .u32 0] w' (fun e w'' => e = .returned (.int .u32 0) ∧ C w'') := by
    rw [hC]
    exact fun w' h => (d5 w').mono fun e w'' k => ⟨k.1, h.1.below k.2, below_then h.2 k.2 h.2.size⟩
  have hCc : ∀ w', C w' → w'.cell? ⟨g, I, none⟩ = some (.int .u32 V) := by rw [hC]; exact fun w' h => hc0 w' g h.1
  have HE : Hid (∀ w', C w' → Below w.heap.size w w') := by rw [hC]; exact fun w' h => h.2
  clear hC hT4 hb4 d1 d2 d3 d4 d5 hc0
  refine wp_region_class C (by kernel_rfl) (by kernel_rfl) hC0 ?_
  refine wpQuiet_step (fun K hK => ?_)
  go_simp
  first | (refine hK _ ?_; clear hK K) | (refine ⟨_, fun w' hw' => rfl, hK _ ?_⟩; clear hK K)
  refine wpQuiet_step (fun K hK => ?_)
  go_simp
  first | (refine hK _ ?_; clear hK K) | (refine ⟨_, fun w' hw' => rfl, hK _ ?_⟩; clear hK K)
  refine wpQuiet_step (fun K hK => ?_)
  go_simp
  first | (refine hK _ ?_; clear hK K) | (refine ⟨_, fun w' hw' => rfl, hK _ ?_⟩; clear hK K)
  refine wpQuiet_step (fun K hK => ?_)
  go_simp
  first | (refine hK _ ?_; clear hK K) | (refine ⟨_, fun w' hw' => rfl, hK _ ?_⟩; clear hK K)
  refine wpQuiet_step (fun K hK => ?_)
  go_simp
  first | (refine hK _ ?_; clear hK K) | (refine ⟨_, fun w' hw' => rfl, hK _ ?_⟩; clear hK K)
  refine wpQuiet_step (fun K hK => ?_)
  go_simp
  refine ⟨_, c1, hK _ ?_⟩
  clear hK K
  refine wpQuiet_step (fun K hK => ?_)
  go_simp
  first | (refine hK _ ?_; clear hK K) | (refine ⟨_, fun w' hw' => rfl, hK _ ?_⟩; clear hK K)
  refine wpQuiet_step (fun K hK => ?_)
  go_simp
  first | (refine hK _ ?_; clear hK K) | (refine ⟨_, fun w' hw' => rfl, hK _ ?_⟩; clear hK K)
  refine wpQuiet_step (fun K hK => ?_)
  go_simp
  first | (refine hK _ ?_; clear hK K) | (refine ⟨_, fun w' hw' => rfl, hK _ ?_⟩; clear hK K)
  refine wpQuiet_step (fun K hK => ?_)
  go_simp
  refine ⟨_, c2, hK _ ?_⟩
  clear hK K
  refine wpQuiet_step (fun K hK => ?_)
  go_simp
  first | (refine hK _ ?_; clear hK K) | (refine ⟨_, fun w' hw' => rfl, hK _ ?_⟩; clear hK K)
  refine wpQuiet_step (fun K hK => ?_)
  go_simp
  first | (refine hK _ ?_; clear hK K) | (refine ⟨_, fun w' hw' => rfl, hK _ ?_⟩; clear hK K)
  refine wpQuiet_step (fun K hK => ?_)
  go_simp
  first | (refine hK _ ?_; clear hK K) | (refine ⟨_, fun w' hw' => rfl, hK _ ?_⟩; clear hK K)
  refine wpQuiet_step (fun K hK => ?_)
  go_simp
  first | (refine hK _ ?_; clear hK K) | (refine ⟨_, fun w' hw' => rfl, hK _ ?_⟩; clear hK K)
  refine wpQuiet_step (fun K hK => ?_)
  go_simp
  refine ⟨_, c3, hK _ ?_⟩
  clear hK K
  refine wpQuiet_step (fun K hK => ?_)
  go_simp
  first | (refine hK _ ?_; clear hK K) | (refine ⟨_, fun w' hw' => rfl, hK _ ?_⟩; clear hK K)
  refine wpQuiet_step (fun K hK => ?_)
  go_simp
  first | (refine hK _ ?_; clear hK K) | (refine ⟨_, fun w' hw' => rfl, hK _ ?_⟩; clear hK K)
  refine wpQuiet_step (fun K hK => ?_)
  go_simp
  first | (refine hK _ ?_; clear hK K) | (refine ⟨_, fun w' hw' => rfl, hK _ ?_⟩; clear hK K)
  refine wpQuiet_step (fun K hK => ?_)
  go_simp
  refine ⟨.int .u32 V, fun w' hw' => ?_, hK _ ?_⟩
  · have hcell := hCc w' hw'
    go_simp
  clear hK K
  refine wpQuiet_step (fun K hK => ?_)
  go_simp
  first | (refine hK _ ?_; clear hK K) | (refine ⟨_, fun w' hw' => rfl, hK _ ?_⟩; clear hK K)
  refine wpQuiet_step (fun K hK => ?_)
  go_simp
  first | (refine hK _ ?_; clear hK K) | (refine ⟨_, fun w' hw' => rfl, hK _ ?_⟩; clear hK K)
  refine wpQuiet_step (fun K hK => ?_)
  go_simp
  first | (refine hK _ ?_; clear hK K) | (refine ⟨_, fun w' hw' => rfl, hK _ ?_⟩; clear hK K)
  refine wpQuiet_step (fun K hK => ?_)
  go_simp
  first | (refine hK _ ?_; clear hK K) | (refine ⟨_, fun w' hw' => rfl, hK _ ?_⟩; clear hK K)
  refine wpQuiet_step (fun K hK => ?_)
  go_simp
  first | (refine hK _ ?_; clear hK K) | (refine ⟨_, fun w' hw' => rfl, hK _ ?_⟩; clear hK K)
  refine wpQuiet_step (fun K hK => ?_)
  go_simp
  refine ⟨_, c4, hK _ ?_⟩
  clear hK K
  refine wpQuiet_step (fun K hK => ?_)
  go_simp
  first | (refine hK _ ?_; clear hK K) | (refine ⟨_, fun w' hw' => rfl, hK _ ?_⟩; clear hK K)
  refine wpQuiet_step (fun K hK => ?_)
  go_simp
  first | (refine hK _ ?_; clear hK K) | (refine ⟨_, fun w' hw' => rfl, hK _ ?_⟩; clear hK K)
  refine wpQuiet_step (fun K hK => ?_)
  go_simp
  first | (refine hK _ ?_; clear hK K) | (refine ⟨_, fun w' hw' => rfl, hK _ ?_⟩; clear hK K)
  refine wpQuiet_step (fun K hK => ?_)
  go_simp
  first | (refine hK _ ?_; clear hK K) | (refine ⟨_, fun w' hw' => rfl, hK _ ?_⟩; clear hK K)
  refine wpQuiet_step (fun K hK => ?_)
  go_simp
  first | (refine hK _ ?_; clear hK K) | (refine ⟨_, fun w' hw' => rfl, hK _ ?_⟩; clear hK K)
  refine wpQuiet_step (fun K hK => ?_)
  go_simp
  refine ⟨_, c5, hK _ ?_⟩
  clear hK K
  refine wpQuiet_step (fun K hK => ?_)
  go_simp
  first | (refine hK _ ?_; clear hK K) | (refine ⟨_, fun w' hw' => rfl, hK _ ?_⟩; clear hK K)
  refine wpQuiet_step (fun K hK => ?_)
  go_simp
  first | (refine hK _ ?_; clear hK K) | (refine ⟨_, fun w' hw' => rfl, hK _ ?_⟩; clear hK K)
  refine wpQuiet_step (fun K hK => ?_)
  go_simp
  first | (refine hK _ ?_; clear hK K) | (refine ⟨_, fun w' hw' => rfl, hK _ ?_⟩; clear hK K)
  refine wpQuiet_nil ?_
  intro w9 hw9
  have hb9 := HE.out w9 hw9
  go_wp2_with fail
  go_ret
  exact ⟨rfl, hb9⟩
end Go.Proofs.Ytgaocmpcjnjmdaa
