/-
  DelayTells: the walk. For every input the law returns true; what lay when the call began lies as it lay. No condition.
-/
import Derived.Test.YtgaocmpcjnjmdaaDl8
import Derived.Test.YtgaocmpcjnjmdaaNFrame
import Derived.Test.YtgaocmpcjnjmdaaQuietC
namespace Go.Proofs.Ytgaocmpcjnjmdaa
set_option linter.unusedVariables false
open Go.RowKit

theorem mask8 (t : Int) (h : 0 ≤ t) (h1 : t < 18446744073709551616) : ∃ T : Nat, bits BinOp.and IntKind.u64 t 255 = (T : Int) ∧ T < 256 := by
  refine ⟨_, u64_and t 255 h h1 (by decide) (by decide), ?_⟩
  have := Nat.and_le_right (n := t.toNat) (m := (255 : Int).toNat)
  have e : (255 : Int).toNat = 255 := rfl
  omega

set_option maxHeartbeats 4000000 in
set_option maxRecDepth 100000 in
theorem tells_walk (n word mean most : Int) (w : World) (hn0 : 0 ≤ n) (hn1 : n < 4294967296) (hword0 : 0 ≤ word) (hword1 : word < 18446744073709551616) (hmean0 : 0 ≤ mean) (hmean1 : mean < 4294967296) (hmost0 : 0 ≤ most) (hmost1 : most < 4294967296) :
    Calls Try.prog 3 #[.int .u32 n, .int .u64 word, .int .u32 mean, .int .u32 most] w fun e w' => e = .returned (.bool true) ∧ Below w.heap.size w w' := by
  obtain ⟨I, hI, hI1⟩ := mask8 word hword0 hword1
  have hI2 : (I : Int) < 256 := by omega
  have d1 := fun w => log2_any n w hn0 hn1
  have d2 := fun w => rlog2_any n w hn0 hn1
  have d3 := fun w => rat_any (I : Int) w (by omega) (by omega)
  have d4 := fun w => draw_any word mean most w hword0 hword1 hmean0 hmean1 hmost0 hmost1
  have d5 := fun w => rdraw_any word mean most w hword0 hword1 hmean0 hmean1 hmost0 hmost1
  have hc0 : ∀ w g, Tab w g → w.cell? ⟨g, I, none⟩ = some (.int .u32 (tabV (I : Int))) := fun w g h => h.cell I hI1
  generalize logV n = L at *
  generalize tabV (I : Int) = V at *
  generalize drawV word mean most = D at *
  go_enter Try.func3, Try.ntmps3
  go_wp2_with fail
  refine (shown_any _).mono ?_
  rintro e w1 ⟨rfl, hb1⟩
  go_wp2_with fail
  refine (table_any _).mono ?_
  rintro e w2 ⟨rfl, hb2⟩
  replace hb2 := below_then hb1 hb2 hb1.size
  clear hb1
  have HTC := hide tabL_cells
  have HTO := hide (cellsW_one tabL)
  have HZC := hide zeroT_size
  have HZ0 := hide zero256
  have HTab : Hid (∀ w g, Blk w g 25 (cellsW tabL).toArray → Tab w g) := fun _ _ h => h
  generalize cellsW tabL = T at *
  generalize cellsW (List.replicate 256 0) = Z at *
  go_wp2_with (first
    | ((with_reducible refine wpl_alloca (op := ⟨some 10, _, _, _, _, _⟩) rfl _ rfl _ HZ0.out ?_); intro g w3 hB3 hs3 hF3)
    | ((with_reducible refine wpl_storea agg256 rfl (.tmp 10) (.tmp 13) rfl g T rfl rfl _ _ hB3 HTC.out HZC.out HTO.out ?_); intro w4 hB4 hF4))
  have hT4 := HTab.out _ _ hB4
  have hb4 : Below w.heap.size w w4 := below_frm (hb2.trans (hF3.below hb2.size (fun k hk => hk.elim))) hF4 (by have := hb2.size; have := hF3.size; omega) (by intro k hk; have := hb2.size; omega)
  clear hB4 hF4 hB3 hF3 hb2 HTC HZC HTO HZ0 HTab
  obtain ⟨C, hC⟩ : ∃ C : World → Prop, C = fun w' => Tab w' g ∧ Below w.heap.size w w' := ⟨_, rfl⟩
  have hC0 : C w4.drew := by rw [hC]; exact ⟨hT4.drew, hb4.os, hb4.tape, hb4.output, hb4.size, hb4.block⟩
  have hCl : ∀ w', C w' → Calls Try.prog 11 #[.int .u32 n] w' (fun e w'' => e = .returned (.int .u32 L) ∧ C w'') := by
    rw [hC]
    exact fun w' h => (d1 w').mono fun e w'' k => ⟨k.1, h.1.below k.2, below_then h.2 k.2 h.2.size⟩
  have hCr : ∀ w', C w' → Calls Try.prog 12 #[.int .u32 n] w' (fun e w'' => e = .returned (.int .u32 L) ∧ C w'') := fun w' h => (d2 w').mono fun e w'' k => ⟨k.1, k.2 ▸ h⟩
  have hCc : ∀ w', C w' → w'.cell? ⟨g, I, none⟩ = some (.int .u32 V) := by rw [hC]; exact fun w' h => hc0 w' g h.1
  have hCa : ∀ w', C w' → Calls Try.prog 13 #[.int .i64 (I : Int)] w' (fun e w'' => e = .returned (.int .u32 V) ∧ C w'') := fun w' h => (d3 w').mono fun e w'' k => ⟨k.1, k.2 ▸ h⟩
  have hCd : ∀ w', C w' → Calls Try.prog 14 #[.int .u64 word, .int .u32 mean, .int .u32 most] w' (fun e w'' => e = .returned (.int .u32 D) ∧ C w'') := by
    rw [hC]
    exact fun w' h => (d4 w').mono fun e w'' k => ⟨k.1, h.1.below k.2, below_then h.2 k.2 h.2.size⟩
  have hCe : ∀ w', C w' → Calls Try.prog 15 #[.int .u64 word, .int .u32 mean, .int .u32 most] w' (fun e w'' => e = .returned (.int .u32 D) ∧ C w'') := fun w' h => (d5 w').mono fun e w'' k => ⟨k.1, k.2 ▸ h⟩
  have HE : Hid (∀ w', C w' → Below w.heap.size w w') := by rw [hC]; exact fun w' h => h.2
  clear hC hT4 hb4 d1 d2 d3 d4 d5 hc0
  refine wp_region_class C (by kernel_rfl) (by kernel_rfl) hC0 ?_
  refine wpQuiet_step (fun K hK => ?_)
  go_simp
  first | (refine hK _ ?_; clear hK K) | (refine ⟨_, fun w' hw' => rfl, hK _ ?_⟩; clear hK K)
  refine wpQuiet_step (fun K hK => ?_)
  go_simp
  first | (refine hK _ ?_; clear hK K) | (refine ⟨_, fun w' hw' => rfl, hK _ ?_⟩; clear hK K)
  refine wpQuiet_step (fun K hK => ?_)
  go_simp
  first | (refine hK _ ?_; clear hK K) | (refine ⟨_, fun w' hw' => rfl, hK _ ?_⟩; clear hK K)
  refine wpQuiet_step (fun K hK => ?_)
  go_simp
  refine ⟨_, hCl, hK _ ?_⟩
  clear hK K
  refine wpQuiet_step (fun K hK => ?_)
  go_simp
  first | (refine hK _ ?_; clear hK K) | (refine ⟨_, fun w' hw' => rfl, hK _ ?_⟩; clear hK K)
  refine wpQuiet_step (fun K hK => ?_)
  go_simp
  refine ⟨_, hCr, hK _ ?_⟩
  clear hK K
  refine wpQuiet_step (fun K hK => ?_)
  go_simp
  first | (refine hK _ ?_; clear hK K) | (refine ⟨_, fun w' hw' => rfl, hK _ ?_⟩; clear hK K)
  refine wpQuiet_step (fun K hK => ?_)
  go_simp
  first | (refine hK _ ?_; clear hK K) | (refine ⟨_, fun w' hw' => rfl, hK _ ?_⟩; clear hK K)
  refine wpQuiet_step (fun K hK => ?_)
  go_simp
  first | (refine hK _ ?_; clear hK K) | (refine ⟨_, fun w' hw' => rfl, hK _ ?_⟩; clear hK K)
  refine wpQuiet_step (fun K hK => ?_)
  go_simp
  first | (refine hK _ ?_; clear hK K) | (refine ⟨_, fun w' hw' => rfl, hK _ ?_⟩; clear hK K)
  refine wpQuiet_step (fun K hK => ?_)
  go_simp
  first | (refine hK _ ?_; clear hK K) | (refine ⟨_, fun w' hw' => rfl, hK _ ?_⟩; clear hK K)
  refine wpQuiet_step (fun K hK => ?_)
  go_simp
  refine ⟨.int .u32 V, fun w' hw' => ?_, hK _ ?_⟩
  · have hcell := hCc w' hw'
    go_simp
  clear hK K
  refine wpQuiet_step (fun K hK => ?_)
  go_simp
  first | (refine hK _ ?_; clear hK K) | (refine ⟨_, fun w' hw' => rfl, hK _ ?_⟩; clear hK K)
  refine wpQuiet_step (fun K hK => ?_)
  go_simp
  refine ⟨_, hCa, hK _ ?_⟩
  clear hK K
  refine wpQuiet_step (fun K hK => ?_)
  go_simp
  first | (refine hK _ ?_; clear hK K) | (refine ⟨_, fun w' hw' => rfl, hK _ ?_⟩; clear hK K)
  refine wpQuiet_step (fun K hK => ?_)
  go_simp
  first | (refine hK _ ?_; clear hK K) | (refine ⟨_, fun w' hw' => rfl, hK _ ?_⟩; clear hK K)
  refine wpQuiet_step (fun K hK => ?_)
  go_simp
  first | (refine hK _ ?_; clear hK K) | (refine ⟨_, fun w' hw' => rfl, hK _ ?_⟩; clear hK K)
  refine wpQuiet_step (fun K hK => ?_)
  go_simp
  first | (refine hK _ ?_; clear hK K) | (refine ⟨_, fun w' hw' => rfl, hK _ ?_⟩; clear hK K)
  refine wpQuiet_step (fun K hK => ?_)
  go_simp
  first | (refine hK _ ?_; clear hK K) | (refine ⟨_, fun w' hw' => rfl, hK _ ?_⟩; clear hK K)
  refine wpQuiet_step (fun K hK => ?_)
  go_simp
  first | (refine hK _ ?_; clear hK K) | (refine ⟨_, fun w' hw' => rfl, hK _ ?_⟩; clear hK K)
  refine wpQuiet_step (fun K hK => ?_)
  go_simp
  refine ⟨_, hCd, hK _ ?_⟩
  clear hK K
  refine wpQuiet_step (fun K hK => ?_)
  go_simp
  first | (refine hK _ ?_; clear hK K) | (refine ⟨_, fun w' hw' => rfl, hK _ ?_⟩; clear hK K)
  refine wpQuiet_step (fun K hK => ?_)
  go_simp
  first | (refine hK _ ?_; clear hK K) | (refine ⟨_, fun w' hw' => rfl, hK _ ?_⟩; clear hK K)
  refine wpQuiet_step (fun K hK => ?_)
  go_simp
  first | (refine hK _ ?_; clear hK K) | (refine ⟨_, fun w' hw' => rfl, hK _ ?_⟩; clear hK K)
  refine wpQuiet_step (fun K hK => ?_)
  go_simp
  refine ⟨_, hCe, hK _ ?_⟩
  clear hK K
  refine wpQuiet_step (fun K hK => ?_)
  go_simp
  first | (refine hK _ ?_; clear hK K) | (refine ⟨_, fun w' hw' => rfl, hK _ ?_⟩; clear hK K)
  refine wpQuiet_step (fun K hK => ?_)
  go_simp
  first | (refine hK _ ?_; clear hK K) | (refine ⟨_, fun w' hw' => rfl, hK _ ?_⟩; clear hK K)
  refine wpQuiet_step (fun K hK => ?_)
  go_simp
  first | (refine hK _ ?_; clear hK K) | (refine ⟨_, fun w' hw' => rfl, hK _ ?_⟩; clear hK K)
  refine wpQuiet_nil ?_
  intro w9 hw9
  have hb9 := HE.out w9 hw9
  go_wp2_with fail
  go_ret
  exact ⟨rfl, hb9⟩
end Go.Proofs.Ytgaocmpcjnjmdaa
