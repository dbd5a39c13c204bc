/-
  delay: Table by a contract: all places; what lay when the call began lies as it lay.
-/
import Derived.Test.YtgaocmpcjnjmdaaDl4
import Derived.Test.YtgaocmpcjnjmdaaGen0
namespace Go.Proofs.Ytgaocmpcjnjmdaa
set_option linter.unusedVariables false
open Go.RowKit

def tabL : List Nat := (List.range 256).map tabN
theorem tabL_length : tabL.length = 256 := by simp [tabL]
theorem tabL_get (k : Nat) (h : k < 256) : tabL[k]? = some (tabN k) := by simp [tabL, h]
theorem agg256 : Agg Try.prog 25 256 := Agg.of (by kernel_rfl) (by kernel_rfl)
theorem zero256 : (Try.prog.info? 25).map (fun i => i.zero) = some (some (.agg (cellsW (List.replicate 256 0)).toArray)) := by kernel_rfl
theorem under256 : Try.prog.underlying 25 = some (.array 256 22) := by kernel_rfl

structure TabInv (w : World) (g0 g1 : Nat) (l : List Nat) (wr : World) : Prop where
  res : Blk wr g0 25 (cellsW (List.replicate 256 0)).toArray
  tab : Blk wr g1 25 (cellsW l).toArray
  below : Below w.heap.size w wr

set_option maxHeartbeats 4000000 in
set_option maxRecDepth 100000 in
theorem table_any (w : World) :
    Calls Try.prog 10 #[] w fun e w' => e = .returned (.agg (cellsW tabL).toArray) ∧ Below w.heap.size w w' := by
  have HTL := hide tabL_length
  have HTG := hide tabL_get
  obtain ⟨Z, hZ⟩ : ∃ Z : List Nat, Z = List.replicate 256 0 := ⟨_, rfl⟩
  have HZL : Hid (Z.length = 256) := by show _ = _; rw [hZ]; simp
  have HZ0 : Hid ((Try.prog.info? 25).map (fun i => i.zero) = some (some (.agg (cellsW Z).toArray))) := by rw [hZ]; exact zero256
  have HIV : Hid (∀ g0 g1 l wr, Blk wr g0 25 (cellsW Z).toArray → Blk wr g1 25 (cellsW l).toArray → Below w.heap.size w wr → TabInv w g0 g1 l wr) := by rw [hZ]; exact fun _ _ _ _ a b c => ⟨a, b, c⟩
  have HIR : Hid (∀ g0 g1 l wr, TabInv w g0 g1 l wr → Blk wr g0 25 (cellsW Z).toArray) := by rw [hZ]; exact fun _ _ _ _ h => h.res
  clear hZ
  generalize tabL = T at *
  have hCT : Hid ((cellsW T).length = 256) := by show _ = _; rw [cellsW_length, HTL.out]
  have hCX : Hid (((cellsW T).drop 0).take 256 = cellsW T) := by show _ = _; rw [List.drop_zero, List.take_of_length_le (by rw [hCT.out]; exact Nat.le_refl _)]
  have hCZ : Hid ((cellsW Z).toArray.size = 256) := by show _ = _; rw [List.size_toArray, cellsW_length, HZL.out]
  go_enter Try.func10, Try.ntmps10
  go_wp2_with (first
    | ((with_reducible refine wpl_alloca (op := ⟨some 0, _, _, _, _, _⟩) rfl _ rfl _ HZ0.out ?_); intro g0 w1 hB1 hs1 hF1)
    | ((with_reducible refine wpl_alloca (op := ⟨some 1, _, _, _, _, _⟩) rfl _ rfl _ HZ0.out ?_); intro g1 w2 hB2 hs2 hF2))
  have hs0 : w.heap.size ≤ g0 := by omega
  have hs1' : w.heap.size ≤ g1 := by have := hF1.size; omega
  have hn : g0 ≠ g1 := by have := hB1.lt; omega
  have HST : Hid (TabInv w g0 g1 (mix T Z 0) w2) := by
    rw [mix_zero]
    exact HIV.out _ _ _ _ (hB1.frm hF2 (fun h => h)) hB2 ((hF1.trans hF2 (fun _ _ h => h)).below (Nat.le_refl _) (fun k hk => hk.elim))
  clear hB1 hB2 hF1 hF2 hs1 hs2
  go_loopw [3] (fun i wr => ∃ k : Nat, k ≤ 256 ∧ i = .int .i64 k ∧ TabInv w g0 g1 (mix T Z k) wr) (fun i _ => 256 - (intOf i).toNat)
  case atStart => exact ⟨0, by omega, rfl, HST.out⟩
  case round =>
    clear HST
    obtain ⟨k, hk, rfl, hi⟩ := hrel
    by_cases hlt : k < 256
    · have hk2 : (k : Int) < 256 := by omega
      have hml : (mix T Z k).length = 256 := by rw [mix_length _ _ _ (by rw [HTL.out, HZL.out]), HZL.out]
      have hpl := fun w => place_any (k : Int) w (by omega) (by omega)
      have HSET : Hid ((cellsW (mix T Z k)).set k (.int .u32 (tabV k)) = cellsW (mix T Z (k + 1))) := by
        show (cellsW (mix T Z k)).set k (.int .u32 (tabN k : Int)) = _
        rw [cellsW_set, mix_set _ _ _ _ (by rw [HTL.out, HZL.out]) (by rw [HZL.out]; exact hlt) (HTG.out k hlt)]
      have HCE : (cellsW (mix T Z k)).toArray[k]? = some (.int .u32 (((mix T Z k).getD k 0 : Nat) : Int)) := by rw [List.getElem?_toArray]; exact cellsW_at _ _ (by rw [hml]; exact hlt)
      have HR := hide (HIR.out _ _ _ _ hi)
      have HT := hide hi.tab
      have HB := hide hi.below
      clear hml hi
      generalize ((mix T Z k).getD k 0 : Nat) = z at *
      generalize hM : cellsW (mix T Z k) = M at *
      clear hM
      obtain ⟨V, hV⟩ : ∃ V, tabV k = V := ⟨_, rfl⟩
      rw [hV] at hpl HSET
      clear hV
      go_wp2_with fail
      refine (hpl _).mono ?_
      rintro e w3 ⟨rfl, hb3⟩
      have hT3 := HT.out.frm (Frm.of_below (S := fun _ => False) hb3) (fun h => h)
      have hc3 : w3.cell? ⟨g1, k, none⟩ = some (.int .u32 (z : Int)) := by
        rw [hT3.cell]
        exact HCE
      have hf3 := hT3.frozen k
      have FIN : Hid (TabInv w g0 g1 (mix T Z (k + 1)) (w3.setCell ⟨g1, k, none⟩ (.int .u32 V))) := by
        have f3 : Frm (fun k => k = g1) w3 (w3.setCell ⟨g1, k, none⟩ (.int .u32 V)) := Frm.setCell _ _ _ _ rfl
        have hT4 := hT3.set k (.int .u32 V)
        have e : M.toArray.setIfInBounds k (.int .u32 V) = (cellsW (mix T Z (k + 1))).toArray := by rw [← HSET.out]; simp
        rw [e] at hT4
        refine HIV.out _ _ _ _ ((HR.out.frm (Frm.of_below (S := fun _ => False) hb3) (fun h => h)).frm f3 hn) hT4 (below_frm (HB.out.trans (hb3.mono HB.out.size)) f3 ?_ (fun k hk => by omega))
        have := hb3.size
        have := HB.out.size
        omega
      go_wp2_with fail
      go_roundw
      case rel => first | exact ⟨k + 1, by omega, by go_num, FIN.out⟩ | ((repeat apply Exists.intro); exact ⟨⟨k + 1, by omega, by go_num, FIN.out⟩, rfl⟩)
      case measure => simp [intOf]; omega
    · obtain rfl : k = 256 := by omega
      rw [mix_all _ _ _ (by rw [HTL.out, HZL.out]) (by rw [HZL.out]; exact Nat.le_refl _)] at hi
      have hb := hi.tab
      have hres := HIR.out _ _ _ _ hi
      have hbel := hi.below
      clear hi
      go_wp2_with (first
        | (with_reducible refine wpl_loada (op := ⟨some 12, _, _, _, _, _⟩) agg256 rfl _ rfl g1 0 rfl _ _ _ hb hCX.out (by rw [hCT.out]; exact Nat.le_refl _) ?_)
        | ((with_reducible refine wpl_storea agg256 rfl (.tmp 0) (.tmp 12) rfl g0 (cellsW T) rfl rfl _ _ hres hCT.out hCZ.out (cellsW_one _) ?_); intro w14 hB14 hF14))
      refine ret_agg agg256 rfl rfl g0 _ _ rfl hB14 hCT.out ⟨rfl, below_frm hbel hF14 hbel.size (by intro i hi; omega)⟩
end Go.Proofs.Ytgaocmpcjnjmdaa
