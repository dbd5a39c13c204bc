/-
  delay: what must be in any case (shown), by a contract.
-/
import Derived.Test.YtgaocmpcjnjmdaaDl6
namespace Go.Proofs.Ytgaocmpcjnjmdaa
set_option linter.unusedVariables false
open Go.RowKit

/-- A block that holds the table. -/
def Tab (w : World) (g : Nat) : Prop := Blk w g 25 (cellsW tabL).toArray
theorem Tab.cell {w : World} {g : Nat} (h : Tab w g) (k : Nat) (hk : k < 256) : w.cell? ⟨g, k, none⟩ = some (.int .u32 (tabV (k : Int))) := by
  have h1 := Blk.cell h k
  rw [h1, List.getElem?_toArray, cellsW_get, tabL_get k hk]
  rfl
theorem Tab.below {w w' : World} {g : Nat} (h : Tab w g) (hb : Below w.heap.size w w') : Tab w' g := Blk.frm h (Frm.of_below (S := fun _ => False) hb) (fun h => h)
theorem below_then {B : Nat} {w w1 w2 : World} (h : Below B w w1) (k : Below w1.heap.size w1 w2) (hB : B ≤ w1.heap.size) : Below B w w2 := h.trans (k.mono hB)
theorem tabL_cells : (cellsW tabL).length = 256 := by rw [cellsW_length, tabL_length]
theorem zeroT_size : (cellsW (List.replicate 256 0)).toArray.size = 256 := by rw [List.size_toArray, cellsW_length, List.length_replicate]
theorem logV_1 : logV 1 = 0 := by kernel_rfl
theorem logV_2 : logV 2 = 65536 := by kernel_rfl
theorem logV_256 : logV 256 = 524288 := by kernel_rfl
theorem tabV_0 : tabV ((0 : Nat) : Int) = 0 := by kernel_rfl
theorem tabV_128 : tabV ((128 : Nat) : Int) = 45426 := by kernel_rfl
theorem tabV_255 : tabV ((255 : Nat) : Int) = 363408 := by kernel_rfl
theorem drawV_a : drawV 9223372036854775808 100 1000 = 69 := by kernel_rfl
theorem drawV_b : drawV 18446744073709551615 100 500 = 500 := by kernel_rfl
theorem log_1 (w : World) : Calls Try.prog 11 #[.int .u32 1] w fun e w' => e = .returned (.int .u32 0) ∧ Below w.heap.size w w' := by
  have := log2_any 1 w (by omega) (by omega)
  rwa [logV_1] at this
theorem log_2 (w : World) : Calls Try.prog 11 #[.int .u32 2] w fun e w' => e = .returned (.int .u32 65536) ∧ Below w.heap.size w w' := by
  have := log2_any 2 w (by omega) (by omega)
  rwa [logV_2] at this
theorem log_256 (w : World) : Calls Try.prog 11 #[.int .u32 256] w fun e w' => e = .returned (.int .u32 524288) ∧ Below w.heap.size w w' := by
  have := log2_any 256 w (by omega) (by omega)
  rwa [logV_256] at this
theorem draw_a (w : World) : Calls Try.prog 14 #[.int .u64 9223372036854775808, .int .u32 100, .int .u32 1000] w fun e w' => e = .returned (.int .u32 69) ∧ Below w.heap.size w w' := by
  have := draw_any 9223372036854775808 100 1000 w (by omega) (by omega) (by omega) (by omega) (by omega) (by omega)
  rwa [drawV_a] at this
theorem draw_b (w : World) : Calls Try.prog 14 #[.int .u64 18446744073709551615, .int .u32 100, .int .u32 500] w fun e w' => e = .returned (.int .u32 500) ∧ Below w.heap.size w w' := by
  have := draw_any 18446744073709551615 100 500 w (by omega) (by omega) (by omega) (by omega) (by omega) (by omega)
  rwa [drawV_b] at this

set_option maxHeartbeats 4000000 in
set_option maxRecDepth 100000 in
theorem shown_any (w : World) :
    Calls Try.prog 9 #[] w fun e w' => e = .returned (.bool true) ∧ Below w.heap.size w w' := by
  have HTC := hide tabL_cells
  have HTO := hide (cellsW_one tabL)
  have HZC := hide zeroT_size
  have HZ0 := hide zero256
  have HTab : Hid (∀ w g, Blk w g 25 (cellsW tabL).toArray → Tab w g) := fun _ _ h => h
  go_enter Try.func9, Try.ntmps9
  go_wp2_with fail
  refine (table_any _).mono ?_
  rintro e w1 ⟨rfl, hb1⟩
  generalize cellsW tabL = T at *
  generalize cellsW (List.replicate 256 0) = Z at *
  go_wp2_with (first
    | ((with_reducible refine wpl_alloca (op := ⟨some 1, _, _, _, _, _⟩) rfl _ rfl _ HZ0.out ?_); intro g w2 hB2 hs2 hF2)
    | ((with_reducible refine wpl_storea agg256 rfl (.tmp 1) (.tmp 2) rfl g T rfl rfl _ _ hB2 HTC.out HZC.out HTO.out ?_); intro w3 hB3 hF3))
  have hT3 := HTab.out _ _ hB3
  have hb3 : Below w.heap.size w w3 := below_frm (hb1.trans (hF2.below hb1.size (fun k hk => hk.elim))) hF3 (by have := hb1.size; have := hF2.size; omega) (by intro k hk; have := hb1.size; omega)
  clear hB3 hF3 hB2 hF2 hb1 HTC HZC HTO HZ0 HTab
  refine (log_1 _).mono ?_
  rintro e w4 ⟨rfl, hb4⟩
  have hT4 := hT3.below hb4
  replace hb4 := below_then hb3 hb4 hb3.size
  clear hT3 hb3
  go_wp2_with fail
  refine (log_2 _).mono ?_
  rintro e w5 ⟨rfl, hb5⟩
  have hT5 := hT4.below hb5
  replace hb5 := below_then hb4 hb5 hb4.size
  clear hT4 hb4
  go_wp2_with fail
  refine (log_256 _).mono ?_
  rintro e w6 ⟨rfl, hb6⟩
  have hT6 := hT5.below hb6
  replace hb6 := below_then hb5 hb6 hb5.size
  have c0 := hT6.cell 0 (by omega)
  have c1 := hT6.cell 128 (by omega)
  have c2 := hT6.cell 255 (by omega)
  rw [tabV_0] at c0
  rw [tabV_128] at c1
  rw [tabV_255] at c2
  clear hT5 hb5 hT6
  go_wp2_with fail
  refine (draw_a _).mono ?_
  rintro e w7 ⟨rfl, hb7⟩
  replace hb7 := below_then hb6 hb7 hb6.size
  clear hb6 c0 c1 c2
  go_wp2_with fail
  refine (draw_b _).mono ?_
  rintro e w8 ⟨rfl, hb8⟩
  replace hb8 := below_then hb7 hb8 hb7.size
  go_wp2_with fail
  go_ret
  exact ⟨rfl, hb8⟩
end Go.Proofs.Ytgaocmpcjnjmdaa
