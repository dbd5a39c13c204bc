/-
  Texts: cuts, bytes, sums of texts; the document's Text.
-/
import Derived.Test.YtoiiiflnnhkjbaaGreatDoorGn
namespace Go.Proofs.YtoiiiflnnhkjbaaGreatDoor
set_option linter.unusedVariables false
open Go.RowKit

theorem txt_append (a b : List UInt8) : ((⟨a.toArray⟩ : ByteArray) ++ ⟨b.toArray⟩) = ⟨(a ++ b).toArray⟩ := by
  apply ByteArray.ext
  simp [ByteArray.data_append]
theorem txt_size (l : List UInt8) : (⟨l.toArray⟩ : ByteArray).size = l.length := by show l.toArray.size = l.length; simp
theorem be_succ (w n : Nat) : be (w + 1) n = UInt8.ofNat (n / 256 ^ w) :: be w n := by
  unfold be
  rw [List.range_succ_eq_map, List.map_cons, List.map_map]
  congr 1
  apply List.map_congr_left
  intro j hj
  have : w - (j + 1) = w - 1 - j := by omega
  simp [this]
set_option maxHeartbeats 2000000 in
theorem text_any (n : Nat) (s : Nat) (w : World) (hs : s ≤ 8) (hn : n < 18446744073709551616) :
    Calls Tryz.prog 46 #[.int .u64 (n : Int), .int .i64 (s : Int)] w fun e w' => e = .returned (.string ⟨(be s n).toArray⟩) ∧ Below w.heap.size w w' := by
  go_enter Tryz.func46, Tryz.ntmps46
  go_wp2_with fail
  go_loopw [0, 5, 6] (fun x t i wr => ∃ k : Nat, k ≤ s ∧ i = .int .i64 k ∧ x = .int .u64 ((n / 256 ^ k : Nat) : Int) ∧ t = .string ⟨(be k n).toArray⟩ ∧ Below w.heap.size w wr) (fun _ _ i _ => s - (intOf i).toNat)
  case atStart => exact ⟨0, by omega, rfl, by simp, rfl, Below.refl _ _⟩
  case round =>
    obtain ⟨k, hk, rfl, rfl, rfl, hbel⟩ := hrel
    by_cases hlt : k < s
    · have HY : Hid (n / 256 ^ (k + 1) = n / 256 ^ k / 256) := by unfold Hid; rw [Nat.pow_succ, Nat.div_div_eq_div_mul]
      have HB := hide (be_succ k n)
      have hyl : n / 256 ^ k < 18446744073709551616 := Nat.lt_of_le_of_lt (Nat.div_le_self _ _) hn
      generalize n / 256 ^ k = y at *
      have hcv : Sem.run Tryz.prog (convert 46 9 (.slice (some ⟨wr.heap.size, 0, none⟩) 1 1)) (wr.alloc (.cells #[.int .u8 ((y : Int) % 256)] 5)) = .ok (.string ⟨#[UInt8.ofNat y]⟩) (wr.alloc (.cells #[.int .u8 ((y : Int) % 256)] 5)) := by
        refine conv_rds _ _ _ 5 Tryz.underlying46 Tryz.underlying5 Tryz.underlying9 _ 1 1 [UInt8.ofNat y] ?_
        have e : cellsB [UInt8.ofNat y] = [.int .u8 ((y : Int) % 256)] := by
          simp only [cellsB, List.map_cons, List.map_nil, UInt8.toNat_ofNat']
          rfl
        rw [e]
        exact Rds.new1 _ _ _
      have hap : ((⟨#[UInt8.ofNat y]⟩ : ByteArray) ++ ⟨(be k n).toArray⟩) = ⟨(be (k + 1) n).toArray⟩ := by
        rw [HB.out]
        exact txt_append [UInt8.ofNat y] (be k n)
      have hbl : (be k n).length = k := be_length _ _
      go_wp2
      go_roundw
      case rel => exact ⟨k + 1, by omega, by go_num, by rw [HY.out]; simp, rfl, hbel.alloc hbel.size _⟩
      case measure => simp [intOf]; omega
    · obtain rfl : k = s := by omega
      go_wp2
      go_ret
      exact ⟨rfl, hbel⟩
theorem extract_mk (l : List UInt8) (i j : Nat) : (⟨l.toArray⟩ : ByteArray).extract i j = ⟨((l.drop i).take (j - i)).toArray⟩ := by
  apply ByteArray.ext
  simp [ByteArray.data_extract, List.extract_eq_take_drop]
theorem slice_text (l : List UInt8) (i j : Nat) (hij : i ≤ j) (hj : j ≤ l.length) (w : World) : Sem.run Tryz.prog (Instr.sliceAt 9 (.string ⟨l.toArray⟩) (some (.int .i64 (i : Int))) (some (.int .i64 (j : Int))) none) w = .ok (.string ⟨((l.drop i).take (j - i)).toArray⟩) w := by
  have h4 : (⟨l.toArray⟩ : ByteArray).size = l.length := by show l.toArray.size = l.length; simp
  simp only [Instr.sliceAt, Instr.slice, run_underlying under9, Sem.run_bind, Result.andThen_ok, Instr.sliceBounds, Instr.sliceBound, asIntOf, h4]
  simp [hij, hj, extract_mk]
theorem str_to (l : List UInt8) (j : Nat) (hj : j ≤ l.length) (w : World) : Sem.run Tryz.prog (Instr.sliceAt 9 (.string ⟨l.toArray⟩) none (some (.int .i64 (j : Int))) none) w = .ok (.string ⟨(l.take j).toArray⟩) w := by
  have h4 : (⟨l.toArray⟩ : ByteArray).size = l.length := txt_size l
  have h5 : (⟨l.toArray⟩ : ByteArray).extract 0 j = ⟨(l.take j).toArray⟩ := by
    apply ByteArray.ext
    simp [ByteArray.data_extract, List.extract_eq_take_drop]
  simp only [Instr.sliceAt, Instr.slice, run_underlying under9, Sem.run_bind, Result.andThen_ok, Instr.sliceBounds, Instr.sliceBound, asIntOf, h4]
  simp [hj, h5]
theorem str_index (l : List UInt8) (k : Nat) (hk : k < l.length) (w : World) : Sem.run Tryz.prog (Instr.index 9 (.string ⟨l.toArray⟩) (.int .i64 (k : Int))) w = .ok (.int .u8 ((l.getD k 0).toNat : Int)) w := by
  have h1 : (⟨l.toArray⟩ : ByteArray)[k]? = some (l.getD k 0) := by
    rw [List.getD_eq_getElem?_getD, List.getElem?_eq_getElem hk]
    exact (dif_pos (show k < (⟨l.toArray⟩ : ByteArray).size by rw [txt_size]; exact hk)).trans (congrArg some rfl)
  have hsz : (⟨l.toArray⟩ : ByteArray).size = l.length := txt_size l
  simp only [Instr.index, asIntOf, Sem.run_bind, run_underlying under9, Result.andThen_ok]
  simp [h1]
end Go.Proofs.YtoiiiflnnhkjbaaGreatDoor
