/-
  What must be in any case (layer 5).
-/
import Derived.Test.YtjdffceeinflcaaDoorCh7
import Derived.Lib.SlBytesConst
namespace Go.Proofs.YtjdffceeinflcaaDoor
set_option linter.unusedVariables false
open Go.RowKit

def riseL : List UInt8 := (List.range 32).map UInt8.ofNat
def nineL : List UInt8 := [0, 0, 0, 9, 0, 0, 0, 74, 0, 0, 0, 0]
theorem riseL_length : riseL.length = 32 := rfl
theorem riseL_at (k : Nat) (h : k < 32) : riseL[k]? = some (UInt8.ofNat k) := by rw [riseL, List.getElem?_map, List.getElem?_range h]; rfl
def headL : List UInt8 := [16, 241, 231, 228, 209, 59, 89, 21, 80, 15, 221, 31, 163, 32, 113, 196]
def tailL : List UInt8 := [181, 18, 156, 209, 222, 22, 78, 185, 203, 208, 131, 232, 162, 80, 60, 78]
theorem rfc_head : (chaL riseL 1 nineL).take 16 = headL := by kernel_rfl
theorem rfc_tail : (chaL riseL 1 nineL).drop 48 = tailL := by kernel_rfl
def abcB : List UInt8 := [97, 98, 99]
def blankB : List UInt8 := [32, 32]
theorem abc_xor : xorB abcB blankB = [65, 66] := by decide

theorem Rds.conv {w : World} {A : Option Addr} {n : Nat} {l : List UInt8} (h : Rds w A n (cellsB l)) (c : Nat) : Sem.run Tryd.prog (convert 29 9 (.slice A n c)) w = .ok (.string ⟨l.toArray⟩) w :=
  conv_rds w 29 9 5 under24 under5 under9 A n c l h

set_option maxHeartbeats 4000000 in
theorem cshown_any (w : World) (hG : Gc w) (hg0 : 2 ≤ w.heap.size) :
    Calls Tryd.prog 10 #[] w fun e w' => e = .returned (.bool true) ∧ Below w.heap.size w w' := by
  have kc : ∀ (w : World) (C : Array Value) (n c g : Nat), g = w.heap.size → _ := fun (w : World) (C : Array Value) (n c g : Nat) (hg : g = w.heap.size) => hg ▸ Lib.run_convert_bytes_const (P := Tryd.prog) w 29 5 C n c under24 under5
  obtain ⟨rl, hrl⟩ : ∃ rl, rl = riseL := ⟨_, rfl⟩
  have HRL : Hid (rl.length = 32) := by rw [hrl]; exact riseL_length
  have HRA : Hid (∀ k, k < 32 → rl[k]? = some (UInt8.ofNat k)) := by rw [hrl]; exact riseL_at
  obtain ⟨ch, hch⟩ : ∃ ch, ch = chaL riseL 1 nineL := ⟨_, rfl⟩
  have HBA : Hid (∀ w, Gc w → 2 ≤ w.heap.size → Calls Tryd.prog 11 #[.agg (cellsB rl).toArray, .int .u32 1, .agg #[.int .u8 0, .int .u8 0, .int .u8 0, .int .u8 9, .int .u8 0, .int .u8 0, .int .u8 0, .int .u8 74, .int .u8 0, .int .u8 0, .int .u8 0, .int .u8 0]] w fun e w' => e = .returned (.agg (cellsB ch).toArray) ∧ Below w.heap.size w w') := by
    rw [hrl, hch]
    exact fun w hG h2 => block_any riseL nineL 1 w hG h2 riseL_length rfl (by omega)
  have HHD : Hid (ch.take 16 = headL) := by rw [hch]; exact rfc_head
  have HTL : Hid (ch.drop 48 = tailL) := by rw [hch]; exact rfc_tail
  have HCL : Hid (ch.length = 64) := by rw [hch]; exact chaL_length _ _ _
  have HCC : Hid ((cellsB ch).length = 64) := by show _ = _; rw [cellsB_length, HCL.out]
  have HKL : Hid ((cellsB rl).length = 32) := by show _ = _; rw [cellsB_length, HRL.out]
  have HXK : Hid (((cellsB rl).drop 0).take 32 = cellsB rl) := by show _ = _; rw [List.drop_zero, List.take_of_length_le (by rw [HKL.out]; exact Nat.le_refl _)]
  have hsl16 : ∀ g w, Sem.run Tryd.prog (Instr.sliceAt 27 (.pointer (some ⟨g, 0, none⟩)) none (some (.int .i64 16)) none) w = .ok (.slice (some ⟨g, 0, none⟩) 16 64) w := fun g w => slice_arr_to under64b g 16 (by omega) w
  have hsl48 : ∀ g w, Sem.run Tryd.prog (Instr.sliceAt 27 (.pointer (some ⟨g, 0, none⟩)) (some (.int .i64 48)) none none) w = .ok (.slice (some ⟨g, 48, none⟩) 16 16) w := fun g w => by
    have := run_slice_arr (P := Tryd.prog) (t := 27) (e := 5) (N := 64) under64b size8 g 0 .i64 48 (by omega) w
    simpa using this
  clear hrl hch
  go_enter Tryd.func10, Tryd.ntmps10
  go_wp2_with ((with_reducible refine wpl_alloca (op := ⟨some 1, _, _, _, _, _⟩) rfl _ rfl _ zeroK ?_); intro g1 w1 hB1 hs1 hF1)
  have HST : Hid (Blk w1 g1 23 (cellsB (mix rl (List.replicate 32 0) 0)).toArray ∧ Frm (fun k => k = g1) w w1) := ⟨by rw [mix_zero]; exact hB1, hF1.mono (fun _ _ h => h.elim)⟩
  clear hB1 hF1
  go_loopw [2] (fun i wr => ∃ k : Nat, k ≤ 32 ∧ i = .int .i64 k ∧ Blk wr g1 23 (cellsB (mix rl (List.replicate 32 0) k)).toArray ∧ Frm (fun k => k = g1) w wr) (fun i _ => 32 - (intOf i).toNat)
  case atStart => exact ⟨0, by omega, rfl, HST.out⟩
  case round =>
    clear HST
    obtain ⟨k, hk, rfl, hi, hf⟩ := hrel
    by_cases hlt : k < 32
    · have hset := mix_set rl (List.replicate 32 0) k (UInt8.ofNat k) (by rw [HRL.out]; rfl) (by rw [List.length_replicate]; exact hlt) (HRA.out k hlt)
      have hl0 : (cellsB (mix rl (List.replicate 32 0) k)).length = 32 := by rw [cellsB_length, mix_length _ _ _ (by rw [HRL.out]; rfl)]; rfl
      obtain ⟨vo, hvo⟩ : ∃ v, wr.cell? ⟨g1, k, none⟩ = some v := ⟨(cellsB (mix rl (List.replicate 32 0) k))[k]'(by omega), by rw [hi.cell, List.getElem?_toArray, List.getElem?_eq_getElem (by omega)]⟩
      have hf1 := hi.frozen k
      have FIN : Hid (Blk (wr.setCell ⟨g1, k, none⟩ (.int .u8 (k : Int))) g1 23 (cellsB (mix rl (List.replicate 32 0) (k + 1))).toArray ∧ Frm (fun k => k = g1) w (wr.setCell ⟨g1, k, none⟩ (.int .u8 (k : Int)))) := by
        have he : ((UInt8.ofNat k).toNat : Int) = (k : Int) := by rw [UInt8.toNat_ofNat']; omega
        have hb := hi.set k (.int .u8 ((UInt8.ofNat k).toNat : Int))
        rw [List.setIfInBounds_toArray, cellsB_set, hset, he] at hb
        exact ⟨hb, hf.trans (Frm.setCell _ _ _ (fun i => i = g1) rfl) (fun _ _ h => h)⟩
      clear hset hl0 hi hf
      go_wp2_with fail
      go_roundw
      case rel => first | exact ⟨k + 1, by omega, by go_num, FIN.out⟩ | ((repeat apply Exists.intro); exact ⟨⟨k + 1, by omega, by go_num, FIN.out⟩, rfl⟩)
      case measure => simp [intOf]; omega
    · obtain rfl : k = 32 := by omega
      rw [mix_all _ _ _ (by rw [HRL.out]; rfl) (by rw [List.length_replicate]; exact Nat.le_refl _)] at hi
      go_wp2_with (with_reducible refine wpl_loada (op := ⟨some 12, _, _, _, _, _⟩) aggK rfl _ rfl g1 0 rfl _ _ _ hi HXK.out (by rw [HKL.out]; exact Nat.le_refl _) ?_)
      refine (HBA.out wr (hG.frm hf (by omega) (by omega)) (by have := hf.size; omega)).mono ?_
      rintro e w5 ⟨rfl, hb5⟩
      have hF5 : Frm (fun k => k = g1) w w5 := hf.trans (Frm.of_below (S := fun _ => False) hb5) (fun _ _ h => h.elim)
      have HZB : Hid ((cellsB (List.replicate 64 0)).toArray.size = 64) := rfl
      clear hi hf hb5 HBA hG
      go_wp2_with (first
        | ((with_reducible refine wpl_alloca (op := ⟨some 3, _, _, _, _, _⟩) rfl _ rfl _ zero64b ?_); intro g3 w6 hB6 hs6 hF6)
        | ((with_reducible refine wpl_storea agg64b rfl (.tmp 3) (.tmp 14) rfl g3 (cellsB ch) rfl rfl _ _ hB6 HCC.out HZB.out (cellsB_one _) ?_); intro w7 hB7 hF7; have hcv := hB7.conv 16 64 (by rw [HCL.out]; omega); rw [HHD.out] at hcv; have hcv2 := (hB7.src (gs := g3 + 1) (by omega) 48 16 (by rw [HCL.out]; omega)).1.conv 16; rw [HTL.out] at hcv2; have hcv3 : Sem.run Tryd.prog (convert 29 9 (.slice (some ⟨g3, 48, none⟩) 16 16)) w7 = .ok (.string ⟨tailL.toArray⟩) w7 := hcv2; clear hcv2; unfold headL at hcv; unfold tailL at hcv3))
      have F7 : Frm (fun k => k = g1 ∨ k = g3) w w7 := ((hF5.mono (T := fun k => k = g1 ∨ k = g3) (fun _ _ h => .inl h)).trans hF6 (fun _ _ h => h.elim)).trans hF7 (fun _ _ h => .inr h)
      have HB7 := hide (F7.below (Nat.le_refl _) (fun k hk => by have := hF5.size; omega))
      have rr1 : Rds ((w7.alloc (.cells (cellsB abcB).toArray 5 (3, 4))).alloc (.cells (cellsB blankB).toArray 5 (2, 3))) (some ⟨w7.heap.size, 0, none⟩) 3 (cellsB abcB) := (alloc_rds w7 (cellsB abcB) 5 (3, 4)).frm (S := fun _ => False) (Frm.alloc _ _ _) (fun _ _ _ h => h)
      have rr2 : Rds ((w7.alloc (.cells (cellsB abcB).toArray 5 (3, 4))).alloc (.cells (cellsB blankB).toArray 5 (2, 3))) (some ⟨w7.heap.size + 1, 0, none⟩) 2 (cellsB blankB) := by
        have := alloc_rds (w7.alloc (.cells (cellsB abcB).toArray 5 (3, 4))) (cellsB blankB) 5 (2, 3)
        rwa [show (w7.alloc (.cells (cellsB abcB).toArray 5 (3, 4))).heap.size = w7.heap.size + 1 by simp] at this
      have b7 := below_frm HB7.out (Frm.two (S := fun _ => False) w7 (.cells (cellsB abcB).toArray 5 (3, 4)) (.cells (cellsB blankB).toArray 5 (2, 3))) HB7.out.size (fun _ h => h.elim)
      refine (xor_any (some ⟨w7.heap.size, 0, none⟩) (some ⟨w7.heap.size + 1, 0, none⟩) 3 2 3 2 abcB blankB _ rr1 rr2 (by decide) (by decide)).mono ?_
      rintro e w8 ⟨gx, rfl, hBx, hgx, hbx⟩
      rw [abc_xor] at hBx ⊢
      have hcx := hBx.conv 2 2 (by decide)
      have b8 := b7.trans (hbx.mono b7.size)
      have hcx' : Sem.run Tryd.prog (convert 29 9 (.slice (some ⟨gx, 0, none⟩) 2 2)) w8 = .ok (.string ⟨#[65, 66]⟩) w8 := hcx
      have HB8 := hide b8
      clear rr1 rr2 b7 hBx hbx hcx b8 hgx hcv hcv3
      go_wp2_with fail
      go_ret
      exact ⟨rfl, HB8.out⟩
end Go.Proofs.YtjdffceeinflcaaDoor
