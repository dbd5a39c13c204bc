/-
  The document's hi and Windows by contracts. What lay when a call began lies as it lay.
-/
import Derived.Test.YtcnnekdeakfjeaaWn3
namespace Go.Proofs.Ytcnnekdeakfjeaa
set_option linter.unusedVariables false
open Go.RowKit

theorem hiN_lt {s : Nat} {d : List Nat} {L K : Nat} (hs : s < 18446744073709551616) (hL : L < 18446744073709551616) (hK : K < 18446744073709551616) (hd : ∀ x ∈ d, x < 4294967296) (k : Nat) (hk : k ≤ 5) : earl s d k + (k + 1) * L + K < 18446744073709551616 * 20 := by
  have := earl_lt hs hd k hk
  have : (k + 1) * L ≤ 6 * L := Nat.mul_le_mul_right _ (by omega)
  omega

set_option maxHeartbeats 2000000 in
theorem rhi_any (s : Nat) (A : Option Addr) (n c i : Nat) (d : List Nat) (L K : Nat) (w : World) (hs : s < 18446744073709551616) (hL : L < 18446744073709551616) (hK : K < 18446744073709551616) (hd : ∀ x ∈ d, x < 4294967296)
    (hA : Rds w A n (cellsI .u32 d)) (hi : i < n) (h5 : n ≤ 5) :
    Calls Try.prog 19 #[.int .u64 (s : Int), .slice A n c, .int .u64 (L : Int), .int .u64 (K : Int), .int .i64 (i : Int)] w (fun en w' => en = .returned (.agg #[.int .u64 (bh (hiN s d L K i)), .int .u64 (bl (hiN s d L K i))]) ∧ Below w.heap.size w w') := by
  have HC := hide (fun W (hW : Below w.heap.size w W) => rearl_any s A n c i d W hs hd (hA.below hW) (by omega) h5)
  have hlt := hiN_lt hs hL hK hd i (by omega)
  have HLT := hide hlt
  have HL := hide hL
  have HK := hide hK
  clear hA hd hs hL hK hlt
  go_enter Try.func19, Try.ntmps19
  go_wp2_with fail
  refine (HC.out _ (below1 _ _)).mono ?_
  rintro e w1 ⟨rfl, hb1⟩
  obtain ⟨E, hE⟩ : ∃ E, E = earl s d i := ⟨_, rfl⟩
  rw [← hE] at HLT
  rw [← hE]
  have HHN : Hid (hiN s d L K i = E + (i + 1) * L + K) := by rw [hE]; rfl
  have hR : Blk (w.alloc (.cells #[.int .u64 0, .int .u64 0] 53)) w.heap.size 53 #[.int .u64 0, .int .u64 0] := Blk.new _ _ _
  have hR1 := hR.frm (Frm.of_below (S := fun _ => False) hb1) id
  have hW1 : Below w.heap.size w w1 := below_frm (below1 w (.cells #[.int .u64 0, .int .u64 0] 53)) (Frm.of_below (S := fun _ => False) hb1) (by simp) (fun _ h => h.elim)
  have HR1 := hide hR1
  have HW1 := hide hW1
  clear hE hR hR1 hW1 hb1 HC
  go_wp2_with fail
  go_loopw [12] (fun v wr => ∃ (k : Nat), k ≤ i + 1 ∧ v = .int .i64 k ∧ Blk wr w.heap.size 53 #[.int .u64 0, .int .u64 0] ∧ Blk wr w1.heap.size 53 #[.int .u64 (bh (E + k * L)), .int .u64 (bl (E + k * L))] ∧ Below w.heap.size w wr) (fun v _ => i + 1 - (intOf v).toNat)
  case atStart => exact ⟨0, by omega, rfl, HR1.out.frm (Frm.alloc _ _ (fun _ => False)) id, by simpa using Blk.new w1 _ _, below_frm HW1.out (Frm.alloc _ _ (fun _ => False)) HW1.out.size (fun _ h => h.elim)⟩
  case round =>
    obtain ⟨k, hk, rfl, hb0, hb1, hbw⟩ := hrel
    have HB0 := hide hb0
    have HB1 := hide hb1
    have HBW := hide hbw
    have HNE : Hid (w.heap.size < w1.heap.size) := HR1.out.lt
    clear hb0 hb1 hbw HR1 HW1
    by_cases hlt : k ≤ i
    · have hki : (k : Int) ≤ (i : Int) := by omega
      have HKL : Hid (E + k * L < 18446744073709551616000) := by
        have : k * L ≤ (i + 1) * L := Nat.mul_le_mul_right _ (by omega)
        have := HLT.out
        show _ < _
        omega
      have HNX : Hid (E + k * L + L = E + (k + 1) * L) := by show _ = _; rw [Nat.add_mul, Nat.one_mul, Nat.add_assoc]
      obtain ⟨N, hN⟩ : ∃ N, N = E + k * L := ⟨_, rfl⟩
      rw [← hN] at HB1 HKL HNX
      clear hN
      go_wp2_with (refine wpl_loada agg_big rfl (.tmp 11) rfl w1.heap.size 0 rfl _ [.int .u64 (bh N), .int .u64 (bl N)] [.int .u64 (bh N), .int .u64 (bl N)] HB1.out rfl (by simp) ?_)
      refine (plus_any N L _ HKL.out HL.out).mono ?_
      rintro e w2 ⟨rfl, hb2⟩
      have F2 : Frm (fun _ => False) wr w2 := Frm.of_below hb2
      have HB0' := hide (HB0.out.frm F2 id)
      have HB1' := hide (HB1.out.frm F2 id)
      have HBW' := hide (below_frm HBW.out F2 HBW.out.size (fun _ h => h.elim))
      clear hb2 F2 HB0 HB1 HBW
      rw [HNX.out]
      obtain ⟨M, hM⟩ : ∃ M, M = E + (k + 1) * L := ⟨_, rfl⟩
      rw [← hM]
      have HM := hide hM
      clear hM HNX
      go_wp2_with (refine wpl_storea agg_big rfl (.tmp 11) (.tmp 24) rfl w1.heap.size [.int .u64 (bh M), .int .u64 (bl M)] rfl rfl _ _ HB1'.out rfl rfl (two_one _ _ _) ?_; intro w3 hb3 hf3; have HB3 := hide hb3; have HF3 := hide hf3; clear hb3 hf3)
      go_roundw
      case rel => exact ⟨k + 1, by omega, by go_num, HB0'.out.frm HF3.out (by have := HNE.out; omega), by rw [← HM.out]; exact HB3.out, below_frm HBW'.out HF3.out HBW'.out.size (fun k e => by have := HNE.out; omega)⟩
      case measure => simp [intOf]; omega
    · obtain rfl : k = i + 1 := by omega
      have hkk : ¬ ((i : Int) + 1 ≤ (i : Int)) := by omega
      obtain ⟨N, hN⟩ : ∃ N, N = E + (i + 1) * L := ⟨_, rfl⟩
      rw [← hN] at HB1 HLT HHN
      clear hN
      go_wp2_with (refine wpl_loada agg_big rfl (.tmp 11) rfl w1.heap.size 0 rfl _ [.int .u64 (bh N), .int .u64 (bl N)] [.int .u64 (bh N), .int .u64 (bl N)] HB1.out rfl (by simp) ?_)
      refine (plus_any N K _ (by have := HLT.out; omega) HK.out).mono ?_
      rintro e w2 ⟨rfl, hb2⟩
      have F2 : Frm (fun _ => False) wr w2 := Frm.of_below hb2
      have HB0' := hide (HB0.out.frm F2 id)
      have HBW' := hide (below_frm HBW.out F2 HBW.out.size (fun _ h => h.elim))
      clear hb2 F2 HB0 HB1 HBW
      rw [← HHN.out]
      obtain ⟨M, hM⟩ : ∃ M, M = hiN s d L K i := ⟨_, rfl⟩
      rw [← hM]
      have HM := hide hM
      clear hM HHN
      go_wp2_with (refine wpl_storea agg_big rfl (.tmp 10) (.tmp 27) rfl w.heap.size [.int .u64 (bh M), .int .u64 (bl M)] rfl rfl _ _ HB0'.out rfl rfl (two_one _ _ _) ?_; intro w3 hb3 hf3)
      exact ret_agg agg_big rfl rfl _ _ [_, _] rfl hb3 rfl ⟨by rw [HM.out], below_frm HBW'.out hf3 HBW'.out.size (fun k e => by omega)⟩
end Go.Proofs.Ytcnnekdeakfjeaa
