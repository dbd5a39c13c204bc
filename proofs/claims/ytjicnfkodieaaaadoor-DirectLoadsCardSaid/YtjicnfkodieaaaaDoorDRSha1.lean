/-
  The document's own words for numbers, tables and turns.
-/
import Derived.Test.YtjicnfkodieaaaaDoorDSha11
namespace Go.Proofs.YtjicnfkodieaaaaDoor
set_option linter.unusedVariables false
open Go.RowKit

theorem txt_append (a b : List UInt8) : ((⟨a.toArray⟩ : ByteArray) ++ ⟨b.toArray⟩) = ⟨(a ++ b).toArray⟩ := by
  apply ByteArray.ext
  simp [ByteArray.data_append]
theorem be_succ (w n : Nat) : be (w + 1) n = UInt8.ofNat (n / 256 ^ w) :: be w n := by
  unfold be
  rw [List.range_succ_eq_map, List.map_cons, List.map_map]
  congr 1
  apply List.map_congr_left
  intro j hj
  have : w - (j + 1) = w - 1 - j := by omega
  simp [this]

set_option maxHeartbeats 2000000 in
theorem text_any (n : Nat) (s : Nat) (w : World) (hs : s ≤ 8) (hn : n < 18446744073709551616) :
    Calls Tryd.prog 56 #[.int .u64 (n : Int), .int .i64 (s : Int)] w fun e w' => e = .returned (.string ⟨(be s n).toArray⟩) ∧ Below w.heap.size w w' := by
  go_enter Tryd.func56, Tryd.ntmps56
  go_wp2_with fail
  go_loopw [0, 5, 6] (fun x t i wr => ∃ k : Nat, k ≤ s ∧ i = .int .i64 k ∧ x = .int .u64 ((n / 256 ^ k : Nat) : Int) ∧ t = .string ⟨(be k n).toArray⟩ ∧ Below w.heap.size w wr) (fun _ _ i _ => s - (intOf i).toNat)
  case atStart => exact ⟨0, by omega, rfl, by simp, rfl, Below.refl _ _⟩
  case round =>
    obtain ⟨k, hk, rfl, rfl, rfl, hbel⟩ := hrel
    by_cases hlt : k < s
    · have HY : Hid (n / 256 ^ (k + 1) = n / 256 ^ k / 256) := by unfold Hid; rw [Nat.pow_succ, Nat.div_div_eq_div_mul]
      have HB := hide (be_succ k n)
      have hyl : n / 256 ^ k < 18446744073709551616 := Nat.lt_of_le_of_lt (Nat.div_le_self _ _) hn
      generalize n / 256 ^ k = y at *
      have hcv : Sem.run Tryd.prog (convert 50 9 (.slice (some ⟨wr.heap.size, 0, none⟩) 1 1)) (wr.alloc (.cells #[.int .u8 ((y : Int) % 256)] 5)) = .ok (.string ⟨#[UInt8.ofNat y]⟩) (wr.alloc (.cells #[.int .u8 ((y : Int) % 256)] 5)) := by
        refine conv_rds _ _ _ 5 Tryd.underlying50 Tryd.underlying5 Tryd.underlying9 _ 1 1 [UInt8.ofNat y] ?_
        have e : cellsB [UInt8.ofNat y] = [.int .u8 ((y : Int) % 256)] := by
          simp only [cellsB, List.map_cons, List.map_nil, UInt8.toNat_ofNat']
          rfl
        rw [e]
        exact Rds.new1 _ _ _
      have hap : ((⟨#[UInt8.ofNat y]⟩ : ByteArray) ++ ⟨(be k n).toArray⟩) = ⟨(be (k + 1) n).toArray⟩ := by
        rw [HB.out]
        exact txt_append [UInt8.ofNat y] (be k n)
      have hbl : (be k n).length = k := be_length _ _
      go_wp2
      go_roundw
      case rel => exact ⟨k + 1, by omega, by go_num, by rw [HY.out]; simp, rfl, hbel.alloc hbel.size _⟩
      case measure => simp [intOf]; omega
    · obtain rfl : k = s := by omega
      go_wp2
      go_ret
      exact ⟨rfl, hbel⟩

set_option maxHeartbeats 2000000 in
theorem num_any (l : List UInt8) (w : World) (hl : l.length = 4) :
    Calls Tryd.prog 44 #[.string ⟨l.toArray⟩] w fun e w' => e = .returned (.int .u64 (num l : Nat)) ∧ w = w' := by
  have HL := hide hl
  have hsz : (⟨l.toArray⟩ : ByteArray).size = 4 := by show l.toArray.size = 4; simpa using hl
  clear hl
  go_enter Tryd.func44, Tryd.ntmps44
  go_wp2_with fail
  go_loop [3, 4] (fun n i => ∃ k : Nat, k ≤ 4 ∧ i = .int .i64 k ∧ n = .int .u64 (num (l.take k) : Nat)) (fun _ i => 4 - (intOf i).toNat)
  case atStart => exact ⟨0, by omega, rfl, rfl⟩
  case round =>
    obtain ⟨k, hk, rfl, rfl⟩ := hrel
    by_cases hlt : k < 4
    · have hn := num_take_lt l k 4 (by omega)
      have HT := hide (num_take_succ l k (by rw [HL.out]; exact hlt))
      have hb := (l[k]?.getD 0).toNat_lt
      generalize num (l.take k) = x at *
      have hix : ∀ w, Sem.run Tryd.prog (Instr.index 9 (.string ⟨l.toArray⟩) (.int .i64 (k : Int))) w = .ok (.int .u8 ((l[k]?.getD 0).toNat : Int)) w := by
        intro w
        have hkl : k < l.length := by rw [HL.out]; exact hlt
        have h1 : (⟨l.toArray⟩ : ByteArray)[k]? = some (l[k]?.getD 0) := by
          rw [List.getElem?_eq_getElem hkl]
          exact (dif_pos (show k < (⟨l.toArray⟩ : ByteArray).size by rw [hsz]; exact hlt)).trans (congrArg some rfl)
        simp only [Instr.index, asIntOf, Sem.run_bind, run_underlying under9, Result.andThen_ok]
        simp [h1]
      generalize l[k]?.getD 0 = c at *
      go_wp2_with fail
      go_round
      case rel => exact ⟨k + 1, by omega, by go_num, by rw [HT.out]; simp⟩
      case measure => simp [intOf]; omega
    · obtain rfl : k = 4 := by omega
      have hall : l.take 4 = l := List.take_of_length_le (by rw [HL.out]; exact Nat.le_refl _)
      rw [hall]
      clear hall
      go_wp2_with fail
      go_ret
      exact ⟨rfl, rfl⟩

def rturn (x k : Nat) : Nat := x / 2 ^ k + x % 2 ^ k * 2 ^ (32 - k)
theorem rturn_eq (x k : Nat) (hx : x < 4294967296) (h1 : 1 ≤ k) (h2 : k ≤ 31) : rturn x k = rotN x k := by
  unfold rturn rotN
  have hp : 2 ^ k * 2 ^ (32 - k) = 4294967296 := by rw [← Nat.pow_add, show k + (32 - k) = 32 by omega]
  have h3 : x * 2 ^ (32 - k) % 4294967296 = x % 2 ^ k * 2 ^ (32 - k) := by rw [← hp, Nat.mul_mod_mul_right]
  have h4 : x / 2 ^ k < 2 ^ (32 - k) := (Nat.div_lt_iff_lt_mul (Nat.two_pow_pos k)).2 (by rw [Nat.mul_comm, hp]; exact hx)
  rw [h3, nat_join (32 - k) _ _ (Nat.mul_mod_left _ _) h4, Nat.add_comm]

theorem rturn2 (x : Nat) (w : World) (hx : x < 4294967296) :
    Calls Tryd.prog 58 #[.int .u32 x, .int .i64 2] w fun e w' => e = .returned (.int .u32 (rotN x 2 : Nat)) ∧ ∃ n, w' = w.drewN n := by
  have hr := rturn_eq x 2 hx (by decide) (by decide)
  unfold rturn at hr
  have HR := hide hr
  clear hr
  go_enter Tryd.func58, Tryd.ntmps58
  go_wp2_with fail
  go_quiet (fail)
  go_wp2
  go_ret
  refine ⟨congrArg (fun z => Ending.returned (.int .u32 z)) ?_, _, rfl⟩
  rw [← HR.out]
  omega
theorem rturn6 (x : Nat) (w : World) (hx : x < 4294967296) :
    Calls Tryd.prog 58 #[.int .u32 x, .int .i64 6] w fun e w' => e = .returned (.int .u32 (rotN x 6 : Nat)) ∧ ∃ n, w' = w.drewN n := by
  have hr := rturn_eq x 6 hx (by decide) (by decide)
  unfold rturn at hr
  have HR := hide hr
  clear hr
  go_enter Tryd.func58, Tryd.ntmps58
  go_wp2_with fail
  go_quiet (fail)
  go_wp2
  go_ret
  refine ⟨congrArg (fun z => Ending.returned (.int .u32 z)) ?_, _, rfl⟩
  rw [← HR.out]
  omega
theorem rturn7 (x : Nat) (w : World) (hx : x < 4294967296) :
    Calls Tryd.prog 58 #[.int .u32 x, .int .i64 7] w fun e w' => e = .returned (.int .u32 (rotN x 7 : Nat)) ∧ ∃ n, w' = w.drewN n := by
  have hr := rturn_eq x 7 hx (by decide) (by decide)
  unfold rturn at hr
  have HR := hide hr
  clear hr
  go_enter Tryd.func58, Tryd.ntmps58
  go_wp2_with fail
  go_quiet (fail)
  go_wp2
  go_ret
  refine ⟨congrArg (fun z => Ending.returned (.int .u32 z)) ?_, _, rfl⟩
  rw [← HR.out]
  omega
theorem rturn11 (x : Nat) (w : World) (hx : x < 4294967296) :
    Calls Tryd.prog 58 #[.int .u32 x, .int .i64 11] w fun e w' => e = .returned (.int .u32 (rotN x 11 : Nat)) ∧ ∃ n, w' = w.drewN n := by
  have hr := rturn_eq x 11 hx (by decide) (by decide)
  unfold rturn at hr
  have HR := hide hr
  clear hr
  go_enter Tryd.func58, Tryd.ntmps58
  go_wp2_with fail
  go_quiet (fail)
  go_wp2
  go_ret
  refine ⟨congrArg (fun z => Ending.returned (.int .u32 z)) ?_, _, rfl⟩
  rw [← HR.out]
  omega
theorem rturn13 (x : Nat) (w : World) (hx : x < 4294967296) :
    Calls Tryd.prog 58 #[.int .u32 x, .int .i64 13] w fun e w' => e = .returned (.int .u32 (rotN x 13 : Nat)) ∧ ∃ n, w' = w.drewN n := by
  have hr := rturn_eq x 13 hx (by decide) (by decide)
  unfold rturn at hr
  have HR := hide hr
  clear hr
  go_enter Tryd.func58, Tryd.ntmps58
  go_wp2_with fail
  go_quiet (fail)
  go_wp2
  go_ret
  refine ⟨congrArg (fun z => Ending.returned (.int .u32 z)) ?_, _, rfl⟩
  rw [← HR.out]
  omega
theorem rturn17 (x : Nat) (w : World) (hx : x < 4294967296) :
    Calls Tryd.prog 58 #[.int .u32 x, .int .i64 17] w fun e w' => e = .returned (.int .u32 (rotN x 17 : Nat)) ∧ ∃ n, w' = w.drewN n := by
  have hr := rturn_eq x 17 hx (by decide) (by decide)
  unfold rturn at hr
  have HR := hide hr
  clear hr
  go_enter Tryd.func58, Tryd.ntmps58
  go_wp2_with fail
  go_quiet (fail)
  go_wp2
  go_ret
  refine ⟨congrArg (fun z => Ending.returned (.int .u32 z)) ?_, _, rfl⟩
  rw [← HR.out]
  omega
theorem rturn18 (x : Nat) (w : World) (hx : x < 4294967296) :
    Calls Tryd.prog 58 #[.int .u32 x, .int .i64 18] w fun e w' => e = .returned (.int .u32 (rotN x 18 : Nat)) ∧ ∃ n, w' = w.drewN n := by
  have hr := rturn_eq x 18 hx (by decide) (by decide)
  unfold rturn at hr
  have HR := hide hr
  clear hr
  go_enter Tryd.func58, Tryd.ntmps58
  go_wp2_with fail
  go_quiet (fail)
  go_wp2
  go_ret
  refine ⟨congrArg (fun z => Ending.returned (.int .u32 z)) ?_, _, rfl⟩
  rw [← HR.out]
  omega
theorem rturn19 (x : Nat) (w : World) (hx : x < 4294967296) :
    Calls Tryd.prog 58 #[.int .u32 x, .int .i64 19] w fun e w' => e = .returned (.int .u32 (rotN x 19 : Nat)) ∧ ∃ n, w' = w.drewN n := by
  have hr := rturn_eq x 19 hx (by decide) (by decide)
  unfold rturn at hr
  have HR := hide hr
  clear hr
  go_enter Tryd.func58, Tryd.ntmps58
  go_wp2_with fail
  go_quiet (fail)
  go_wp2
  go_ret
  refine ⟨congrArg (fun z => Ending.returned (.int .u32 z)) ?_, _, rfl⟩
  rw [← HR.out]
  omega
theorem rturn22 (x : Nat) (w : World) (hx : x < 4294967296) :
    Calls Tryd.prog 58 #[.int .u32 x, .int .i64 22] w fun e w' => e = .returned (.int .u32 (rotN x 22 : Nat)) ∧ ∃ n, w' = w.drewN n := by
  have hr := rturn_eq x 22 hx (by decide) (by decide)
  unfold rturn at hr
  have HR := hide hr
  clear hr
  go_enter Tryd.func58, Tryd.ntmps58
  go_wp2_with fail
  go_quiet (fail)
  go_wp2
  go_ret
  refine ⟨congrArg (fun z => Ending.returned (.int .u32 z)) ?_, _, rfl⟩
  rw [← HR.out]
  omega
theorem rturn25 (x : Nat) (w : World) (hx : x < 4294967296) :
    Calls Tryd.prog 58 #[.int .u32 x, .int .i64 25] w fun e w' => e = .returned (.int .u32 (rotN x 25 : Nat)) ∧ ∃ n, w' = w.drewN n := by
  have hr := rturn_eq x 25 hx (by decide) (by decide)
  unfold rturn at hr
  have HR := hide hr
  clear hr
  go_enter Tryd.func58, Tryd.ntmps58
  go_wp2_with fail
  go_quiet (fail)
  go_wp2
  go_ret
  refine ⟨congrArg (fun z => Ending.returned (.int .u32 z)) ?_, _, rfl⟩
  rw [← HR.out]
  omega
set_option maxHeartbeats 2000000 in
set_option maxRecDepth 100000 in
theorem k_any (i : Nat) (w : World) (hi : i < 64) :
    Calls Tryd.prog 59 #[.int .i64 i] w fun e w' => e = .returned (.int .u32 (kL.getD i 0 : Nat)) ∧ Below w.heap.size w w' := by
  have hc : (w.alloc (.cells #[.int .u32 1116352408, .int .u32 1899447441, .int .u32 3049323471, .int .u32 3921009573, .int .u32 961987163, .int .u32 1508970993, .int .u32 2453635748, .int .u32 2870763221, .int .u32 3624381080, .int .u32 310598401, .int .u32 607225278, .int .u32 1426881987, .int .u32 1925078388, .int .u32 2162078206, .int .u32 2614888103, .int .u32 3248222580, .int .u32 3835390401, .int .u32 4022224774, .int .u32 264347078, .int .u32 604807628, .int .u32 770255983, .int .u32 1249150122, .int .u32 1555081692, .int .u32 1996064986, .int .u32 2554220882, .int .u32 2821834349, .int .u32 2952996808, .int .u32 3210313671, .int .u32 3336571891, .int .u32 3584528711, .int .u32 113926993, .int .u32 338241895, .int .u32 666307205, .int .u32 773529912, .int .u32 1294757372, .int .u32 1396182291, .int .u32 1695183700, .int .u32 1986661051, .int .u32 2177026350, .int .u32 2456956037, .int .u32 2730485921, .int .u32 2820302411, .int .u32 3259730800, .int .u32 3345764771, .int .u32 3516065817, .int .u32 3600352804, .int .u32 4094571909, .int .u32 275423344, .int .u32 430227734, .int .u32 506948616, .int .u32 659060556, .int .u32 883997877, .int .u32 958139571, .int .u32 1322822218, .int .u32 1537002063, .int .u32 1747873779, .int .u32 1955562222, .int .u32 2024104815, .int .u32 2227730452, .int .u32 2361852424, .int .u32 2428436474, .int .u32 2756734187, .int .u32 3204031479, .int .u32 3329325298] 35)).cell? ⟨w.heap.size, i, none⟩ = some (.int .u32 (kL.getD i 0 : Nat)) := by
    have := (Blk.new w 35 (cellsW kL).toArray).cell i
    rw [List.getElem?_toArray, cellsW_at kL i hi] at this
    exact this
  have hb : Below w.heap.size w (w.alloc (.cells #[.int .u32 1116352408, .int .u32 1899447441, .int .u32 3049323471, .int .u32 3921009573, .int .u32 961987163, .int .u32 1508970993, .int .u32 2453635748, .int .u32 2870763221, .int .u32 3624381080, .int .u32 310598401, .int .u32 607225278, .int .u32 1426881987, .int .u32 1925078388, .int .u32 2162078206, .int .u32 2614888103, .int .u32 3248222580, .int .u32 3835390401, .int .u32 4022224774, .int .u32 264347078, .int .u32 604807628, .int .u32 770255983, .int .u32 1249150122, .int .u32 1555081692, .int .u32 1996064986, .int .u32 2554220882, .int .u32 2821834349, .int .u32 2952996808, .int .u32 3210313671, .int .u32 3336571891, .int .u32 3584528711, .int .u32 113926993, .int .u32 338241895, .int .u32 666307205, .int .u32 773529912, .int .u32 1294757372, .int .u32 1396182291, .int .u32 1695183700, .int .u32 1986661051, .int .u32 2177026350, .int .u32 2456956037, .int .u32 2730485921, .int .u32 2820302411, .int .u32 3259730800, .int .u32 3345764771, .int .u32 3516065817, .int .u32 3600352804, .int .u32 4094571909, .int .u32 275423344, .int .u32 430227734, .int .u32 506948616, .int .u32 659060556, .int .u32 883997877, .int .u32 958139571, .int .u32 1322822218, .int .u32 1537002063, .int .u32 1747873779, .int .u32 1955562222, .int .u32 2024104815, .int .u32 2227730452, .int .u32 2361852424, .int .u32 2428436474, .int .u32 2756734187, .int .u32 3204031479, .int .u32 3329325298] 35)) := (Frm.alloc w _ (fun _ => False)).below (Nat.le_refl _) (fun _ h => h.elim)
  generalize kL.getD i 0 = v at *
  go_enter Tryd.func59, Tryd.ntmps59
  go_wp2_with fail
  go_ret
  exact ⟨rfl, hb⟩
set_option maxHeartbeats 2000000 in
set_option maxRecDepth 100000 in
theorem h_any (i : Nat) (w : World) (hi : i < 8) :
    Calls Tryd.prog 57 #[.int .i64 i] w fun e w' => e = .returned (.int .u32 (firstL.getD i 0 : Nat)) ∧ Below w.heap.size w w' := by
  have hc : (w.alloc (.cells #[.int .u32 1779033703, .int .u32 3144134277, .int .u32 1013904242, .int .u32 2773480762, .int .u32 1359893119, .int .u32 2600822924, .int .u32 528734635, .int .u32 1541459225] 35)).cell? ⟨w.heap.size, i, none⟩ = some (.int .u32 (firstL.getD i 0 : Nat)) := by
    have := (Blk.new w 35 (cellsW firstL).toArray).cell i
    rw [List.getElem?_toArray, cellsW_at firstL i hi] at this
    exact this
  have hb : Below w.heap.size w (w.alloc (.cells #[.int .u32 1779033703, .int .u32 3144134277, .int .u32 1013904242, .int .u32 2773480762, .int .u32 1359893119, .int .u32 2600822924, .int .u32 528734635, .int .u32 1541459225] 35)) := (Frm.alloc w _ (fun _ => False)).below (Nat.le_refl _) (fun _ h => h.elim)
  generalize firstL.getD i 0 = v at *
  go_enter Tryd.func57, Tryd.ntmps57
  go_wp2_with fail
  go_ret
  exact ⟨rfl, hb⟩
end Go.Proofs.YtjicnfkodieaaaaDoor
