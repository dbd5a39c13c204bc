/-
  OctetsZeros: the walk.
-/
import Derived.Test.YtiamopkdapdpaaaShown
import Derived.Test.YtiamopkdapdpaaaLaws
import Derived.BigQuiet
import Derived.Deep.QuietTactic
namespace Go.Proofs.Ytiamopkdapdpaaa
set_option linter.unusedVariables false
open Go.RowKit

theorem below_drewN {B : Nat} {w w' : World} (h : Below B w w') (q : Nat) : Below B w (w'.drewN q) := ⟨h.os, h.tape, h.output, h.size, h.block⟩

theorem nat_min (n k : Nat) : ∃ m : Nat, Hid (((m : Nat) : Int) = if (k : Int) < (n : Int) then (k : Int) else (n : Int)) ∧ m ≤ n ∧ m ≤ k := by
  by_cases h : k < n
  · exact ⟨k, by unfold Hid; rw [if_pos (by omega)], by omega, by omega⟩
  · exact ⟨n, by unfold Hid; rw [if_neg (by omega)], by omega, by omega⟩

set_option maxHeartbeats 4000000 in
set_option maxRecDepth 100000 in
theorem zeros_walk (a0 : Option Addr) (len0 cap0 : Nat) (la : List UInt8) (n : Int) (a1 : Option Addr) (len1 cap1 : Nat) (lb : List UInt8) (w : World) (h0 : Rds w a0 len0 (cellsB la)) (hc0 : len0 ≤ cap0) (hm0 : cap0 ≤ 9223372036854775807) (hn0 : -9223372036854775808 ≤ n) (hn1 : n ≤ 9223372036854775807) (h1 : Rds w a1 len1 (cellsB lb)) (hc1 : len1 ≤ cap1) (hm1 : cap1 ≤ 9223372036854775807) :
    Calls Try.prog 8 #[.slice a0 len0 cap0, .int .i64 n, .slice a1 len1 cap1] w fun e w' => e = .returned (.bool true) ∧ Below w.heap.size w w' := by
  obtain ⟨ma, HA, ha1, ha2⟩ := nat_min len0 50
  obtain ⟨mb, HB, hb1, hb2⟩ := nat_min len1 50
  obtain ⟨k, HK, hk1, hk2⟩ : ∃ k : Int, Hid (k = if (100 : Int) < n then 100 else n) ∧ k ≤ 100 ∧ -9223372036854775808 ≤ k := by
    by_cases h : 100 < n
    · exact ⟨100, by unfold Hid; rw [if_pos h], by omega, by omega⟩
    · exact ⟨n, by unfold Hid; rw [if_neg h], by omega, by omega⟩
  obtain ⟨z, HZ, hz1⟩ : ∃ z : Nat, Hid ((z : Int) = if (0 : Int) > k then 0 else k) ∧ z ≤ 100 := by
    by_cases h : 0 > k
    · exact ⟨0, by unfold Hid; rw [if_pos h]; rfl, by omega⟩
    · exact ⟨k.toNat, by unfold Hid; rw [if_neg h]; omega, by omega⟩
  have HRA := hide (h0.take ma ha1)
  have HRB := hide (h1.take mb hb1)
  rw [cellsB_take] at HRA HRB
  have hlA : (la.take ma).length = ma := by have := HRA.out.1; rwa [cellsB_length] at this
  have hlB : (lb.take mb).length = mb := by have := HRB.out.1; rwa [cellsB_length] at this
  have HLA := hide hlA
  have HLB := hide hlB
  clear hlA hlB
  generalize la.take ma = xa at *
  generalize lb.take mb = xb at *
  go_enter Try.func8, Try.ntmps8
  go_wp2_with fail
  refine (shown_any _).mono ?_
  rintro e w1 ⟨rfl, hb1⟩
  go_wp2_with (first | (refine wpl_min rfl (.tmp 14) (.const (.int .i64 50)) _ _ rfl _ (len0 : Int) 50 (ma : Int) rfl rfl HA.out ?_) | (refine wpl_min rfl (.tmp 19) (.const (.int .i64 50)) _ _ rfl _ (len1 : Int) 50 (mb : Int) rfl rfl HB.out ?_) | (refine wpl_min rfl (.tmp 22) (.const (.int .i64 100)) _ _ rfl _ n 100 k rfl rfl HK.out ?_) | fail)
  have hsz := hb1.size
  have hwr1 := Wr.new w1
  have hbW := hb1.alloc hb1.size (.cells #[.slice none 0 0] 48)
  have hsz1 : w1.heap.size < (w1.alloc (.cells #[.slice none 0 0] 48)).heap.size := by simp
  generalize w1.alloc (.cells #[.slice none 0 0] 48) = W1 at *
  generalize w1.heap.size = gw at *
  refine (wbytes_any gw none [] xa a0 ma cap0 _ hwr1 (by decide) (HRA.out.below hbW) (by omega)).mono ?_
  rintro e w2 ⟨rfl, d2, hwr2, hd2, hf2⟩
  have hb2' := below_frm hbW hf2 hbW.size (fun k hk => by rcases hk with rfl | hk <;> first | omega | cases hk)
  have hd2' : ∀ k, some k = d2 → w.heap.size ≤ k := by
    rcases hd2 with rfl | ⟨j, rfl, hj⟩
    · intro k hk; cases hk
    · intro k hk; injection hk with hk; have := hbW.size; omega
  have Hd2 := hide hd2'
  rw [List.nil_append] at hwr2
  clear hd2 hd2' hwr1 hf2
  go_wp2_with fail
  refine (wzeros_any gw d2 xa k _ hwr2 (by have := HLA.out; omega) (by omega)).mono ?_
  rintro e w3 ⟨rfl, d3, hwr3, hd3, hf3⟩
  have hb3' := below_frm hb2' hf3 hb2'.size (fun k hk => by rcases hk with rfl | hk; omega; exact Hd2.out k hk)
  have hd3' : ∀ k, some k = d3 → w.heap.size ≤ k := by
    rcases hd3 with rfl | ⟨j, rfl, hj⟩
    · exact Hd2.out
    · intro k hk; injection hk with hk; have := hb2'.size; omega
  have Hd3 := hide hd3'
  clear hd3 hd3' hwr2 hf3
  have HKZ : Hid (k.toNat = z) := by
    have := HZ.out
    unfold Hid
    split at this <;> omega
  rw [HKZ.out] at hwr3
  go_wp2_with fail
  refine (wbytes_any gw d3 (xa ++ List.replicate z 0) xb a1 mb cap1 _ hwr3 (by have := HLA.out; rw [List.length_append, List.length_replicate]; omega) (HRB.out.below hb3') (by omega)).mono ?_
  rintro e w4 ⟨rfl, d4, hwr4, hd4, hf4⟩
  have hb4' := below_frm hb3' hf4 hb3'.size (fun k hk => by rcases hk with rfl | hk; omega; exact Hd3.out k hk)
  clear hd4 hwr3 hf4
  have HT : Hid ((xa ++ List.replicate z 0 ++ xb).length = ma + z + mb) := by
    unfold Hid
    rw [List.length_append, List.length_append, List.length_replicate, HLA.out, HLB.out]
  go_wp2_with fail
  refine (wdone_any gw d4 (xa ++ List.replicate z 0 ++ xb) _ hwr4 (by rw [HT.out]; omega)).mono ?_
  rintro e w5 ⟨A9, c9, rfl, hown, hb5⟩
  rw [cellsB_length, HT.out] at hown
  rw [cellsB_length, HT.out]
  have hb5' := hb4'.trans (hb5.mono hb4'.size)
  clear hwr4 hb5
  have hrd := (Seg.of_own hown).rds
  have hcap : ma + z + mb ≤ c9 := by
    obtain ⟨A', c', hv, h1, _⟩ := Seg.of_own hown
    injection hv with _ _ h3
    rw [cellsB_length, HT.out] at h1
    omega
  have hw1 : IntKind.i64.wrap ((ma : Int) + (z : Int)) = (ma : Int) + (z : Int) := IntWalk.i64_in _ (by omega)
  have hw2 : IntKind.i64.wrap ((ma : Int) + (z : Int) + (mb : Int)) = (ma : Int) + (z : Int) + (mb : Int) := IntWalk.i64_in _ (by omega)
  have hw3 : ((ma : Int) + (z : Int)).toNat = ma + z := by omega
  have hp1 : (0 : Int) ≤ (ma : Int) + (z : Int) := by omega
  have hp2 : (ma : Int) + (z : Int) ≤ (ma : Int) + (z : Int) + (mb : Int) := by omega
  have hp3 : (ma : Int) + (z : Int) + (mb : Int) ≤ c9 := by omega
  have hp4 : (ma : Int) ≤ c9 := by omega
  have hcv1 : ∀ q, Sem.run Try.prog (convert 22 9 (.slice A9 ma c9)) (w5.drewN q) = .ok (.string ⟨xa.toArray⟩) (w5.drewN q) := by
    intro q
    refine conv_rds _ _ _ 5 Try.underlying22 Try.underlying5 Try.underlying9 A9 ma c9 xa ?_
    have h := hrd.take ma (by omega)
    rw [cellsB_take, List.append_assoc, List.take_append_of_le_length (by have := HLA.out; omega), List.take_of_length_le (by have := HLA.out; omega)] at h
    exact h
  have hcv2 : ∀ q, Sem.run Try.prog (convert 22 9 (.slice a0 ma cap0)) (w5.drewN q) = .ok (.string ⟨xa.toArray⟩) (w5.drewN q) := fun q =>
    conv_rds _ _ _ 5 Try.underlying22 Try.underlying5 Try.underlying9 a0 ma cap0 xa (HRA.out.below (below_drewN hb5' q))
  have hcv3 : ∀ q, Sem.run Try.prog (convert 22 9 (.slice a1 mb cap1)) (w5.drewN q) = .ok (.string ⟨xb.toArray⟩) (w5.drewN q) := fun q =>
    conv_rds _ _ _ 5 Try.underlying22 Try.underlying5 Try.underlying9 a1 mb cap1 xb (HRB.out.below (below_drewN hb5' q))
  have hcv4 : ∀ q, Sem.run Try.prog (convert 22 9 (.slice (if c9 = ma + z then A9 else A9.map (·.add (ma + z))) mb (c9 - (ma + z)))) (w5.drewN q) = .ok (.string ⟨xb.toArray⟩) (w5.drewN q) := by
    intro q
    refine conv_rds _ _ _ 5 Try.underlying22 Try.underlying5 Try.underlying9 _ mb _ xb ?_
    have h := ((Seg.of_own hown).cut (ma + z) (by omega)).rds
    rw [cellsB_drop, List.drop_append_of_le_length (by rw [List.length_append, List.length_replicate]; have := HLA.out; omega), List.drop_eq_nil_of_le (by rw [List.length_append, List.length_replicate]; have := HLA.out; omega), List.nil_append] at h
    have e : ma + z + mb - (ma + z) = mb := by omega
    rw [e] at h
    exact h
  have he1 : ma + z + mb - (ma + z) = mb := by omega
  have HC : Hid (∀ j, j < z → ∃ g9, A9 = some ⟨g9, 0, none⟩ ∧ w5.cell? ⟨g9, ma + j, none⟩ = some (.int .u8 0)) := by
    intro j hj
    obtain ⟨g9, cap9, hv, _, _⟩ := hown.form (by omega)
    injection hv with hA _ _
    subst hA
    refine ⟨g9, rfl, ?_⟩
    have h := hown.cells (g := g9) rfl (ma + j) (.int .u8 0) (by
      rw [cellsB_get, List.append_assoc, List.getElem?_append_right (by have := HLA.out; omega), HLA.out, List.getElem?_append_left (by rw [List.length_replicate]; omega), List.getElem?_replicate, if_pos (by omega)]
      rfl)
    have hadd : (⟨g9, 0, none⟩ : Addr).add (ma + j) = ⟨g9, ma + j, none⟩ := by unfold Addr.add; split <;> simp_all
    rwa [hadd] at h
  by_cases hcz : c9 = ma + z
  · subst hcz
    simp only [if_true, Nat.sub_self] at hcv4
    go_wp2_with (first | (refine wpl_max rfl (.tmp 35) (.const (.int .i64 0)) _ _ rfl _ k 0 (z : Int) rfl rfl HZ.out ?_) | fail)
    go_quiet (fail)
    by_cases hzz : 0 < z
    · obtain ⟨g9, hA, _⟩ := HC.out 0 hzz
      subst hA
      go_wp2
      go_loop [10] (fun i => ∃ j : Nat, j ≤ z ∧ i = .int .i64 j) (fun i => z - (intOf i).toNat)
      case atStart => exact ⟨0, by omega, rfl⟩
      case round =>
        obtain ⟨j, hj, rfl⟩ := hrel
        by_cases hlt : j < z
        · obtain ⟨g9', hg9, hck⟩ := HC.out j hlt
          injection hg9 with hg9
          injection hg9 with hg9
          subst hg9
          go_wp2
          go_round
          case rel => exact ⟨j + 1, by omega, by go_num⟩
          case measure => simp [intOf]; omega
        · go_wp2
          go_ret
          exact ⟨rfl, below_drewN hb5' nq⟩
    · have hz0 : ¬ (0 : Int) < z := by omega
      go_wp2
      go_loop [10] (fun i => ∃ j : Nat, j ≤ z ∧ i = .int .i64 j) (fun i => z - (intOf i).toNat)
      case atStart => exact ⟨0, by omega, rfl⟩
      case round =>
        obtain ⟨j, hj, rfl⟩ := hrel
        by_cases hlt : j < z
        · omega
        · go_wp2
          go_ret
          exact ⟨rfl, below_drewN hb5' nq⟩
  · simp only [hcz, if_false] at hcv4
    go_wp2_with (first | (refine wpl_max rfl (.tmp 35) (.const (.int .i64 0)) _ _ rfl _ k 0 (z : Int) rfl rfl HZ.out ?_) | fail)
    go_quiet (fail)
    by_cases hzz : 0 < z
    · obtain ⟨g9, hA, _⟩ := HC.out 0 hzz
      subst hA
      go_wp2
      go_loop [10] (fun i => ∃ j : Nat, j ≤ z ∧ i = .int .i64 j) (fun i => z - (intOf i).toNat)
      case atStart => exact ⟨0, by omega, rfl⟩
      case round =>
        obtain ⟨j, hj, rfl⟩ := hrel
        by_cases hlt : j < z
        · obtain ⟨g9', hg9, hck⟩ := HC.out j hlt
          injection hg9 with hg9
          injection hg9 with hg9
          subst hg9
          go_wp2
          go_round
          case rel => exact ⟨j + 1, by omega, by go_num⟩
          case measure => simp [intOf]; omega
        · go_wp2
          go_ret
          exact ⟨rfl, below_drewN hb5' nq⟩
    · have hz0 : ¬ (0 : Int) < z := by omega
      go_wp2
      go_loop [10] (fun i => ∃ j : Nat, j ≤ z ∧ i = .int .i64 j) (fun i => z - (intOf i).toNat)
      case atStart => exact ⟨0, by omega, rfl⟩
      case round =>
        obtain ⟨j, hj, rfl⟩ := hrel
        by_cases hlt : j < z
        · omega
        · go_wp2
          go_ret
          exact ⟨rfl, below_drewN hb5' nq⟩
end Go.Proofs.Ytiamopkdapdpaaa
