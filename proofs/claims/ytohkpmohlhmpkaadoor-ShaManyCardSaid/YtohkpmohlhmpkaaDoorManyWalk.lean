/-
  ShaMany, walked.
-/
import Derived.Test.YtohkpmohlhmpkaaDoorSha9
namespace Go.Proofs.YtohkpmohlhmpkaaDoor
set_option linter.unusedVariables false
open Go.RowKit

theorem take_more (l : List UInt8) (i s m : Nat) (hi : i < l.length) (hm : m = Nat.min (i + s) l.length) : l.take i ++ (l.drop i).take (m - i) = l.take (i + s) := by
  have h1 : l.take (i + s) = l.take m := by
    subst hm
    apply List.ext_getElem?
    intro j
    rw [List.getElem?_take, List.getElem?_take]
    have : Nat.min (i + s) l.length = min (i + s) l.length := rfl
    split <;> split <;> first | rfl | omega | (rw [List.getElem?_eq_none (by omega)])
  have h2 : i ≤ m := by rw [hm]; exact Nat.le_min.2 ⟨by omega, by omega⟩
  rw [h1]
  conv => rhs; rw [show m = i + (m - i) by omega, List.take_add]

structure ManyInv2 (w : World) (ga gs : Nat) (l p : List UInt8) (wr : World) : Prop where
  all : Blk wr ga 5 (cellsB l).toArray
  st : St wr gs p
  gl : Gl wr
  below : Below w.heap.size w wr

structure ManyInv (w : World) (ga : Nat) (l : List UInt8) (wr : World) : Prop where
  all : Blk wr ga 5 (cellsB l).toArray
  gl : Gl wr
  below : Below w.heap.size w wr

set_option maxHeartbeats 4000000 in
theorem many_walk (n size a b : Int) (w : World) (hG : Gl w) (hg0 : 2 ≤ w.heap.size) (ha : 0 ≤ a ∧ a < 256) (hb : 0 ≤ b ∧ b < 256) :
    Calls Tryd.prog 10 #[.int .i64 n, .int .i64 size, .int .u8 a, .int .u8 b] w fun e w' => e = .returned (.bool true) ∧ Below w.heap.size w w' := by
  obtain ⟨x, hx, hx6⟩ := mask_nat n
  obtain ⟨y, hy, hy6⟩ := mask_nat size
  obtain ⟨N, hN⟩ : ∃ N, N = x % 20001 := ⟨_, rfl⟩
  obtain ⟨s, hs⟩ : ∃ s, s = y % 500 := ⟨_, rfl⟩
  have e1 : (x : Int) % 20001 = (N : Int) := by omega
  have e2 : (y : Int) % 500 = (s : Int) := by omega
  have hN2 : N ≤ 20000 := by omega
  have hs2 : s ≤ 499 := by omega
  clear hN hs
  go_enter Tryd.func10, Tryd.ntmps10
  go_wp2_with fail
  refine (shown_any w hG hg0).mono ?_
  rintro e w1 ⟨rfl, hb1⟩
  have hF1 : Frm (fun _ => False) w w1 := Frm.of_below hb1
  have hG1 := hG.frm hF1 (fun h => h) (fun h => h)
  go_wp2_with ((with_reducible refine wpl_make8 (op := ⟨some 23, _, _, _, _, _⟩) rfl _ rfl _ _ N rfl e1 (by omega) ?_); intro ga w2 hB2 hsa hF2)
  try simp only [e1, e2]
  have hst : ManyInv w ga (List.replicate N 0) w2 := ⟨hB2, hG1.frm hF2 (fun h => h) (fun h => h), below_frm hb1 hF2 hb1.size (fun k hk => hk.elim)⟩
  have hga : w.heap.size ≤ ga := by have := hb1.size; omega
  have HI := hide hst
  clear hst hB2 hF2 hG1 hF1 hb1 hG
  go_loopw [11] (fun i wr => ∃ (k : Nat) (l : List UInt8), k ≤ N ∧ i = .int .i64 k ∧ l.length = N ∧ ManyInv w ga l wr) (fun i _ => N - (intOf i).toNat)
  case atStart => exact ⟨0, _, by omega, rfl, by simp, HI.out⟩
  case round =>
    clear HI
    obtain ⟨k, l, hk, rfl, hl, hi⟩ := hrel
    have HL := hide hl
    by_cases hlt : k < N
    · have hc : (wr.cell? ⟨ga, k, none⟩).isSome = true := by
        rw [hi.all.cell, List.getElem?_toArray, List.getElem?_eq_getElem (by rw [cellsB_length]; omega)]
        rfl
      obtain ⟨vo, hvo⟩ := Option.isSome_iff_exists.1 hc
      have hfr := hi.all.frozen k
      clear hc hl
      go_wp2_with fail
      go_roundw
      case rel =>
        obtain ⟨l', hl', hb'⟩ := set_byte hi.all k _
        exact ⟨k + 1, l', by omega, by go_num, by rw [hl']; exact HL.out, ⟨hb', hi.gl.frm (Frm.setCell _ _ _ (fun i => i = ga) rfl) (by omega) (by omega), below_frm hi.below (Frm.setCell _ _ _ (fun i => i = ga) rfl) hi.below.size (fun i hi => by omega)⟩⟩
      case measure => simp [intOf]; omega
    · obtain rfl : k = N := by omega
      clear hl
      go_wp2_with ((with_reducible refine wpl_alloca (op := ⟨some 12, _, _, _, _, _⟩) rfl _ rfl _ zeroS ?_); intro gs w3 hB3 hs3 hF3)
      have hne : ga ≠ gs := by have := hi.all.lt; omega
      have hgs : w.heap.size ≤ gs := by have := hi.below.size; omega
      have H2 : Hid (ManyInv2 w ga gs l (l.take 0) w3) := ⟨hi.all.frm hF3 (fun h => h), St_nil hB3, hi.gl.frm hF3 (fun h => h) (fun h => h), below_frm hi.below hF3 hi.below.size (fun k hk => hk.elim)⟩
      clear hi hB3 hF3
      go_loopw [13] (fun i wr => ∃ j : Nat, j ≤ k + 500 ∧ i = .int .i64 j ∧ ManyInv2 w ga gs l (l.take j) wr) (fun i _ => k + 500 - (intOf i).toNat)
      case atStart => exact ⟨0, by omega, rfl, H2.out⟩
      case round =>
        clear H2
        obtain ⟨j, hj, rfl, hi⟩ := hrel
        by_cases hlt : j < k
        · obtain ⟨m, HM, hm1, hm2, hm3⟩ := nat_min (j + (1 + s)) k
          have hjm : j ≤ m := by rw [hm3]; exact Nat.le_min.2 ⟨by omega, by omega⟩
          have hll := HL.out
          have hsrc := hi.all.src hne j (m - j) (by omega)
          have hlen : ((l.drop j).take (m - j)).length = m - j := by rw [List.length_take, List.length_drop]; omega
          have hw := write_any gs (l.take j) ((l.drop j).take (m - j)) (some ⟨ga, j, none⟩) (k - j) wr hi.gl hi.st (by rw [hlen]; exact hsrc) (by rw [hlen]; omega) (by omega) (by rw [hlen, List.length_take]; omega)
          rw [take_more l j (1 + s) m (by omega) (by rw [hll]; exact hm3), hlen] at hw
          have HW := hide hw
          have HA := hide hi.all
          have HG := hide hi.gl
          have HB := hide hi.below
          have HM' : Hid ((m : Int) = if (k : Int) < (j : Int) + (1 + (s : Int)) then (k : Int) else (j : Int) + (1 + (s : Int))) := by show _ = _; have := HM.out; simpa using this
          have HM3 := hide hm3
          clear hw hsrc hlen hll hi hm3
          go_wp2_with (with_reducible refine wpl_min rfl (.tmp 49) (.tmp 50) _ _ rfl _ _ _ (m : Int) rfl rfl HM'.out ?_)
          refine HW.out.mono ?_
          rintro e w5 ⟨rfl, hst5, hF5⟩
          have FIN : Hid (ManyInv2 w ga gs l (l.take (j + (1 + s))) w5) := ⟨HA.out.frm hF5 hne, hst5, HG.out.frm hF5 (by omega) (by omega), below_frm HB.out hF5 HB.out.size (fun k hk => by omega)⟩
          go_wp2_with fail
          go_roundw
          case rel => first | exact ⟨j + (1 + s), by omega, by go_num, FIN.out⟩ | ((repeat apply Exists.intro); exact ⟨⟨j + (1 + s), by omega, by go_num, FIN.out⟩, rfl⟩)
          case measure => simp [intOf]; omega
        · have hall : l.take j = l := List.take_of_length_le (by rw [HL.out]; omega)
          rw [hall] at hi
          have hll := HL.out
          have HS := hide (sum_any gs l wr hi.gl hi.st (by have := hi.below.size; omega) (by omega))
          have HA := hide hi.all
          have HG := hide hi.gl
          have HB := hide hi.below
          have hq := eq_same (shaL l) (shaL_length l)
          have hgd := guard32
          clear hi hall hll
          go_wp2_with fail
          refine HS.out.mono ?_
          rintro e w6 ⟨rfl, hb6⟩
          have hF6 : Frm (fun _ => False) wr w6 := Frm.of_below hb6
          have hA6 := HA.out.frm hF6 (fun h => h)
          have hG6 := HG.out.frm hF6 (fun h => h) (fun h => h)
          have hB6 := HB.out.trans (hb6.mono HB.out.size)
          have hp6 : Prt w6 (.slice (some ⟨ga, 0, none⟩) k k) l := ⟨_, k, by rw [HL.out], by rw [HL.out]; exact Nat.le_refl _, by have := hA6.rds; rwa [cellsB_length] at this⟩
          have hps := one_part w6 _ l 24 hp6
          have hF7 : Frm (fun _ => False) w6 (w6.alloc (.cells #[.slice (some ⟨ga, 0, none⟩) k k] 24)) := Frm.alloc _ _ _
          have hs7 := sums_any (some ⟨w6.heap.size, 0, none⟩) 1 _ [l] _ (hG6.frm hF7 (fun h => h) (fun h => h)) hps (by have := hB6.size; have := hF7.size; omega) (by simp; have := HL.out; omega) (by simp)
          rw [show [l].flatten = l by simp] at hs7
          have HS7 := hide hs7
          have hB7 := below_frm hB6 hF7 hB6.size (fun k hk => hk.elim)
          clear hs7 hps hp6 hA6 hG6 hB6 hF7 hF6 hb6 HS
          go_wp2_with fail
          refine HS7.out.mono ?_
          rintro e w8 ⟨rfl, hb8⟩
          have hB8 := hB7.trans (hb8.mono hB7.size)
          go_wp2_with fail
          go_ret
          exact ⟨rfl, hB8⟩
end Go.Proofs.YtohkpmohlhmpkaaDoor
