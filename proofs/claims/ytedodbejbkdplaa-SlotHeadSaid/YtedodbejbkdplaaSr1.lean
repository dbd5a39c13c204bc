/-
  The document's noughts, numbers, sixteen bytes, and right slots.
-/
import Derived.Test.YtedodbejbkdplaaSl9
namespace Go.Proofs.Ytedodbejbkdplaa
set_option linter.unusedVariables false
set_option linter.unusedSimpArgs false
open Go.RowKit

set_option maxHeartbeats 1000000 in
theorem zerosref_any (n : Int) (w : World) (hn : n ≤ 100) (hn0 : -9223372036854775808 ≤ n) :
    Calls Try.prog 29 #[.int .i64 n] w fun e w' => e = .returned (.string ⟨(List.replicate n.toNat (0 : UInt8)).toArray⟩) ∧ w = w' := by
  go_enter Try.func29, Try.ntmps29
  go_wp2_with fail
  go_loop [3, 4] (fun s i => ∃ k : Nat, k ≤ n.toNat ∧ i = .int .i64 k ∧ ∃ X : List UInt8, X = List.replicate k 0 ∧ s = .string ⟨X.toArray⟩) (fun _ i => n.toNat - (intOf i).toNat)
  case atStart => exact ⟨0, by omega, rfl, [], rfl, rfl⟩
  case round =>
    obtain ⟨k, hk, rfl, X, hX, rfl⟩ := hrel
    have HX := hide hX
    have HL : Hid (X.length = k) := by rw [hX, List.length_replicate]; rfl
    clear hX
    by_cases hlt : k < n.toNat
    · have hkn : (k : Int) < n := by omega
      have hap : ((⟨X.toArray⟩ : ByteArray) ++ ⟨#[0]⟩) = ⟨(X ++ [0]).toArray⟩ := txt_append X [0]
      have hxl : X.length ≤ 100 := by have := HL.out; omega
      go_wp2
      go_round
      case rel => exact ⟨k + 1, by omega, by go_num, X ++ [0], by rw [HX.out, List.replicate_succ'], rfl⟩
      case measure => simp [intOf]; omega
    · have hkn : ¬ (k : Int) < n := by omega
      obtain rfl : k = n.toNat := by omega
      go_wp2
      go_ret
      exact ⟨by rw [HX.out]; rfl, rfl⟩

set_option maxHeartbeats 2000000 in
theorem numr_any (l : List UInt8) (n : Nat) (w : World) (hl : l.length = n) (hn8 : n ≤ 8) :
    Calls Try.prog 40 #[.string ⟨l.toArray⟩] w fun e w' => e = .returned (.int .u64 (num l : Nat)) ∧ w = w' := by
  have HL := hide hl
  have hsz : (⟨l.toArray⟩ : ByteArray).size = n := by show l.toArray.size = n; simpa using hl
  clear hl
  go_enter Try.func40, Try.ntmps40
  go_wp2_with fail
  go_loop [3, 4] (fun v i => ∃ k : Nat, k ≤ n ∧ i = .int .i64 k ∧ v = .int .u64 (num (l.take k) : Nat)) (fun _ i => n - (intOf i).toNat)
  case atStart => exact ⟨0, by omega, rfl, rfl⟩
  case round =>
    obtain ⟨k, hk, rfl, rfl⟩ := hrel
    by_cases hlt : k < n
    · have hlt' : (k : Int) < (n : Int) := by omega
      have hn := num_take_lt l k 7 (by omega)
      have HT := hide (num_take_succ l k (by rw [HL.out]; exact hlt))
      have hb := (l[k]?.getD 0).toNat_lt
      generalize num (l.take k) = x at *
      have hix : ∀ w, Sem.run Try.prog (Instr.index 9 (.string ⟨l.toArray⟩) (.int .i64 (k : Int))) w = .ok (.int .u8 ((l[k]?.getD 0).toNat : Int)) w := by
        intro w
        have hkl : k < l.length := by rw [HL.out]; exact hlt
        have h1 : (⟨l.toArray⟩ : ByteArray)[k]? = some (l[k]?.getD 0) := by
          rw [List.getElem?_eq_getElem hkl]
          exact (dif_pos (show k < (⟨l.toArray⟩ : ByteArray).size by rw [hsz]; exact hlt)).trans (congrArg some rfl)
        simp only [Instr.index, asIntOf, Sem.run_bind, run_underlying under9, Result.andThen_ok]
        simp [h1]
      generalize l[k]?.getD 0 = c at *
      go_wp2_with fail
      go_round
      case rel => exact ⟨k + 1, by omega, by go_num, by rw [HT.out]; simp⟩
      case measure => simp [intOf]; omega
    · obtain rfl : k = n := by omega
      have hlt' : ¬ (k : Int) < (k : Int) := by omega
      have hall : l.take k = l := List.take_of_length_le (by rw [HL.out]; exact Nat.le_refl _)
      rw [hall]
      clear hall
      go_wp2_with fail
      go_ret
      exact ⟨rfl, rfl⟩

theorem Z16c : (cellsB Z16).length = 16 := rfl
theorem build_16 (w : World) : Sem.run Try.prog (Instr.build 27 #[]) w = .ok (.agg (cellsB Z16).toArray) w := run_build w _ _ _ (by kernel_rfl)
set_option maxHeartbeats 2000000 in
theorem sixteen_any (l : List UInt8) (w : World) (hl : l.length = 16) :
    Calls Try.prog 41 #[.string ⟨l.toArray⟩] w fun e w' => e = .returned (.agg (cellsB l).toArray) ∧ Below w.heap.size w w' := by
  have HL := hide hl
  have HLc : Hid ((cellsB l).length = 16) := by show _ = _; rw [cellsB_length, hl]
  have HM : Hid (∀ k, (mix l Z16 k).length = 16) := fun k => by rw [mix_length l Z16 k (by rw [hl]; rfl)]; rfl
  have hbd := build_16
  clear hl
  go_enter Try.func41, Try.ntmps41
  go_wp2_with (first
    | ((with_reducible refine wpl_alloca (op := ⟨some 2, _, _, _, _, _⟩) rfl _ rfl _ zero16 ?_); intro g2 w2 hB2 hg2 hF2)
    | (refine wpl_held (op := ⟨some 5, _, _, _, _, _⟩) (.agg (cellsB Z16).toArray) (held_build _ _ rfl _ _ (hbd _) rfl) rfl ?_)
    | ((with_reducible refine wpl_alloca (op := ⟨some 3, _, _, _, _, _⟩) rfl _ rfl _ zero16 ?_); intro g3 w3 hB3 hg3 hF3)
    | ((with_reducible refine wpl_storea agg16 rfl (.tmp 3) (.tmp 5) rfl g3 (cellsB Z16) rfl rfl _ _ hB3 Z16c Z16_len (cellsB_one _) ?_); intro w4 hB4 hF4))
  have hF03 := hF2.trans hF3 (fun _ _ h => h)
  have hne : g2 ≠ g3 := by have := hB2.lt; omega
  have hB24 := (hB2.frm hF3 (fun h => h)).frm hF4 hne
  have hb4 : Below w.heap.size w w4 := below_frm (hF03.below (Nat.le_refl _) (fun _ h => h.elim)) hF4 hF03.size (fun k hk => by have := hF2.size; omega)
  have HG : Hid (g2 ≠ g3 ∧ w.heap.size ≤ g2 ∧ w.heap.size ≤ g3) := ⟨hne, hg2, by have := hF2.size; omega⟩
  clear hF2 hF3 hF4 hF03 hB2 hB3 hg2 hg3 hne
  go_loopw [4] (fun i wr => ∃ k : Nat, k ≤ 16 ∧ i = .int .i64 k ∧ Blk wr g3 27 (cellsB (mix l Z16 k)).toArray ∧ Blk wr g2 27 (cellsB Z16).toArray ∧ Below w.heap.size w wr) (fun i _ => 16 - (intOf i).toNat)
  case atStart => exact ⟨0, by omega, rfl, by rw [mix_zero]; exact hB4, hB24, hb4⟩
  case round =>
    clear hB4 hB24 hb4
    obtain ⟨k, hk, rfl, hm, hz, hbl⟩ := hrel
    by_cases hlt : k < 16
    · have hlt' : (k : Int) < 16 := by omega
      have hix := str_index l k (by rw [HL.out]; exact hlt)
      have hcl : (cellsB (mix l Z16 k))[k]? = some (.int .u8 (((mix l Z16 k).getD k 0).toNat : Int)) := getD_byte _ _ (by rw [HM.out]; exact hlt)
      have hc : wr.cell? ⟨g3, k, none⟩ = some (.int .u8 (((mix l Z16 k).getD k 0).toNat : Int)) := by rw [hm.cell, List.getElem?_toArray]; exact hcl
      have hf := hm.frozen k
      have HS : Hid ((mix l Z16 k).set k (l.getD k 0) = mix l Z16 (k + 1)) := mix_set l Z16 k _ (by rw [HL.out]; rfl) (by rw [Z16_length]; exact hlt) (by rw [List.getD_eq_getElem?_getD, List.getElem?_eq_getElem (by rw [HL.out]; exact hlt)]; rfl)
      have h2 := hm.setL k (.int .u8 ((l.getD k 0).toNat : Int))
      rw [cellsB_set, HS.out] at h2
      have H2 := hide h2
      generalize (mix l Z16 k).getD k 0 = old at *
      generalize l.getD k 0 = c at *
      clear h2 hcl
      go_wp2_with fail
      go_roundw
      case rel =>
        have hfr : Frm (fun j => j = g3) wr (wr.setCell ⟨g3, k, none⟩ (.int .u8 (c.toNat : Int))) := Frm.setCell _ _ _ (fun j => j = g3) rfl
        exact ⟨k + 1, by omega, by go_num, H2.out, hz.frm hfr HG.out.1, below_frm hbl hfr hbl.size (fun j hj => by have := HG.out; omega)⟩
      case measure => simp [intOf]; omega
    · obtain rfl : k = 16 := by omega
      rw [mix_all l Z16 16 (by rw [HL.out]; rfl) (by rw [Z16_length]; exact Nat.le_refl _)] at hm
      go_wp2_with (first
        | (with_reducible refine wpl_loada (op := ⟨some 15, _, _, _, _, _⟩) agg16 rfl _ rfl g3 0 rfl _ _ (cellsB l) hm (by rw [List.drop_zero, List.take_of_length_le (by rw [HLc.out]; exact Nat.le_refl _)]) (by rw [HLc.out]; exact Nat.le_refl _) ?_)
        | ((with_reducible refine wpl_storea agg16 rfl (.tmp 2) (.tmp 15) rfl g2 (cellsB l) rfl rfl _ _ hz HLc.out Z16_len (cellsB_one _) ?_); intro w5 hB5 hF5))
      refine ret_agg agg16 rfl rfl g2 _ _ rfl hB5 HLc.out ⟨rfl, ?_⟩
      exact below_frm hbl hF5 hbl.size (fun j hj => by have := HG.out; omega)

theorem rightB_on {s : Slot} (h : s.last = false) : rightB s = (decide (s.lo ≤ s.hi) && nateq s.box 0) := by
  have hr : ∀ n : Nat, nateq n n = true := fun n => by simp [nateq]
  simp [rightB, slotEq, kindM, h, hr]
theorem rightB_last {s : Slot} (h : s.last = true) : rightB s = (decide (s.lo ≤ s.hi) && (nateq s.next 0 && (nateq s.who 0 && (nateq s.epoch 0 && ((s.nonce == Z16) && (s.mac == Z16)))))) := by
  have hr : ∀ n : Nat, nateq n n = true := fun n => by simp [nateq]
  simp [rightB, slotEq, kindM, h, hr]
theorem txt_eq (l m : List UInt8) : ((⟨l.toArray⟩ : ByteArray).toList == (⟨m.toArray⟩ : ByteArray).toList) = (l == m) := by
  rw [ByteArray.toList_eq, ByteArray.toList_eq]

set_option maxHeartbeats 4000000 in
set_option maxRecDepth 100000 in
theorem rightref_any (s : Slot) (hs : s.ok) (w : World) : Calls Try.prog 13 #[.agg (slotC s).toArray] w fun e w' => e = .returned (.bool (rightB s)) ∧ Below w.heap.size w w' := by
  have HRF := hide (rightB_on (s := s))
  have HRT := hide (rightB_last (s := s))
  have HL := hide (slotC_length s hs.nonce hs.mac)
  have HTN := hide (slotC_nonce hs.nonce)
  have HTM := hide (slotC_mac hs.nonce hs.mac)
  have HS := hide hs
  have hsn := slN
  have hsm := slM
  have HN := hide hs.nonce
  have HM := hide hs.mac
  generalize rightB s = R at *
  have hZ : (List.replicate (Int.toNat 16) (0 : UInt8)) = Z16 := rfl
  have hz0 : ((0 : Nat) : Int) = 0 := rfl
  by_cases hlo : s.hi < s.lo
  · have hlo' : (s.hi : Int) < (s.lo : Int) := by omega
    have hd : decide (s.hi < s.lo) = true := decide_eq_true hlo
    have hR : R = false := by
      rcases hb : s.last with _ | _
      · rw [HRF.out hb, decide_eq_false (by omega)]; rfl
      · rw [HRT.out hb, decide_eq_false (by omega)]; rfl
    have HR := hide hR
    clear hlo hR
    go_enter Try.func13, Try.ntmps13
    go_wp2_with ((with_reducible refine wpl_boxa (op := ⟨some 1, _, _, _, _, _⟩) rfl _ _ rfl (slotC s) rfl ?_); intro g1 w1 hB1 hg1 hF1; obtain ⟨c0, c1, c2, c3, c4, c5, c6, c7⟩ := hB1.slot HS.out)
    go_ret
    exact ⟨by rw [HR.out]; rfl, (hF1.below (Nat.le_refl _) (fun _ h => h.elim))⟩
  · have hlo' : ¬ (s.hi : Int) < (s.lo : Int) := by omega
    have hd : decide (s.hi < s.lo) = false := decide_eq_false hlo
    have HLO : Hid (decide (s.lo ≤ s.hi) = true) := decide_eq_true (by omega)
    clear hlo
    rcases hb : s.last with _ | _
    · have HR : Hid (R = nateq s.box 0) := by show _ = _; rw [HRF.out hb, HLO.out, Bool.true_and]
      have hbx : ((s.box : Int) == 0) = nateq s.box 0 := rfl
      have HLA := hide hb
      clear HRF HRT hb
      generalize nateq s.box 0 = bb at *
      go_enter Try.func13, Try.ntmps13
      go_wp2_with ((with_reducible refine wpl_boxa (op := ⟨some 1, _, _, _, _, _⟩) rfl _ _ rfl (slotC s) rfl ?_); intro g1 w1 hB1 hg1 hF1; obtain ⟨c0, c1, c2, c3, c4, c5, c6, c7⟩ := hB1.slot HS.out; rw [HLA.out] at c0)
      go_ret
      exact ⟨by rw [HR.out]; rfl, (hF1.below (Nat.le_refl _) (fun _ h => h.elim))⟩
    · have HR : Hid (R = (nateq s.next 0 && (nateq s.who 0 && (nateq s.epoch 0 && ((s.nonce == Z16) && (s.mac == Z16)))))) := by show _ = _; rw [HRT.out hb, HLO.out, Bool.true_and]
      have h1 : ((s.next : Int) == 0) = nateq s.next 0 := rfl
      have h2 : ((s.who : Int) == 0) = nateq s.who 0 := rfl
      have h3 : ((s.epoch : Int) == 0) = nateq s.epoch 0 := rfl
      have HLA := hide hb
      clear HRF HRT hb
      go_enter Try.func13, Try.ntmps13
      go_wp2_with ((with_reducible refine wpl_boxa (op := ⟨some 1, _, _, _, _, _⟩) rfl _ _ rfl (slotC s) rfl ?_); intro g1 w1 hB1 hg1 hF1; obtain ⟨c0, c1, c2, c3, c4, c5, c6, c7⟩ := hB1.slot HS.out; rw [HLA.out] at c0)
      refine (zerosref_any 16 w1 (by omega) (by omega)).mono ?_
      rintro e w2 ⟨rfl, rfl⟩
      rw [hZ]
      have HBL : Hid (Below w.heap.size w w1) := (hF1.below (Nat.le_refl _) (fun _ h => h.elim))
      have hcn := conv_rds (P := Try.prog) w1 40 9 5 under24 under5 under9 (some ⟨g1, 5, none⟩) 16 16 s.nonce (hB1.mid 5 16 s.nonce HTN.out HN.out)
      have hcm := conv_rds (P := Try.prog) w1 40 9 5 under24 under5 under9 (some ⟨g1, 21, none⟩) 16 16 s.mac (hB1.mid 21 16 s.mac HTM.out HM.out)
      clear hF1 hg1
      generalize nateq s.next 0 = b1 at *
      generalize nateq s.who 0 = b2 at *
      generalize nateq s.epoch 0 = b3 at *
      generalize hb4 : (s.nonce == Z16) = b4 at *
      generalize hb5 : (s.mac == Z16) = b5 at *
      have HR2 := hide HR.out
      clear HR
      cases b1
      · go_wp2_with fail
        go_ret
        exact ⟨by rw [HR2.out]; rfl, HBL.out⟩
      · cases b2
        · go_wp2_with fail
          go_ret
          exact ⟨by rw [HR2.out]; rfl, HBL.out⟩
        · cases b3
          · go_wp2_with fail
            go_ret
            exact ⟨by rw [HR2.out]; rfl, HBL.out⟩
          · cases b4
            · go_wp2_with fail
              go_ret
              exact ⟨by rw [HR2.out]; rfl, HBL.out⟩
            · go_wp2_with fail
              go_ret
              exact ⟨by rw [HR2.out]; simp, HBL.out⟩
end Go.Proofs.Ytedodbejbkdplaa
