/-
  The document's slots.
-/
import Derived.Test.YtoiiiflnnhkjbaaGreatDoorHp
import Derived.Test.YtoiiiflnnhkjbaaGreatDoorOSlD
import Derived.Test.YtoiiiflnnhkjbaaGreatDoorOnS0
namespace Go.Proofs.YtoiiiflnnhkjbaaGreatDoor
set_option linter.unusedVariables false
set_option linter.unusedSimpArgs false
open Go.RowKit

set_option maxHeartbeats 1000000 in
theorem zerosref_any (n : Int) (w : World) (hn : n ≤ 100) (hn0 : -9223372036854775808 ≤ n) :
    Calls Tryz.prog 47 #[.int .i64 n] w fun e w' => e = .returned (.string ⟨(List.replicate n.toNat (0 : UInt8)).toArray⟩) ∧ w = w' := by
  go_enter Tryz.func47, Tryz.ntmps47
  go_wp2_with fail
  go_loop [3, 4] (fun s i => ∃ k : Nat, k ≤ n.toNat ∧ i = .int .i64 k ∧ ∃ X : List UInt8, X = List.replicate k 0 ∧ s = .string ⟨X.toArray⟩) (fun _ i => n.toNat - (intOf i).toNat)
  case atStart => exact ⟨0, by omega, rfl, [], rfl, rfl⟩
  case round =>
    obtain ⟨k, hk, rfl, X, hX, rfl⟩ := hrel
    have HX := hide hX
    have HL : Hid (X.length = k) := by rw [hX, List.length_replicate]; rfl
    clear hX
    by_cases hlt : k < n.toNat
    · have hkn : (k : Int) < n := by omega
      have hap : ((⟨X.toArray⟩ : ByteArray) ++ ⟨#[0]⟩) = ⟨(X ++ [0]).toArray⟩ := txt_append X [0]
      have hxl : X.length ≤ 100 := by have := HL.out; omega
      go_wp2
      go_round
      case rel => exact ⟨k + 1, by omega, by go_num, X ++ [0], by rw [HX.out, List.replicate_succ'], rfl⟩
      case measure => simp [intOf]; omega
    · have hkn : ¬ (k : Int) < n := by omega
      obtain rfl : k = n.toNat := by omega
      go_wp2
      go_ret
      exact ⟨by rw [HX.out]; rfl, rfl⟩
set_option maxHeartbeats 2000000 in
theorem numr_any (l : List UInt8) (n : Nat) (w : World) (hl : l.length = n) (hn8 : n ≤ 8) :
    Calls Tryz.prog 50 #[.string ⟨l.toArray⟩] w fun e w' => e = .returned (.int .u64 (num l : Nat)) ∧ w = w' := by
  have HL := hide hl
  have hsz : (⟨l.toArray⟩ : ByteArray).size = n := by show l.toArray.size = n; simpa using hl
  clear hl
  go_enter Tryz.func50, Tryz.ntmps50
  go_wp2_with fail
  go_loop [3, 4] (fun v i => ∃ k : Nat, k ≤ n ∧ i = .int .i64 k ∧ v = .int .u64 (num (l.take k) : Nat)) (fun _ i => n - (intOf i).toNat)
  case atStart => exact ⟨0, by omega, rfl, rfl⟩
  case round =>
    obtain ⟨k, hk, rfl, rfl⟩ := hrel
    by_cases hlt : k < n
    · have hlt' : (k : Int) < (n : Int) := by omega
      have hn := num_take_lt l k 7 (by omega)
      have HT := hide (num_take_succ l k (by rw [HL.out]; exact hlt))
      have hb := (l[k]?.getD 0).toNat_lt
      generalize num (l.take k) = x at *
      have hix : ∀ w, Sem.run Tryz.prog (Instr.index 9 (.string ⟨l.toArray⟩) (.int .i64 (k : Int))) w = .ok (.int .u8 ((l[k]?.getD 0).toNat : Int)) w := by
        intro w
        have hkl : k < l.length := by rw [HL.out]; exact hlt
        have h1 : (⟨l.toArray⟩ : ByteArray)[k]? = some (l[k]?.getD 0) := by
          rw [List.getElem?_eq_getElem hkl]
          exact (dif_pos (show k < (⟨l.toArray⟩ : ByteArray).size by rw [hsz]; exact hlt)).trans (congrArg some rfl)
        simp only [Instr.index, asIntOf, Sem.run_bind, run_underlying under9, Result.andThen_ok]
        simp [h1]
      generalize l[k]?.getD 0 = c at *
      go_wp2_with fail
      go_round
      case rel => exact ⟨k + 1, by omega, by go_num, by rw [HT.out]; simp⟩
      case measure => simp [intOf]; omega
    · obtain rfl : k = n := by omega
      have hlt' : ¬ (k : Int) < (k : Int) := by omega
      have hall : l.take k = l := List.take_of_length_le (by rw [HL.out]; exact Nat.le_refl _)
      rw [hall]
      clear hall
      go_wp2_with fail
      go_ret
      exact ⟨rfl, rfl⟩
theorem Z16c : (cellsB Z16).length = 16 := rfl
theorem build_16 (w : World) : Sem.run Tryz.prog (Instr.build 29 #[]) w = .ok (.agg (cellsB Z16).toArray) w := run_build w _ _ _ (by kernel_rfl)
set_option maxHeartbeats 2000000 in
theorem sixteen_any (l : List UInt8) (w : World) (hl : l.length = 16) :
    Calls Tryz.prog 51 #[.string ⟨l.toArray⟩] w fun e w' => e = .returned (.agg (cellsB l).toArray) ∧ Below w.heap.size w w' := by
  have HL := hide hl
  have HLc : Hid ((cellsB l).length = 16) := by show _ = _; rw [cellsB_length, hl]
  have HM : Hid (∀ k, (mix l Z16 k).length = 16) := fun k => by rw [mix_length l Z16 k (by rw [hl]; rfl)]; rfl
  have hbd := build_16
  clear hl
  go_enter Tryz.func51, Tryz.ntmps51
  go_wp2_with (first
    | ((with_reducible refine wpl_alloca (op := ⟨some 2, _, _, _, _, _⟩) rfl _ rfl _ zero16 ?_); intro g2 w2 hB2 hg2 hF2)
    | (refine wpl_held (op := ⟨some 5, _, _, _, _, _⟩) (.agg (cellsB Z16).toArray) (held_build _ _ rfl _ _ (hbd _) rfl) rfl ?_)
    | ((with_reducible refine wpl_alloca (op := ⟨some 3, _, _, _, _, _⟩) rfl _ rfl _ zero16 ?_); intro g3 w3 hB3 hg3 hF3)
    | ((with_reducible refine wpl_storea agg16 rfl (.tmp 3) (.tmp 5) rfl g3 (cellsB Z16) rfl rfl _ _ hB3 Z16c Z16_len (cellsB_one _) ?_); intro w4 hB4 hF4))
  have hF03 := hF2.trans hF3 (fun _ _ h => h)
  have hne : g2 ≠ g3 := by have := hB2.lt; omega
  have hB24 := (hB2.frm hF3 (fun h => h)).frm hF4 hne
  have hb4 : Below w.heap.size w w4 := below_frm (hF03.below (Nat.le_refl _) (fun _ h => h.elim)) hF4 hF03.size (fun k hk => by have := hF2.size; omega)
  have HG : Hid (g2 ≠ g3 ∧ w.heap.size ≤ g2 ∧ w.heap.size ≤ g3) := ⟨hne, hg2, by have := hF2.size; omega⟩
  clear hF2 hF3 hF4 hF03 hB2 hB3 hg2 hg3 hne
  go_loopw [4] (fun i wr => ∃ k : Nat, k ≤ 16 ∧ i = .int .i64 k ∧ Blk wr g3 29 (cellsB (mix l Z16 k)).toArray ∧ Blk wr g2 29 (cellsB Z16).toArray ∧ Below w.heap.size w wr) (fun i _ => 16 - (intOf i).toNat)
  case atStart => exact ⟨0, by omega, rfl, by rw [mix_zero]; exact hB4, hB24, hb4⟩
  case round =>
    clear hB4 hB24 hb4
    obtain ⟨k, hk, rfl, hm, hz, hbl⟩ := hrel
    by_cases hlt : k < 16
    · have hlt' : (k : Int) < 16 := by omega
      have hix := str_index l k (by rw [HL.out]; exact hlt)
      have hcl : (cellsB (mix l Z16 k))[k]? = some (.int .u8 (((mix l Z16 k).getD k 0).toNat : Int)) := getD_byte _ _ (by rw [HM.out]; exact hlt)
      have hc : wr.cell? ⟨g3, k, none⟩ = some (.int .u8 (((mix l Z16 k).getD k 0).toNat : Int)) := by rw [hm.cell, List.getElem?_toArray]; exact hcl
      have hf := hm.frozen k
      have HS : Hid ((mix l Z16 k).set k (l.getD k 0) = mix l Z16 (k + 1)) := mix_set l Z16 k _ (by rw [HL.out]; rfl) (by rw [Z16_length]; exact hlt) (by rw [List.getD_eq_getElem?_getD, List.getElem?_eq_getElem (by rw [HL.out]; exact hlt)]; rfl)
      have h2 := hm.setL k (.int .u8 ((l.getD k 0).toNat : Int))
      rw [cellsB_set, HS.out] at h2
      have H2 := hide h2
      generalize (mix l Z16 k).getD k 0 = old at *
      generalize l.getD k 0 = c at *
      clear h2 hcl
      go_wp2_with fail
      go_roundw
      case rel =>
        have hfr : Frm (fun j => j = g3) wr (wr.setCell ⟨g3, k, none⟩ (.int .u8 (c.toNat : Int))) := Frm.setCell _ _ _ (fun j => j = g3) rfl
        exact ⟨k + 1, by omega, by go_num, H2.out, hz.frm hfr HG.out.1, below_frm hbl hfr hbl.size (fun j hj => by have := HG.out; omega)⟩
      case measure => simp [intOf]; omega
    · obtain rfl : k = 16 := by omega
      rw [mix_all l Z16 16 (by rw [HL.out]; rfl) (by rw [Z16_length]; exact Nat.le_refl _)] at hm
      go_wp2_with (first
        | (with_reducible refine wpl_loada (op := ⟨some 15, _, _, _, _, _⟩) agg16 rfl _ rfl g3 0 rfl _ _ (cellsB l) hm (by rw [List.drop_zero, List.take_of_length_le (by rw [HLc.out]; exact Nat.le_refl _)]) (by rw [HLc.out]; exact Nat.le_refl _) ?_)
        | ((with_reducible refine wpl_storea agg16 rfl (.tmp 2) (.tmp 15) rfl g2 (cellsB l) rfl rfl _ _ hz HLc.out Z16_len (cellsB_one _) ?_); intro w5 hB5 hF5))
      refine ret_agg agg16 rfl rfl g2 _ _ rfl hB5 HLc.out ⟨rfl, ?_⟩
      exact below_frm hbl hF5 hbl.size (fun j hj => by have := HG.out; omega)
theorem rightB_on {s : Slot} (h : s.last = false) : rightB s = (decide (s.lo ≤ s.hi) && nateq s.box 0) := by
  have hr : ∀ n : Nat, nateq n n = true := fun n => by simp [nateq]
  simp [rightB, slotEq, kindM, h, hr]
theorem rightB_last {s : Slot} (h : s.last = true) : rightB s = (decide (s.lo ≤ s.hi) && (nateq s.next 0 && (nateq s.who 0 && (nateq s.epoch 0 && ((s.nonce == Z16) && (s.mac == Z16)))))) := by
  have hr : ∀ n : Nat, nateq n n = true := fun n => by simp [nateq]
  simp [rightB, slotEq, kindM, h, hr]
theorem txt_eq (l m : List UInt8) : ((⟨l.toArray⟩ : ByteArray).toList == (⟨m.toArray⟩ : ByteArray).toList) = (l == m) := by
  rw [ByteArray.toList_eq, ByteArray.toList_eq]
set_option maxHeartbeats 4000000 in
set_option maxRecDepth 100000 in
theorem rightref_any (s : Slot) (hs : s.ok) (w : World) : Calls Tryz.prog 52 #[.agg (slotC s).toArray] w fun e w' => e = .returned (.bool (rightB s)) ∧ Below w.heap.size w w' := by
  have HRF := hide (rightB_on (s := s))
  have HRT := hide (rightB_last (s := s))
  have HL := hide (slotC_length s hs.nonce hs.mac)
  have HTN := hide (slotC_nonce hs.nonce)
  have HTM := hide (slotC_mac hs.nonce hs.mac)
  have HS := hide hs
  have hsn := slN
  have hsm := slM
  have HN := hide hs.nonce
  have HM := hide hs.mac
  generalize rightB s = R at *
  have hZ : (List.replicate (Int.toNat 16) (0 : UInt8)) = Z16 := rfl
  have hz0 : ((0 : Nat) : Int) = 0 := rfl
  by_cases hlo : s.hi < s.lo
  · have hlo' : (s.hi : Int) < (s.lo : Int) := by omega
    have hd : decide (s.hi < s.lo) = true := decide_eq_true hlo
    have hR : R = false := by
      rcases hb : s.last with _ | _
      · rw [HRF.out hb, decide_eq_false (by omega)]; rfl
      · rw [HRT.out hb, decide_eq_false (by omega)]; rfl
    have HR := hide hR
    clear hlo hR
    go_enter Tryz.func52, Tryz.ntmps52
    go_wp2_with ((with_reducible refine wpl_boxa (op := ⟨some 1, _, _, _, _, _⟩) rfl _ _ rfl (slotC s) rfl ?_); intro g1 w1 hB1 hg1 hF1; obtain ⟨c0, c1, c2, c3, c4, c5, c6, c7⟩ := hB1.slot HS.out)
    go_ret
    exact ⟨by rw [HR.out]; rfl, (hF1.below (Nat.le_refl _) (fun _ h => h.elim))⟩
  · have hlo' : ¬ (s.hi : Int) < (s.lo : Int) := by omega
    have hd : decide (s.hi < s.lo) = false := decide_eq_false hlo
    have HLO : Hid (decide (s.lo ≤ s.hi) = true) := decide_eq_true (by omega)
    clear hlo
    rcases hb : s.last with _ | _
    · have HR : Hid (R = nateq s.box 0) := by show _ = _; rw [HRF.out hb, HLO.out, Bool.true_and]
      have hbx : ((s.box : Int) == 0) = nateq s.box 0 := rfl
      have HLA := hide hb
      clear HRF HRT hb
      generalize nateq s.box 0 = bb at *
      go_enter Tryz.func52, Tryz.ntmps52
      go_wp2_with ((with_reducible refine wpl_boxa (op := ⟨some 1, _, _, _, _, _⟩) rfl _ _ rfl (slotC s) rfl ?_); intro g1 w1 hB1 hg1 hF1; obtain ⟨c0, c1, c2, c3, c4, c5, c6, c7⟩ := hB1.slot HS.out; rw [HLA.out] at c0)
      go_ret
      exact ⟨by rw [HR.out]; rfl, (hF1.below (Nat.le_refl _) (fun _ h => h.elim))⟩
    · have HR : Hid (R = (nateq s.next 0 && (nateq s.who 0 && (nateq s.epoch 0 && ((s.nonce == Z16) && (s.mac == Z16)))))) := by show _ = _; rw [HRT.out hb, HLO.out, Bool.true_and]
      have h1 : ((s.next : Int) == 0) = nateq s.next 0 := rfl
      have h2 : ((s.who : Int) == 0) = nateq s.who 0 := rfl
      have h3 : ((s.epoch : Int) == 0) = nateq s.epoch 0 := rfl
      have HLA := hide hb
      clear HRF HRT hb
      go_enter Tryz.func52, Tryz.ntmps52
      go_wp2_with ((with_reducible refine wpl_boxa (op := ⟨some 1, _, _, _, _, _⟩) rfl _ _ rfl (slotC s) rfl ?_); intro g1 w1 hB1 hg1 hF1; obtain ⟨c0, c1, c2, c3, c4, c5, c6, c7⟩ := hB1.slot HS.out; rw [HLA.out] at c0)
      refine (zerosref_any 16 w1 (by omega) (by omega)).mono ?_
      rintro e w2 ⟨rfl, rfl⟩
      rw [hZ]
      have HBL : Hid (Below w.heap.size w w1) := (hF1.below (Nat.le_refl _) (fun _ h => h.elim))
      have hcn := conv_rds (P := Tryz.prog) w1 46 9 5 under24 under5 under9 (some ⟨g1, 5, none⟩) 16 16 s.nonce (hB1.mid 5 16 s.nonce HTN.out HN.out)
      have hcm := conv_rds (P := Tryz.prog) w1 46 9 5 under24 under5 under9 (some ⟨g1, 21, none⟩) 16 16 s.mac (hB1.mid 21 16 s.mac HTM.out HM.out)
      clear hF1 hg1
      generalize nateq s.next 0 = b1 at *
      generalize nateq s.who 0 = b2 at *
      generalize nateq s.epoch 0 = b3 at *
      generalize hb4 : (s.nonce == Z16) = b4 at *
      generalize hb5 : (s.mac == Z16) = b5 at *
      have HR2 := hide HR.out
      clear HR
      cases b1
      · go_wp2_with fail
        go_ret
        exact ⟨by rw [HR2.out]; rfl, HBL.out⟩
      · cases b2
        · go_wp2_with fail
          go_ret
          exact ⟨by rw [HR2.out]; rfl, HBL.out⟩
        · cases b3
          · go_wp2_with fail
            go_ret
            exact ⟨by rw [HR2.out]; rfl, HBL.out⟩
          · cases b4
            · go_wp2_with fail
              go_ret
              exact ⟨by rw [HR2.out]; rfl, HBL.out⟩
            · go_wp2_with fail
              go_ret
              exact ⟨by rw [HR2.out]; simp, HBL.out⟩
theorem Z3_length : (List.replicate 3 (0 : UInt8)).length = 3 := rfl
theorem held_cat {o : Oper} {a : Act} {w : World} (t u : TypeId) (x y : Operand) (ho : o.op = .binOp .add t x y u) (l m : List UInt8) (hx : a.eval x = .string ⟨l.toArray⟩) (hy : a.eval y = .string ⟨m.toArray⟩) (hs : l.length + m.length ≤ 100000) :
    (execOp a.eval o).run Tryz.prog w = .ok (.value (.string ⟨(l ++ m).toArray⟩)) w := by
  have h1 : (⟨l.toArray⟩ : ByteArray).size = l.length := txt_size l
  have h2 : (⟨m.toArray⟩ : ByteArray).size = m.length := txt_size m
  have h3 : ¬ (((⟨l.toArray⟩ : ByteArray).size + (⟨m.toArray⟩ : ByteArray).size : Nat) : Int) > IntKind.i64.max := by
    rw [h1, h2, show IntKind.i64.max = 9223372036854775807 from rfl]
    omega
  unfold execOp
  simp only [ho, hx, hy, Sem.run_bind]
  rw [binOp_string_add]
  simp only [eqGuard, Op.stringOp]
  rw [if_neg h3, txt_append]
  rfl
theorem held_convm {o : Oper} {a : Act} {w : World} (x : Operand) (ho : o.op = .convert 46 9 x) (g off n c : Nat) (hx : a.eval x = .slice (some ⟨g, off, none⟩) n c) (l : List UInt8) (hr : Rds w (some ⟨g, off, none⟩) n (cellsB l)) :
    (execOp a.eval o).run Tryz.prog w = .ok (.value (.string ⟨l.toArray⟩)) w := held_convR x ho (some ⟨g, off, none⟩) n c hx l hr
set_option maxHeartbeats 8000000 in
set_option maxRecDepth 100000 in
theorem writeref_any (s : Slot) (hs : s.ok) (w : World) : Calls Tryz.prog 23 #[.agg (slotC s).toArray] w fun e w' => e = .returned (.string ⟨(encM s).toArray⟩) ∧ Below w.heap.size w w' := by
  have HENC : Hid (encM s = be 1 (if s.last = true then 1 else 0) ++ be 2 (if s.last = true then s.box else s.next) ++ be 8 s.lo ++ be 8 s.hi ++ be 4 s.delay ++ be 2 s.who ++ be 4 s.epoch ++ s.nonce ++ s.mac ++ List.replicate 3 0) := rfl
  have HTN := hide (slotC_nonce hs.nonce)
  have HTM := hide (slotC_mac hs.nonce hs.mac)
  have HS := hide hs
  have hsn := slN
  have hsm := slM
  obtain ⟨last, next, box, who, epoch, nonce, mac, lo, hi, delay⟩ := s
  have b1 := hs.next
  have b2 := hs.box
  have b3 := hs.who
  have b4 := hs.epoch
  have b5 := hs.lo
  have b6 := hs.hi
  have b7 := hs.delay
  have HNL := hide hs.nonce
  have HML := hide hs.mac
  simp only at b1 b2 b3 b4 b5 b6 b7 HNL HML HENC HTN HTM
  generalize hC : slotC ⟨last, next, box, who, epoch, nonce, mac, lo, hi, delay⟩ = C at *
  generalize encM ⟨last, next, box, who, epoch, nonce, mac, lo, hi, delay⟩ = ENC at *
  have HCELLS : Hid (∀ (W : World) (g : Nat), Blk W g 51 C.toArray → W.cell? ⟨g, 0, none⟩ = some (.bool last) ∧ W.cell? ⟨g, 1, none⟩ = some (.int .u16 (next : Int)) ∧ W.cell? ⟨g, 2, none⟩ = some (.int .u16 (box : Int)) ∧ W.cell? ⟨g, 3, none⟩ = some (.int .u16 (who : Int)) ∧ W.cell? ⟨g, 4, none⟩ = some (.int .u32 (epoch : Int)) ∧
    W.cell? ⟨g, 37, none⟩ = some (.int .u64 (lo : Int)) ∧ W.cell? ⟨g, 38, none⟩ = some (.int .u64 (hi : Int)) ∧ W.cell? ⟨g, 39, none⟩ = some (.int .u32 (delay : Int))) := by
    intro W g h
    rw [← hC] at h
    exact h.slot HS.out
  clear hC hs
  have w1n : IntKind.u64.wrap (next : Int) = (next : Int) := by rw [IntKind.wrap_u64]; omega
  have w2n : IntKind.u64.wrap (box : Int) = (box : Int) := by rw [IntKind.wrap_u64]; omega
  have w3n : IntKind.u64.wrap (who : Int) = (who : Int) := by rw [IntKind.wrap_u64]; omega
  have w4n : IntKind.u64.wrap (epoch : Int) = (epoch : Int) := by rw [IntKind.wrap_u64]; omega
  have w7n : IntKind.u64.wrap (delay : Int) = (delay : Int) := by rw [IntKind.wrap_u64]; omega
  go_enter Tryz.func23, Tryz.ntmps23
  go_wp2_with ((with_reducible refine wpl_boxa (op := ⟨some 1, _, _, _, _, _⟩) rfl _ _ rfl C rfl ?_); intro g1 w1 hB1 hg1 hF1)
  obtain ⟨N, hN⟩ : ∃ N, N = w1.heap.size := ⟨_, rfl⟩
  have HB : Hid (∀ W', Below N w1 W' → Blk W' g1 51 C.toArray) := fun W' h => hB1.frm (Frm.of_below (S := fun _ => False) (hN ▸ h)) (fun h => h)
  have HT : ∀ (n s : Nat), s ≤ 8 → n < 18446744073709551616 → ∀ W', Below N w1 W' → Calls Tryz.prog 46 #[.int .u64 (n : Int), .int .i64 (s : Int)] W' (fun e w'' => e = .returned (.string ⟨(be s n).toArray⟩) ∧ Below N w1 w'') :=
    fun n s h1 h2 W' h => (text_any n s W' h1 h2).mono (fun e w'' ⟨he, hb⟩ => ⟨he, h.trans (hb.mono (by rw [hN]; exact h.size))⟩)
  have HZ : ∀ W', Below N w1 W' → Calls Tryz.prog 47 #[.int .i64 3] W' (fun e w'' => e = .returned (.string ⟨(List.replicate 3 (0 : UInt8)).toArray⟩) ∧ Below N w1 w'') :=
    fun W' h => (zerosref_any 3 W' (by omega) (by omega)).mono (fun e w'' ⟨he, hb⟩ => ⟨he, hb ▸ h⟩)
  have HT0 : ∀ W', Below N w1 W' → Calls Tryz.prog 46 #[.int .u64 0, .int .i64 1] W' (fun e w'' => e = .returned (.string ⟨(be 1 0).toArray⟩) ∧ Below N w1 w'') := HT 0 1 (by omega) (by omega)
  have HT1 : ∀ W', Below N w1 W' → Calls Tryz.prog 46 #[.int .u64 1, .int .i64 1] W' (fun e w'' => e = .returned (.string ⟨(be 1 1).toArray⟩) ∧ Below N w1 w'') := HT 1 1 (by omega) (by omega)
  have HTa : ∀ W', Below N w1 W' → Calls Tryz.prog 46 #[.int .u64 (next : Int), .int .i64 2] W' (fun e w'' => e = .returned (.string ⟨(be 2 next).toArray⟩) ∧ Below N w1 w'') := HT next 2 (by omega) (by omega)
  have HTb : ∀ W', Below N w1 W' → Calls Tryz.prog 46 #[.int .u64 (box : Int), .int .i64 2] W' (fun e w'' => e = .returned (.string ⟨(be 2 box).toArray⟩) ∧ Below N w1 w'') := HT box 2 (by omega) (by omega)
  have HTc : ∀ W', Below N w1 W' → Calls Tryz.prog 46 #[.int .u64 (lo : Int), .int .i64 8] W' (fun e w'' => e = .returned (.string ⟨(be 8 lo).toArray⟩) ∧ Below N w1 w'') := HT lo 8 (by omega) (by omega)
  have HTd : ∀ W', Below N w1 W' → Calls Tryz.prog 46 #[.int .u64 (hi : Int), .int .i64 8] W' (fun e w'' => e = .returned (.string ⟨(be 8 hi).toArray⟩) ∧ Below N w1 w'') := HT hi 8 (by omega) (by omega)
  have HTe : ∀ W', Below N w1 W' → Calls Tryz.prog 46 #[.int .u64 (delay : Int), .int .i64 4] W' (fun e w'' => e = .returned (.string ⟨(be 4 delay).toArray⟩) ∧ Below N w1 w'') := HT delay 4 (by omega) (by omega)
  have HTf : ∀ W', Below N w1 W' → Calls Tryz.prog 46 #[.int .u64 (who : Int), .int .i64 2] W' (fun e w'' => e = .returned (.string ⟨(be 2 who).toArray⟩) ∧ Below N w1 w'') := HT who 2 (by omega) (by omega)
  have HTg : ∀ W', Below N w1 W' → Calls Tryz.prog 46 #[.int .u64 (epoch : Int), .int .i64 4] W' (fun e w'' => e = .returned (.string ⟨(be 4 epoch).toArray⟩) ∧ Below N w1 w'') := HT epoch 4 (by omega) (by omega)
  have k1 : ∀ W', Below N w1 W' → W'.cell? ⟨g1, 1, none⟩ = some (.int .u16 (next : Int)) := fun W' h => (HCELLS.out W' g1 (HB.out W' h)).2.1
  have k2 : ∀ W', Below N w1 W' → W'.cell? ⟨g1, 2, none⟩ = some (.int .u16 (box : Int)) := fun W' h => (HCELLS.out W' g1 (HB.out W' h)).2.2.1
  have k3 : ∀ W', Below N w1 W' → W'.cell? ⟨g1, 3, none⟩ = some (.int .u16 (who : Int)) := fun W' h => (HCELLS.out W' g1 (HB.out W' h)).2.2.2.1
  have k4 : ∀ W', Below N w1 W' → W'.cell? ⟨g1, 4, none⟩ = some (.int .u32 (epoch : Int)) := fun W' h => (HCELLS.out W' g1 (HB.out W' h)).2.2.2.2.1
  have k5 : ∀ W', Below N w1 W' → W'.cell? ⟨g1, 37, none⟩ = some (.int .u64 (lo : Int)) := fun W' h => (HCELLS.out W' g1 (HB.out W' h)).2.2.2.2.2.1
  have k6 : ∀ W', Below N w1 W' → W'.cell? ⟨g1, 38, none⟩ = some (.int .u64 (hi : Int)) := fun W' h => (HCELLS.out W' g1 (HB.out W' h)).2.2.2.2.2.2.1
  have k7 : ∀ W', Below N w1 W' → W'.cell? ⟨g1, 39, none⟩ = some (.int .u32 (delay : Int)) := fun W' h => (HCELLS.out W' g1 (HB.out W' h)).2.2.2.2.2.2.2
  have HBL0 : Hid (∀ W', Below N w1 W' → Below w.heap.size w W') := fun W' h => (hF1.below (Nat.le_refl _) (fun _ h => h.elim)).trans (h.mono (by rw [hN]; exact hF1.size))
  have h1 : Below N w1 w1 := hN ▸ Below.refl _ _
  clear HT hF1 hg1 hB1 hN
  refine wp_region_class (fun W' => Below N w1 W') (by kernel_rfl) (by kernel_rfl) (below_drewN h1 1) ?_
  with_reducible refine wpQuiet_step ?_
  intro K hK
  go_simp
  refine ⟨_, HT0, hK _ ?_⟩
  clear hK K
  with_reducible refine wpQuiet_step ?_; intro K hK; go_simp; first | (refine hK _ ?_; clear hK K) | (refine ⟨_, fun w' hw' => rfl, hK _ ?_⟩; clear hK K)
  with_reducible refine wpQuiet_step ?_
  intro K hK
  go_simp
  refine ⟨.int .u16 next, fun w' hw' => ?_, hK _ ?_⟩
  · have hcell0 := k1 w' hw'
    go_simp
  clear hK K
  with_reducible refine wpQuiet_step ?_; intro K hK; go_simp; first | (refine hK _ ?_; clear hK K) | (refine ⟨_, fun w' hw' => rfl, hK _ ?_⟩; clear hK K)
  with_reducible refine wpQuiet_step ?_
  intro K hK
  go_simp
  refine ⟨_, HTa, hK _ ?_⟩
  clear hK K
  with_reducible refine wpQuiet_step ?_
  intro K hK
  refine quiet_val (.string ⟨((be 1 0) ++ be 2 next).toArray⟩) (fun w' hw' => held_cat _ _ _ _ rfl (be 1 0) (be 2 next) rfl rfl (by (try simp only [List.length_append, be_length, List.length_replicate, Z3_length]); have := HNL.out; have := HML.out; omega)) ?_ rfl
  go_simp
  refine hK _ ?_
  clear hK K
  with_reducible refine wpQuiet_step ?_; intro K hK; go_simp; first | (refine hK _ ?_; clear hK K) | (refine ⟨_, fun w' hw' => rfl, hK _ ?_⟩; clear hK K)
  refine wpQuiet_nil ?_
  intro w2 hw2
  have c0 := (HCELLS.out w2 g1 (HB.out w2 hw2)).1
  clear h1
  cases last
  · have HE : Hid (ENC = be 1 0 ++ be 2 next ++ be 8 lo ++ be 8 hi ++ be 4 delay ++ be 2 who ++ be 4 epoch ++ nonce ++ mac ++ List.replicate 3 0) := HENC.out
    clear HENC
    go_wp2_with fail
    clear c0
    refine wp_region_class (fun W' => Below N w1 W') (by kernel_rfl) (by kernel_rfl) (below_drewN hw2 1) ?_
    iterate 2 (with_reducible refine wpQuiet_step ?_; intro K hK; go_simp; first | (refine hK _ ?_; clear hK K) | (refine ⟨_, fun w' hw' => rfl, hK _ ?_⟩; clear hK K))
    with_reducible refine wpQuiet_step ?_
    intro K hK
    go_simp
    refine ⟨.int .u64 lo, fun w' hw' => ?_, hK _ ?_⟩
    · have hcell0 := k5 w' hw'
      go_simp
    clear hK K
    with_reducible refine wpQuiet_step ?_
    intro K hK
    go_simp
    refine ⟨_, HTc, hK _ ?_⟩
    clear hK K
    with_reducible refine wpQuiet_step ?_
    intro K hK
    refine quiet_val (.string ⟨((be 1 0 ++ (be 2 next)) ++ be 8 lo).toArray⟩) (fun w' hw' => held_cat _ _ _ _ rfl (be 1 0 ++ (be 2 next)) (be 8 lo) rfl rfl (by (try simp only [List.length_append, be_length, List.length_replicate, Z3_length]); have := HNL.out; have := HML.out; omega)) ?_ rfl
    go_simp
    refine hK _ ?_
    clear hK K
    with_reducible refine wpQuiet_step ?_; intro K hK; go_simp; first | (refine hK _ ?_; clear hK K) | (refine ⟨_, fun w' hw' => rfl, hK _ ?_⟩; clear hK K)
    with_reducible refine wpQuiet_step ?_
    intro K hK
    go_simp
    refine ⟨.int .u64 hi, fun w' hw' => ?_, hK _ ?_⟩
    · have hcell0 := k6 w' hw'
      go_simp
    clear hK K
    with_reducible refine wpQuiet_step ?_
    intro K hK
    go_simp
    refine ⟨_, HTd, hK _ ?_⟩
    clear hK K
    with_reducible refine wpQuiet_step ?_
    intro K hK
    refine quiet_val (.string ⟨((be 1 0 ++ (be 2 next ++ (be 8 lo))) ++ be 8 hi).toArray⟩) (fun w' hw' => held_cat _ _ _ _ rfl (be 1 0 ++ (be 2 next ++ (be 8 lo))) (be 8 hi) rfl rfl (by (try simp only [List.length_append, be_length, List.length_replicate, Z3_length]); have := HNL.out; have := HML.out; omega)) ?_ rfl
    go_simp
    refine hK _ ?_
    clear hK K
    with_reducible refine wpQuiet_step ?_; intro K hK; go_simp; first | (refine hK _ ?_; clear hK K) | (refine ⟨_, fun w' hw' => rfl, hK _ ?_⟩; clear hK K)
    with_reducible refine wpQuiet_step ?_
    intro K hK
    go_simp
    refine ⟨.int .u32 delay, fun w' hw' => ?_, hK _ ?_⟩
    · have hcell0 := k7 w' hw'
      go_simp
    clear hK K
    with_reducible refine wpQuiet_step ?_; intro K hK; go_simp; first | (refine hK _ ?_; clear hK K) | (refine ⟨_, fun w' hw' => rfl, hK _ ?_⟩; clear hK K)
    with_reducible refine wpQuiet_step ?_
    intro K hK
    go_simp
    refine ⟨_, HTe, hK _ ?_⟩
    clear hK K
    with_reducible refine wpQuiet_step ?_
    intro K hK
    refine quiet_val (.string ⟨((be 1 0 ++ (be 2 next ++ (be 8 lo ++ (be 8 hi)))) ++ be 4 delay).toArray⟩) (fun w' hw' => held_cat _ _ _ _ rfl (be 1 0 ++ (be 2 next ++ (be 8 lo ++ (be 8 hi)))) (be 4 delay) rfl rfl (by (try simp only [List.length_append, be_length, List.length_replicate, Z3_length]); have := HNL.out; have := HML.out; omega)) ?_ rfl
    go_simp
    refine hK _ ?_
    clear hK K
    with_reducible refine wpQuiet_step ?_; intro K hK; go_simp; first | (refine hK _ ?_; clear hK K) | (refine ⟨_, fun w' hw' => rfl, hK _ ?_⟩; clear hK K)
    refine wpQuiet_nil ?_
    clear hw2 w2
    intro w2 hw2
    go_wp2_with fail
    refine wp_region_class (fun W' => Below N w1 W') (by kernel_rfl) (by kernel_rfl) (below_drewN hw2 1) ?_
    iterate 2 (with_reducible refine wpQuiet_step ?_; intro K hK; go_simp; first | (refine hK _ ?_; clear hK K) | (refine ⟨_, fun w' hw' => rfl, hK _ ?_⟩; clear hK K))
    with_reducible refine wpQuiet_step ?_
    intro K hK
    go_simp
    refine ⟨.int .u16 who, fun w' hw' => ?_, hK _ ?_⟩
    · have hcell0 := k3 w' hw'
      go_simp
    clear hK K
    with_reducible refine wpQuiet_step ?_; intro K hK; go_simp; first | (refine hK _ ?_; clear hK K) | (refine ⟨_, fun w' hw' => rfl, hK _ ?_⟩; clear hK K)
    with_reducible refine wpQuiet_step ?_
    intro K hK
    go_simp
    refine ⟨_, HTf, hK _ ?_⟩
    clear hK K
    with_reducible refine wpQuiet_step ?_
    intro K hK
    refine quiet_val (.string ⟨((be 1 0 ++ (be 2 next ++ (be 8 lo ++ (be 8 hi ++ (be 4 delay))))) ++ be 2 who).toArray⟩) (fun w' hw' => held_cat _ _ _ _ rfl (be 1 0 ++ (be 2 next ++ (be 8 lo ++ (be 8 hi ++ (be 4 delay))))) (be 2 who) rfl rfl (by (try simp only [List.length_append, be_length, List.length_replicate, Z3_length]); have := HNL.out; have := HML.out; omega)) ?_ rfl
    go_simp
    refine hK _ ?_
    clear hK K
    with_reducible refine wpQuiet_step ?_; intro K hK; go_simp; first | (refine hK _ ?_; clear hK K) | (refine ⟨_, fun w' hw' => rfl, hK _ ?_⟩; clear hK K)
    with_reducible refine wpQuiet_step ?_
    intro K hK
    go_simp
    refine ⟨.int .u32 epoch, fun w' hw' => ?_, hK _ ?_⟩
    · have hcell0 := k4 w' hw'
      go_simp
    clear hK K
    with_reducible refine wpQuiet_step ?_; intro K hK; go_simp; first | (refine hK _ ?_; clear hK K) | (refine ⟨_, fun w' hw' => rfl, hK _ ?_⟩; clear hK K)
    with_reducible refine wpQuiet_step ?_
    intro K hK
    go_simp
    refine ⟨_, HTg, hK _ ?_⟩
    clear hK K
    with_reducible refine wpQuiet_step ?_
    intro K hK
    refine quiet_val (.string ⟨((be 1 0 ++ (be 2 next ++ (be 8 lo ++ (be 8 hi ++ (be 4 delay ++ (be 2 who)))))) ++ be 4 epoch).toArray⟩) (fun w' hw' => held_cat _ _ _ _ rfl (be 1 0 ++ (be 2 next ++ (be 8 lo ++ (be 8 hi ++ (be 4 delay ++ (be 2 who)))))) (be 4 epoch) rfl rfl (by (try simp only [List.length_append, be_length, List.length_replicate, Z3_length]); have := HNL.out; have := HML.out; omega)) ?_ rfl
    go_simp
    refine hK _ ?_
    clear hK K
    iterate 2 (with_reducible refine wpQuiet_step ?_; intro K hK; go_simp; first | (refine hK _ ?_; clear hK K) | (refine ⟨_, fun w' hw' => rfl, hK _ ?_⟩; clear hK K))
    with_reducible refine wpQuiet_step ?_
    intro K hK
    refine quiet_val (.string ⟨(nonce).toArray⟩) (fun w' hw' => held_convm _ rfl g1 5 16 16 rfl (nonce) ((HB.out w' hw').mid 5 16 (nonce) HTN.out HNL.out)) ?_ rfl
    go_simp
    refine hK _ ?_
    clear hK K
    with_reducible refine wpQuiet_step ?_
    intro K hK
    refine quiet_val (.string ⟨((be 1 0 ++ (be 2 next ++ (be 8 lo ++ (be 8 hi ++ (be 4 delay ++ (be 2 who ++ (be 4 epoch))))))) ++ nonce).toArray⟩) (fun w' hw' => held_cat _ _ _ _ rfl (be 1 0 ++ (be 2 next ++ (be 8 lo ++ (be 8 hi ++ (be 4 delay ++ (be 2 who ++ (be 4 epoch))))))) (nonce) rfl rfl (by (try simp only [List.length_append, be_length, List.length_replicate, Z3_length]); have := HNL.out; have := HML.out; omega)) ?_ rfl
    go_simp
    refine hK _ ?_
    clear hK K
    iterate 2 (with_reducible refine wpQuiet_step ?_; intro K hK; go_simp; first | (refine hK _ ?_; clear hK K) | (refine ⟨_, fun w' hw' => rfl, hK _ ?_⟩; clear hK K))
    with_reducible refine wpQuiet_step ?_
    intro K hK
    refine quiet_val (.string ⟨(mac).toArray⟩) (fun w' hw' => held_convm _ rfl g1 21 16 16 rfl (mac) ((HB.out w' hw').mid 21 16 (mac) HTM.out HML.out)) ?_ rfl
    go_simp
    refine hK _ ?_
    clear hK K
    with_reducible refine wpQuiet_step ?_
    intro K hK
    refine quiet_val (.string ⟨((be 1 0 ++ (be 2 next ++ (be 8 lo ++ (be 8 hi ++ (be 4 delay ++ (be 2 who ++ (be 4 epoch ++ nonce))))))) ++ mac).toArray⟩) (fun w' hw' => held_cat _ _ _ _ rfl (be 1 0 ++ (be 2 next ++ (be 8 lo ++ (be 8 hi ++ (be 4 delay ++ (be 2 who ++ (be 4 epoch ++ nonce))))))) (mac) rfl rfl (by (try simp only [List.length_append, be_length, List.length_replicate, Z3_length]); have := HNL.out; have := HML.out; omega)) ?_ rfl
    go_simp
    refine hK _ ?_
    clear hK K
    with_reducible refine wpQuiet_step ?_
    intro K hK
    go_simp
    refine ⟨_, HZ, hK _ ?_⟩
    clear hK K
    with_reducible refine wpQuiet_step ?_
    intro K hK
    refine quiet_val (.string ⟨((be 1 0 ++ (be 2 next ++ (be 8 lo ++ (be 8 hi ++ (be 4 delay ++ (be 2 who ++ (be 4 epoch ++ (nonce ++ mac)))))))) ++ List.replicate 3 0).toArray⟩) (fun w' hw' => held_cat _ _ _ _ rfl (be 1 0 ++ (be 2 next ++ (be 8 lo ++ (be 8 hi ++ (be 4 delay ++ (be 2 who ++ (be 4 epoch ++ (nonce ++ mac)))))))) (List.replicate 3 0) rfl rfl (by (try simp only [List.length_append, be_length, List.length_replicate, Z3_length]); have := HNL.out; have := HML.out; omega)) ?_ rfl
    go_simp
    refine hK _ ?_
    clear hK K
    with_reducible refine wpQuiet_step ?_; intro K hK; go_simp; first | (refine hK _ ?_; clear hK K) | (refine ⟨_, fun w' hw' => rfl, hK _ ?_⟩; clear hK K)
    refine wpQuiet_nil ?_
    clear hw2 w2
    intro w2 hw2
    go_wp2_with fail
    go_ret
    exact ⟨by rw [HE.out]; simp only [List.append_assoc]; rfl, HBL0.out w2 hw2⟩

  · have HE : Hid (ENC = be 1 1 ++ be 2 box ++ be 8 lo ++ be 8 hi ++ be 4 delay ++ be 2 who ++ be 4 epoch ++ nonce ++ mac ++ List.replicate 3 0) := HENC.out
    clear HENC
    go_wp2_with fail
    clear c0
    refine wp_region_class (fun W' => Below N w1 W') (by kernel_rfl) (by kernel_rfl) (below_drewN hw2 1) ?_
    with_reducible refine wpQuiet_step ?_
    intro K hK
    go_simp
    refine ⟨_, HT1, hK _ ?_⟩
    clear hK K
    with_reducible refine wpQuiet_step ?_; intro K hK; go_simp; first | (refine hK _ ?_; clear hK K) | (refine ⟨_, fun w' hw' => rfl, hK _ ?_⟩; clear hK K)
    with_reducible refine wpQuiet_step ?_
    intro K hK
    go_simp
    refine ⟨.int .u16 box, fun w' hw' => ?_, hK _ ?_⟩
    · have hcell0 := k2 w' hw'
      go_simp
    clear hK K
    with_reducible refine wpQuiet_step ?_; intro K hK; go_simp; first | (refine hK _ ?_; clear hK K) | (refine ⟨_, fun w' hw' => rfl, hK _ ?_⟩; clear hK K)
    with_reducible refine wpQuiet_step ?_
    intro K hK
    go_simp
    refine ⟨_, HTb, hK _ ?_⟩
    clear hK K
    with_reducible refine wpQuiet_step ?_
    intro K hK
    refine quiet_val (.string ⟨((be 1 1) ++ be 2 box).toArray⟩) (fun w' hw' => held_cat _ _ _ _ rfl (be 1 1) (be 2 box) rfl rfl (by (try simp only [List.length_append, be_length, List.length_replicate, Z3_length]); have := HNL.out; have := HML.out; omega)) ?_ rfl
    go_simp
    refine hK _ ?_
    clear hK K
    with_reducible refine wpQuiet_step ?_; intro K hK; go_simp; first | (refine hK _ ?_; clear hK K) | (refine ⟨_, fun w' hw' => rfl, hK _ ?_⟩; clear hK K)
    refine wpQuiet_nil ?_
    clear hw2 w2
    intro w2 hw2
    go_wp2_with fail
    refine wp_region_class (fun W' => Below N w1 W') (by kernel_rfl) (by kernel_rfl) (below_drewN hw2 1) ?_
    iterate 2 (with_reducible refine wpQuiet_step ?_; intro K hK; go_simp; first | (refine hK _ ?_; clear hK K) | (refine ⟨_, fun w' hw' => rfl, hK _ ?_⟩; clear hK K))
    with_reducible refine wpQuiet_step ?_
    intro K hK
    go_simp
    refine ⟨.int .u64 lo, fun w' hw' => ?_, hK _ ?_⟩
    · have hcell0 := k5 w' hw'
      go_simp
    clear hK K
    with_reducible refine wpQuiet_step ?_
    intro K hK
    go_simp
    refine ⟨_, HTc, hK _ ?_⟩
    clear hK K
    with_reducible refine wpQuiet_step ?_
    intro K hK
    refine quiet_val (.string ⟨((be 1 1 ++ (be 2 box)) ++ be 8 lo).toArray⟩) (fun w' hw' => held_cat _ _ _ _ rfl (be 1 1 ++ (be 2 box)) (be 8 lo) rfl rfl (by (try simp only [List.length_append, be_length, List.length_replicate, Z3_length]); have := HNL.out; have := HML.out; omega)) ?_ rfl
    go_simp
    refine hK _ ?_
    clear hK K
    with_reducible refine wpQuiet_step ?_; intro K hK; go_simp; first | (refine hK _ ?_; clear hK K) | (refine ⟨_, fun w' hw' => rfl, hK _ ?_⟩; clear hK K)
    with_reducible refine wpQuiet_step ?_
    intro K hK
    go_simp
    refine ⟨.int .u64 hi, fun w' hw' => ?_, hK _ ?_⟩
    · have hcell0 := k6 w' hw'
      go_simp
    clear hK K
    with_reducible refine wpQuiet_step ?_
    intro K hK
    go_simp
    refine ⟨_, HTd, hK _ ?_⟩
    clear hK K
    with_reducible refine wpQuiet_step ?_
    intro K hK
    refine quiet_val (.string ⟨((be 1 1 ++ (be 2 box ++ (be 8 lo))) ++ be 8 hi).toArray⟩) (fun w' hw' => held_cat _ _ _ _ rfl (be 1 1 ++ (be 2 box ++ (be 8 lo))) (be 8 hi) rfl rfl (by (try simp only [List.length_append, be_length, List.length_replicate, Z3_length]); have := HNL.out; have := HML.out; omega)) ?_ rfl
    go_simp
    refine hK _ ?_
    clear hK K
    with_reducible refine wpQuiet_step ?_; intro K hK; go_simp; first | (refine hK _ ?_; clear hK K) | (refine ⟨_, fun w' hw' => rfl, hK _ ?_⟩; clear hK K)
    with_reducible refine wpQuiet_step ?_
    intro K hK
    go_simp
    refine ⟨.int .u32 delay, fun w' hw' => ?_, hK _ ?_⟩
    · have hcell0 := k7 w' hw'
      go_simp
    clear hK K
    with_reducible refine wpQuiet_step ?_; intro K hK; go_simp; first | (refine hK _ ?_; clear hK K) | (refine ⟨_, fun w' hw' => rfl, hK _ ?_⟩; clear hK K)
    with_reducible refine wpQuiet_step ?_
    intro K hK
    go_simp
    refine ⟨_, HTe, hK _ ?_⟩
    clear hK K
    with_reducible refine wpQuiet_step ?_
    intro K hK
    refine quiet_val (.string ⟨((be 1 1 ++ (be 2 box ++ (be 8 lo ++ (be 8 hi)))) ++ be 4 delay).toArray⟩) (fun w' hw' => held_cat _ _ _ _ rfl (be 1 1 ++ (be 2 box ++ (be 8 lo ++ (be 8 hi)))) (be 4 delay) rfl rfl (by (try simp only [List.length_append, be_length, List.length_replicate, Z3_length]); have := HNL.out; have := HML.out; omega)) ?_ rfl
    go_simp
    refine hK _ ?_
    clear hK K
    with_reducible refine wpQuiet_step ?_; intro K hK; go_simp; first | (refine hK _ ?_; clear hK K) | (refine ⟨_, fun w' hw' => rfl, hK _ ?_⟩; clear hK K)
    refine wpQuiet_nil ?_
    clear hw2 w2
    intro w2 hw2
    go_wp2_with fail
    refine wp_region_class (fun W' => Below N w1 W') (by kernel_rfl) (by kernel_rfl) (below_drewN hw2 1) ?_
    iterate 2 (with_reducible refine wpQuiet_step ?_; intro K hK; go_simp; first | (refine hK _ ?_; clear hK K) | (refine ⟨_, fun w' hw' => rfl, hK _ ?_⟩; clear hK K))
    with_reducible refine wpQuiet_step ?_
    intro K hK
    go_simp
    refine ⟨.int .u16 who, fun w' hw' => ?_, hK _ ?_⟩
    · have hcell0 := k3 w' hw'
      go_simp
    clear hK K
    with_reducible refine wpQuiet_step ?_; intro K hK; go_simp; first | (refine hK _ ?_; clear hK K) | (refine ⟨_, fun w' hw' => rfl, hK _ ?_⟩; clear hK K)
    with_reducible refine wpQuiet_step ?_
    intro K hK
    go_simp
    refine ⟨_, HTf, hK _ ?_⟩
    clear hK K
    with_reducible refine wpQuiet_step ?_
    intro K hK
    refine quiet_val (.string ⟨((be 1 1 ++ (be 2 box ++ (be 8 lo ++ (be 8 hi ++ (be 4 delay))))) ++ be 2 who).toArray⟩) (fun w' hw' => held_cat _ _ _ _ rfl (be 1 1 ++ (be 2 box ++ (be 8 lo ++ (be 8 hi ++ (be 4 delay))))) (be 2 who) rfl rfl (by (try simp only [List.length_append, be_length, List.length_replicate, Z3_length]); have := HNL.out; have := HML.out; omega)) ?_ rfl
    go_simp
    refine hK _ ?_
    clear hK K
    with_reducible refine wpQuiet_step ?_; intro K hK; go_simp; first | (refine hK _ ?_; clear hK K) | (refine ⟨_, fun w' hw' => rfl, hK _ ?_⟩; clear hK K)
    with_reducible refine wpQuiet_step ?_
    intro K hK
    go_simp
    refine ⟨.int .u32 epoch, fun w' hw' => ?_, hK _ ?_⟩
    · have hcell0 := k4 w' hw'
      go_simp
    clear hK K
    with_reducible refine wpQuiet_step ?_; intro K hK; go_simp; first | (refine hK _ ?_; clear hK K) | (refine ⟨_, fun w' hw' => rfl, hK _ ?_⟩; clear hK K)
    with_reducible refine wpQuiet_step ?_
    intro K hK
    go_simp
    refine ⟨_, HTg, hK _ ?_⟩
    clear hK K
    with_reducible refine wpQuiet_step ?_
    intro K hK
    refine quiet_val (.string ⟨((be 1 1 ++ (be 2 box ++ (be 8 lo ++ (be 8 hi ++ (be 4 delay ++ (be 2 who)))))) ++ be 4 epoch).toArray⟩) (fun w' hw' => held_cat _ _ _ _ rfl (be 1 1 ++ (be 2 box ++ (be 8 lo ++ (be 8 hi ++ (be 4 delay ++ (be 2 who)))))) (be 4 epoch) rfl rfl (by (try simp only [List.length_append, be_length, List.length_replicate, Z3_length]); have := HNL.out; have := HML.out; omega)) ?_ rfl
    go_simp
    refine hK _ ?_
    clear hK K
    iterate 2 (with_reducible refine wpQuiet_step ?_; intro K hK; go_simp; first | (refine hK _ ?_; clear hK K) | (refine ⟨_, fun w' hw' => rfl, hK _ ?_⟩; clear hK K))
    with_reducible refine wpQuiet_step ?_
    intro K hK
    refine quiet_val (.string ⟨(nonce).toArray⟩) (fun w' hw' => held_convm _ rfl g1 5 16 16 rfl (nonce) ((HB.out w' hw').mid 5 16 (nonce) HTN.out HNL.out)) ?_ rfl
    go_simp
    refine hK _ ?_
    clear hK K
    with_reducible refine wpQuiet_step ?_
    intro K hK
    refine quiet_val (.string ⟨((be 1 1 ++ (be 2 box ++ (be 8 lo ++ (be 8 hi ++ (be 4 delay ++ (be 2 who ++ (be 4 epoch))))))) ++ nonce).toArray⟩) (fun w' hw' => held_cat _ _ _ _ rfl (be 1 1 ++ (be 2 box ++ (be 8 lo ++ (be 8 hi ++ (be 4 delay ++ (be 2 who ++ (be 4 epoch))))))) (nonce) rfl rfl (by (try simp only [List.length_append, be_length, List.length_replicate, Z3_length]); have := HNL.out; have := HML.out; omega)) ?_ rfl
    go_simp
    refine hK _ ?_
    clear hK K
    iterate 2 (with_reducible refine wpQuiet_step ?_; intro K hK; go_simp; first | (refine hK _ ?_; clear hK K) | (refine ⟨_, fun w' hw' => rfl, hK _ ?_⟩; clear hK K))
    with_reducible refine wpQuiet_step ?_
    intro K hK
    refine quiet_val (.string ⟨(mac).toArray⟩) (fun w' hw' => held_convm _ rfl g1 21 16 16 rfl (mac) ((HB.out w' hw').mid 21 16 (mac) HTM.out HML.out)) ?_ rfl
    go_simp
    refine hK _ ?_
    clear hK K
    with_reducible refine wpQuiet_step ?_
    intro K hK
    refine quiet_val (.string ⟨((be 1 1 ++ (be 2 box ++ (be 8 lo ++ (be 8 hi ++ (be 4 delay ++ (be 2 who ++ (be 4 epoch ++ nonce))))))) ++ mac).toArray⟩) (fun w' hw' => held_cat _ _ _ _ rfl (be 1 1 ++ (be 2 box ++ (be 8 lo ++ (be 8 hi ++ (be 4 delay ++ (be 2 who ++ (be 4 epoch ++ nonce))))))) (mac) rfl rfl (by (try simp only [List.length_append, be_length, List.length_replicate, Z3_length]); have := HNL.out; have := HML.out; omega)) ?_ rfl
    go_simp
    refine hK _ ?_
    clear hK K
    with_reducible refine wpQuiet_step ?_
    intro K hK
    go_simp
    refine ⟨_, HZ, hK _ ?_⟩
    clear hK K
    with_reducible refine wpQuiet_step ?_
    intro K hK
    refine quiet_val (.string ⟨((be 1 1 ++ (be 2 box ++ (be 8 lo ++ (be 8 hi ++ (be 4 delay ++ (be 2 who ++ (be 4 epoch ++ (nonce ++ mac)))))))) ++ List.replicate 3 0).toArray⟩) (fun w' hw' => held_cat _ _ _ _ rfl (be 1 1 ++ (be 2 box ++ (be 8 lo ++ (be 8 hi ++ (be 4 delay ++ (be 2 who ++ (be 4 epoch ++ (nonce ++ mac)))))))) (List.replicate 3 0) rfl rfl (by (try simp only [List.length_append, be_length, List.length_replicate, Z3_length]); have := HNL.out; have := HML.out; omega)) ?_ rfl
    go_simp
    refine hK _ ?_
    clear hK K
    with_reducible refine wpQuiet_step ?_; intro K hK; go_simp; first | (refine hK _ ?_; clear hK K) | (refine ⟨_, fun w' hw' => rfl, hK _ ?_⟩; clear hK K)
    refine wpQuiet_nil ?_
    clear hw2 w2
    intro w2 hw2
    go_wp2_with fail
    go_ret
    exact ⟨by rw [HE.out]; simp only [List.append_assoc]; rfl, HBL0.out w2 hw2⟩
/-- Ways that meet: what is left is shown once. -/
theorem meet1 {R : World → Nat → Prop} {A : World → Nat → Prop} {G : Prop} (h1 : (∀ W g, A W g → R W g) → G) (h2 : ∀ W g, A W g → R W g) : G := h1 h2
set_option maxRecDepth 100000 in
theorem build_read (kb : Bool) (lo hi delay who epoch : Nat) (nonce mac : List UInt8) (hn : nonce.length = 16) (hm : mac.length = 16) (w : World) :
    Sem.run Tryz.prog (Instr.build 51 #[(0, .bool kb), (7, .int .u64 (lo : Int)), (8, .int .u64 (hi : Int)), (9, .int .u32 (delay : Int)), (3, .int .u16 (who : Int)), (4, .int .u32 (epoch : Int)), (5, .agg (cellsB nonce).toArray), (6, .agg (cellsB mac).toArray)]) w = .ok (.agg (slotC ⟨kb, 0, 0, who, epoch, nonce, mac, lo, hi, delay⟩).toArray) w := by
  match nonce, hn, mac, hm with
  | [a0, a1, a2, a3, a4, a5, a6, a7, a8, a9, a10, a11, a12, a13, a14, a15], _, [b0, b1, b2, b3, b4, b5, b6, b7, b8, b9, b10, b11, b12, b13, b14, b15], _ => exact run_build w _ _ _ (by kernel_rfl)
theorem num_one (b : List UInt8) (h : 0 < b.length) : num (b.take 1) = (b.getD 0 0).toNat := by
  match b, h with
  | x :: l, _ => simp [num]
theorem okB_iff {b : List UInt8} (hb : b.length = 64) : okB b = (decide (num (b.take 1) ≤ 1) && ((b.drop 61 == List.replicate 3 0) && rightB (decM b))) := by
  unfold okB
  cases hR : rightB (decM b)
  · simp
  · simp only [Bool.true_and, Bool.and_true]
    have hok := decM_ok b hb
    obtain ⟨e1, e2⟩ := enc_kind hok
    cases he : (encM (decM b) == b)
    · symm
      rw [Bool.eq_false_iff]
      intro h
      simp only [Bool.and_eq_true, decide_eq_true_eq, beq_iff_eq] at h
      have := enc_dec hb h.1 h.2
      rw [this] at he
      simp at he
    · have he' : encM (decM b) = b := by simpa using he
      rw [he'] at e1 e2
      symm
      simp only [Bool.and_eq_true, decide_eq_true_eq, beq_iff_eq]
      exact ⟨by rw [e1]; split <;> omega, e2⟩
/-- The store's world. -/
structure RefAt (w0 : World) (g2 g4 : Nat) (s : Slot) (W : World) : Prop where
  b2 : Blk W g2 51 (slotC slot0).toArray
  b4 : Blk W g4 51 (slotC s).toArray
  bel : Below w0.heap.size w0 W
  ne : g2 ≠ g4 ∧ w0.heap.size ≤ g2 ∧ w0.heap.size ≤ g4
theorem RefAt.frm {w0 w w' : World} {g2 g4 : Nat} {s : Slot} (h : RefAt w0 g2 g4 s w) (f : Frm (fun _ => False) w w') : RefAt w0 g2 g4 s w' :=
  ⟨h.b2.frm f (fun h => h), h.b4.frm f (fun h => h), below_frm h.bel f h.bel.size (fun _ h => h.elim), h.ne⟩
set_option maxHeartbeats 16000000 in
set_option maxRecDepth 100000 in
theorem readref_any (b : List UInt8) (hb : b.length = 64) (w : World) : Calls Tryz.prog 32 #[.string ⟨b.toArray⟩] w fun e w' => e = .returned (.tuple #[.agg (slotC (ansM b)).toArray, .int .i64 (errD b)]) ∧ Below w.heap.size w w' := by
  have hDok := decM_ok b hb
  have HD : Hid (decM b = ⟨decide (num (b.take 1) = 1), if num (b.take 1) = 1 then 0 else num ((b.drop 1).take 2), if num (b.take 1) = 1 then num ((b.drop 1).take 2) else 0, num ((b.drop 23).take 2), num ((b.drop 25).take 4), (b.drop 29).take 16, (b.drop 45).take 16, num ((b.drop 3).take 8), num ((b.drop 11).take 8), num ((b.drop 19).take 4)⟩) := rfl
  have HDL := hide (slotC_length _ hDok.nonce hDok.mac)
  have HDO := hide (slotC_one (decM b))
  have HAL := hide (slotC_length _ (ansM_ok hb).nonce (ansM_ok hb).mac)
  have HAO := hide (slotC_one (ansM b))
  have HRR := hide (rightref_any (decM b) hDok)
  have HOK := hide (okB_iff hb)
  have HA : Hid (ansM b = if okB b = true then decM b else slot0) := rfl
  have HE : Hid (errD b = if okB b = true then 0 else 3) := rfl
  have hsz : (⟨b.toArray⟩ : ByteArray).size = 64 := by rw [txt_size]; exact hb
  have cutl : ∀ i n, i + n ≤ 64 → ((b.drop i).take n).length = n := fun i n h => by rw [List.length_take, List.length_drop]; omega
  have x3 : (⟨b.toArray⟩ : ByteArray).extract 3 11 = ⟨((b.drop 3).take 8).toArray⟩ := extract_mk b 3 11
  have x11 : (⟨b.toArray⟩ : ByteArray).extract 11 19 = ⟨((b.drop 11).take 8).toArray⟩ := extract_mk b 11 19
  have x19 : (⟨b.toArray⟩ : ByteArray).extract 19 23 = ⟨((b.drop 19).take 4).toArray⟩ := extract_mk b 19 23
  have x23 : (⟨b.toArray⟩ : ByteArray).extract 23 25 = ⟨((b.drop 23).take 2).toArray⟩ := extract_mk b 23 25
  have x25 : (⟨b.toArray⟩ : ByteArray).extract 25 29 = ⟨((b.drop 25).take 4).toArray⟩ := extract_mk b 25 29
  have x29 : (⟨b.toArray⟩ : ByteArray).extract 29 45 = ⟨((b.drop 29).take 16).toArray⟩ := extract_mk b 29 45
  have x45 : (⟨b.toArray⟩ : ByteArray).extract 45 61 = ⟨((b.drop 45).take 16).toArray⟩ := extract_mk b 45 61
  have x1 : (⟨b.toArray⟩ : ByteArray).extract 1 3 = ⟨((b.drop 1).take 2).toArray⟩ := extract_mk b 1 3
  have x61 : (⟨b.toArray⟩ : ByteArray).extract 61 64 = ⟨(b.drop 61).toArray⟩ := by rw [extract_mk b 61 64, List.take_of_length_le (by rw [List.length_drop]; omega)]
  have n3 := numr_any ((b.drop 3).take 8) 8
  have n11 := numr_any ((b.drop 11).take 8) 8
  have n19 := numr_any ((b.drop 19).take 4) 4
  have n23 := numr_any ((b.drop 23).take 2) 2
  have n25 := numr_any ((b.drop 25).take 4) 4
  have n1 := numr_any ((b.drop 1).take 2) 2
  have s29 := sixteen_any ((b.drop 29).take 16)
  have s45 := sixteen_any ((b.drop 45).take 16)
  have HN3 : Hid (∀ w, _) := fun w => n3 w (cutl 3 8 (by omega)) (by omega)
  have HN11 : Hid (∀ w, _) := fun w => n11 w (cutl 11 8 (by omega)) (by omega)
  have HN19 : Hid (∀ w, _) := fun w => n19 w (cutl 19 4 (by omega)) (by omega)
  have HN23 : Hid (∀ w, _) := fun w => n23 w (cutl 23 2 (by omega)) (by omega)
  have HN25 : Hid (∀ w, _) := fun w => n25 w (cutl 25 4 (by omega)) (by omega)
  have HN1 : Hid (∀ w, _) := fun w => n1 w (cutl 1 2 (by omega)) (by omega)
  have HS29 : Hid (∀ w, _) := fun w => s29 w (cutl 29 16 (by omega))
  have HS45 : Hid (∀ w, _) := fun w => s45 w (cutl 45 16 (by omega))
  have hk0 := num_one b (by omega)
  have hix : ∀ w, Sem.run Tryz.prog (Instr.index 9 (.string ⟨b.toArray⟩) (.int .i64 0)) w = .ok (.int .u8 ((num (b.take 1) : Nat) : Int)) w := by
    intro w
    rw [hk0]
    exact str_index b 0 (by omega) w
  have hk256 : num (b.take 1) < 256 := num_take_lt b 1 1 (by omega)
  have u1 := num_cut b 1 2
  have u19 := num_cut b 19 4
  have u23 := num_cut b 23 2
  have u25 := num_cut b 25 4
  have hl29 := cutl 29 16 (by omega)
  have hl45 := cutl 45 16 (by omega)
  clear n3 n11 n19 n23 n25 n1 s29 s45 hk0 cutl hb
  generalize hk : num (b.take 1) = k at *
  generalize num ((b.drop 1).take 2) = to at *
  generalize num ((b.drop 3).take 8) = lo at *
  generalize num ((b.drop 11).take 8) = hi at *
  generalize num ((b.drop 19).take 4) = delay at *
  generalize num ((b.drop 23).take 2) = who at *
  generalize num ((b.drop 25).take 4) = epoch at *
  have hbd := fun kb => build_read kb lo hi delay who epoch _ _ hl29 hl45
  generalize (b.drop 1).take 2 = X1 at *
  generalize (b.drop 3).take 8 = X3 at *
  generalize (b.drop 11).take 8 = X11 at *
  generalize (b.drop 19).take 4 = X19 at *
  generalize (b.drop 23).take 2 = X23 at *
  generalize (b.drop 25).take 4 = X25 at *
  generalize (b.drop 29).take 16 = nonce at *
  generalize (b.drop 45).take 16 = mac at *
  have v1 : IntKind.u16.wrap (to : Int) = (to : Int) := by rw [IntKind.wrap_u16]; omega
  have v19 : IntKind.u32.wrap (delay : Int) = (delay : Int) := by rw [IntKind.wrap_u32]; omega
  have v23 : IntKind.u16.wrap (who : Int) = (who : Int) := by rw [IntKind.wrap_u16]; omega
  have v25 : IntKind.u32.wrap (epoch : Int) = (epoch : Int) := by rw [IntKind.wrap_u32]; omega
  have HBZ : Hid (∀ m : List UInt8, ((⟨(b.drop 61).toArray⟩ : ByteArray).toList == (⟨m.toArray⟩ : ByteArray).toList) = (b.drop 61 == m)) := fun m => txt_eq _ _
  generalize b.drop 61 = X61 at *
  generalize hT : (⟨b.toArray⟩ : ByteArray) = T at *
  generalize decM b = D at *
  generalize ansM b = ANS at *
  generalize errD b = ERRD at *
  generalize okB b = OK at *
  clear hk hT b
  have hN16 := hide hl29
  have hM16 := hide hl45
  have HU := hide (And.intro u1 (And.intro u19 (And.intro u23 u25)))
  obtain ⟨kb, hkb⟩ : ∃ kb : Bool, ((k : Int) == 1) = kb := ⟨_, rfl⟩
  have hbd := hbd kb
  have hsl : (slotC ⟨kb, 0, 0, who, epoch, nonce, mac, lo, hi, delay⟩).length = 40 := slotC_length _ hl29 hl45
  have HSL := hide hsl
  have HSO := hide (slotC_one ⟨kb, 0, 0, who, epoch, nonce, mac, lo, hi, delay⟩)
  clear u1 u19 u23 u25 hl29 hl45 hsl
  go_enter Tryz.func32, Tryz.ntmps32
  go_wp2_with ((with_reducible refine wpl_alloca (op := ⟨some 2, _, _, _, _, _⟩) rfl _ rfl _ zeroS ?_); intro g2 w2 hB2 hg2 hF2)
  have HB2 : Hid (Blk w2.drew g2 51 (slotC slot0).toArray) := hB2
  have HBL : Hid (Below w.heap.size w w2.drew) := (hF2.below (Nat.le_refl _) (fun _ h => h.elim)).drew
  have HG2 : Hid (w.heap.size ≤ g2) := hg2
  clear hB2 hg2 hF2
  refine wp_region_held_drew (S := fun _ => True) (by kernel_rfl) trivial ?_
  intro hHeld
  generalize w2.drew = w3 at *
  refine tkH 0 (v := ?v1) rfl ?hy1 ?rest1
  case hy1 => (intro w hSw; (try go_simp); try with_reducible rfl)
  try simp only [Act.put, PTs]
  refine tkH 1 (v := ?v2) rfl ?hy2 ?rest2
  case hy2 => (intro w hSw; (try go_simp); try with_reducible rfl)
  try simp only [Act.put, PTs]
  refine tkH 2 (v := ?v3) rfl ?hy3 ?rest3
  case hy3 => (intro w hSw; (try go_simp); try with_reducible rfl)
  try simp only [Act.put, PTs]
  refine tkH 3 (v := ?v4) rfl ?hy4 ?rest4
  case hy4 => (intro w hSw; (try go_simp); try with_reducible rfl)
  try simp only [Act.put, PTs]
  refine tkH 4 (v := ?v5) rfl ?hy5 ?rest5
  case hy5 => (intro w hSw; (try go_simp); try with_reducible rfl)
  try simp only [Act.put, PTs]
  refine tkH 6 (v := ?v6) rfl ?hy6 ?rest6
  case hy6 => (intro w hSw; (try go_simp); try with_reducible rfl)
  try simp only [Act.put, PTs]
  refine tkH 7 (v := ?v7) rfl ?hy7 ?rest7
  case hy7 => (intro w hSw; (try go_simp); try with_reducible rfl)
  try simp only [Act.put, PTs]
  refine tkH 9 (v := ?v8) rfl ?hy8 ?rest8
  case hy8 => (intro w hSw; (try go_simp); try with_reducible rfl)
  try simp only [Act.put, PTs]
  refine tkH 10 (v := ?v9) rfl ?hy9 ?rest9
  case hy9 => (intro w hSw; (try go_simp); try with_reducible rfl)
  try simp only [Act.put, PTs]
  refine tkH 13 (v := ?v10) rfl ?hy10 ?rest10
  case hy10 => (intro w hSw; (try go_simp); try with_reducible rfl)
  try simp only [Act.put, PTs]
  refine tkH 14 (v := ?v11) rfl ?hy11 ?rest11
  case hy11 => (intro w hSw; (try go_simp); try with_reducible rfl)
  try simp only [Act.put, PTs]
  refine tkH 17 (v := ?v12) rfl ?hy12 ?rest12
  case hy12 => (intro w hSw; (try go_simp); try with_reducible rfl)
  try simp only [Act.put, PTs]
  refine tkH 18 (v := ?v13) rfl ?hy13 ?rest13
  case hy13 => (intro w hSw; (try go_simp); try with_reducible rfl)
  try simp only [Act.put, PTs]
  refine tkH 21 (v := ?v14) rfl ?hy14 ?rest14
  case hy14 => (intro w hSw; (try go_simp); try with_reducible rfl)
  try simp only [Act.put, PTs]
  refine tkH 22 (v := ?v15) rfl ?hy15 ?rest15
  case hy15 => (intro w hSw; (try go_simp); try with_reducible rfl)
  try simp only [Act.put, PTs]
  refine tkH 24 (v := ?v16) rfl ?hy16 ?rest16
  case hy16 => (intro w hSw; (try go_simp); try with_reducible rfl)
  try simp only [Act.put, PTs]
  refine tkH 25 (v := ?v17) rfl ?hy17 ?rest17
  case hy17 => (intro w hSw; (try go_simp); try with_reducible rfl)
  try simp only [Act.put, PTs]
  apply meet1 (A := fun W g4 => RefAt w g2 g4 slot0 W)
  · intro key
    refine wpAnyH_ready (rs := [5, 28]) (by kernel_rfl) (by simp) ?_
    refine AllReadyH.cons rfl (fun K hK => ?_) ?_
    · go_simp
      refine (HN3.out _).mono ?_
      rintro e Wn ⟨rfl, hWn⟩
      have HB2 := hide (hWn ▸ HB2.out)
      have HBL := hide (hWn ▸ HBL.out)
      clear hWn
      refine hK.out _ _ (trivial) (fun hHeld => ?_)
      clear hK K
      refine wpAnyH_ready (rs := [8, 28]) (by kernel_rfl) (by simp) ?_
      refine AllReadyH.cons rfl (fun K hK => ?_) ?_
      · go_simp
        refine (HN11.out _).mono ?_
        rintro e Wn ⟨rfl, hWn⟩
        have HB2 := hide (hWn ▸ HB2.out)
        have HBL := hide (hWn ▸ HBL.out)
        clear hWn
        refine hK.out _ _ (trivial) (fun hHeld => ?_)
        clear hK K
        refine wpAnyH_ready (rs := [11, 28]) (by kernel_rfl) (by simp) ?_
        refine AllReadyH.cons rfl (fun K hK => ?_) ?_
        · go_simp
          refine (HN19.out _).mono ?_
          rintro e Wn ⟨rfl, hWn⟩
          have HB2 := hide (hWn ▸ HB2.out)
          have HBL := hide (hWn ▸ HBL.out)
          clear hWn
          refine hK.out _ _ (trivial) (fun hHeld => ?_)
          clear hK K
          refine tkH 12 (v := ?v18) rfl ?hy18 ?rest18
          case hy18 => (intro w hSw; (try go_simp); try with_reducible rfl)
          try simp only [Act.put, PTs]
          refine wpAnyH_ready (rs := [15, 28]) (by kernel_rfl) (by simp) ?_
          refine AllReadyH.cons rfl (fun K hK => ?_) ?_
          · go_simp
            refine (HN23.out _).mono ?_
            rintro e Wn ⟨rfl, hWn⟩
            have HB2 := hide (hWn ▸ HB2.out)
            have HBL := hide (hWn ▸ HBL.out)
            clear hWn
            refine hK.out _ _ (trivial) (fun hHeld => ?_)
            clear hK K
            refine tkH 16 (v := ?v19) rfl ?hy19 ?rest19
            case hy19 => (intro w hSw; (try go_simp); try with_reducible rfl)
            try simp only [Act.put, PTs]
            refine wpAnyH_ready (rs := [19, 28]) (by kernel_rfl) (by simp) ?_
            refine AllReadyH.cons rfl (fun K hK => ?_) ?_
            · go_simp
              refine (HN25.out _).mono ?_
              rintro e Wn ⟨rfl, hWn⟩
              have HB2 := hide (hWn ▸ HB2.out)
              have HBL := hide (hWn ▸ HBL.out)
              clear hWn
              refine hK.out _ _ (trivial) (fun hHeld => ?_)
              clear hK K
              refine tkH 20 (v := ?v20) rfl ?hy20 ?rest20
              case hy20 => (intro w hSw; (try go_simp); try with_reducible rfl)
              try simp only [Act.put, PTs]
              refine wpAnyH_ready (rs := [23, 28]) (by kernel_rfl) (by simp) ?_
              refine AllReadyH.cons rfl (fun K hK => ?_) ?_
              · go_simp
                refine (HS29.out _).mono ?_
                rintro e Wn ⟨rfl, hbn⟩
                have hfn := Frm.of_below (S := fun _ => False) hbn
                have HB2 := hide (HB2.out.frm hfn (fun h => h))
                have HBL := hide (below_frm HBL.out hfn HBL.out.size (fun _ h => h.elim))
                clear hbn hfn
                refine hK.out _ _ (trivial) (fun hHeld => ?_)
                clear hK K
                refine wpAnyH_ready (rs := [26, 28]) (by kernel_rfl) (by simp) ?_
                refine AllReadyH.cons rfl (fun K hK => ?_) ?_
                · go_simp
                  refine (HS45.out _).mono ?_
                  rintro e Wn ⟨rfl, hbn⟩
                  have hfn := Frm.of_below (S := fun _ => False) hbn
                  have HB2 := hide (HB2.out.frm hfn (fun h => h))
                  have HBL := hide (below_frm HBL.out hfn HBL.out.size (fun _ h => h.elim))
                  clear hbn hfn
                  refine hK.out _ _ (trivial) (fun hHeld => ?_)
                  clear hK K
                  refine tkH 27 (v := .agg (slotC ⟨kb, 0, 0, who, epoch, nonce, mac, lo, hi, delay⟩).toArray) rfl ?hy21 ?rest21
                  case hy21 => (intro w hSw; exact held_build _ _ rfl _ _ (hbd w) rfl)
                  try simp only [Act.put, PTs]
                  refine rdH 28 rfl (by kernel_rfl) (fun K hK => ?_)
                  refine step_alloca rfl _ rfl _ zeroS ?_
                  intro g4 Wa hBa hga hFa
                  have HR : Hid (RefAt w g2 g4 slot0 Wa) := ⟨HB2.out.frm hFa (fun h => h), hBa, below_frm HBL.out hFa HBL.out.size (fun _ h => h.elim), ⟨by have := HB2.out.lt; omega, HG2.out, by have := HBL.out.size; omega⟩⟩
                  clear hBa hga hFa
                  refine hK.out _ _ (trivial) (fun hHeld => ?_)
                  clear hK K
                  try simp only [Act.put, PTs]
                  exact key _ g4 HR.out
                refine AllReadyH.cons rfl (fun K hK => ?_) AllReadyH.nil
                refine step_alloca rfl _ rfl _ zeroS ?_
                intro g4 Wa hBa hga hFa
                have HR : Hid (RefAt w g2 g4 slot0 Wa) := ⟨HB2.out.frm hFa (fun h => h), hBa, below_frm HBL.out hFa HBL.out.size (fun _ h => h.elim), ⟨by have := HB2.out.lt; omega, HG2.out, by have := HBL.out.size; omega⟩⟩
                clear hBa hga hFa
                refine hK.out _ _ (trivial) (fun hHeld => ?_)
                clear hK K
                try simp only [Act.put, PTs]
                refine rdH 26 rfl (by kernel_rfl) (fun K hK => ?_)
                go_simp
                refine (HS45.out _).mono ?_
                rintro e Wn ⟨rfl, hbn⟩
                have hfn := Frm.of_below (S := fun _ => False) hbn
                have HR := hide (HR.out.frm hfn)
                clear hbn hfn
                refine hK.out _ _ (trivial) (fun hHeld => ?_)
                clear hK K
                refine tkH 27 (v := .agg (slotC ⟨kb, 0, 0, who, epoch, nonce, mac, lo, hi, delay⟩).toArray) rfl ?hy22 ?rest22
                case hy22 => (intro w hSw; exact held_build _ _ rfl _ _ (hbd w) rfl)
                try simp only [Act.put, PTs]
                exact key _ g4 HR.out
              refine AllReadyH.cons rfl (fun K hK => ?_) AllReadyH.nil
              refine step_alloca rfl _ rfl _ zeroS ?_
              intro g4 Wa hBa hga hFa
              have HR : Hid (RefAt w g2 g4 slot0 Wa) := ⟨HB2.out.frm hFa (fun h => h), hBa, below_frm HBL.out hFa HBL.out.size (fun _ h => h.elim), ⟨by have := HB2.out.lt; omega, HG2.out, by have := HBL.out.size; omega⟩⟩
              clear hBa hga hFa
              refine hK.out _ _ (trivial) (fun hHeld => ?_)
              clear hK K
              try simp only [Act.put, PTs]
              refine rdH 23 rfl (by kernel_rfl) (fun K hK => ?_)
              go_simp
              refine (HS29.out _).mono ?_
              rintro e Wn ⟨rfl, hbn⟩
              have hfn := Frm.of_below (S := fun _ => False) hbn
              have HR := hide (HR.out.frm hfn)
              clear hbn hfn
              refine hK.out _ _ (trivial) (fun hHeld => ?_)
              clear hK K
              refine rdH 26 rfl (by kernel_rfl) (fun K hK => ?_)
              go_simp
              refine (HS45.out _).mono ?_
              rintro e Wn ⟨rfl, hbn⟩
              have hfn := Frm.of_below (S := fun _ => False) hbn
              have HR := hide (HR.out.frm hfn)
              clear hbn hfn
              refine hK.out _ _ (trivial) (fun hHeld => ?_)
              clear hK K
              refine tkH 27 (v := .agg (slotC ⟨kb, 0, 0, who, epoch, nonce, mac, lo, hi, delay⟩).toArray) rfl ?hy23 ?rest23
              case hy23 => (intro w hSw; exact held_build _ _ rfl _ _ (hbd w) rfl)
              try simp only [Act.put, PTs]
              exact key _ g4 HR.out
            refine AllReadyH.cons rfl (fun K hK => ?_) AllReadyH.nil
            refine step_alloca rfl _ rfl _ zeroS ?_
            intro g4 Wa hBa hga hFa
            have HR : Hid (RefAt w g2 g4 slot0 Wa) := ⟨HB2.out.frm hFa (fun h => h), hBa, below_frm HBL.out hFa HBL.out.size (fun _ h => h.elim), ⟨by have := HB2.out.lt; omega, HG2.out, by have := HBL.out.size; omega⟩⟩
            clear hBa hga hFa
            refine hK.out _ _ (trivial) (fun hHeld => ?_)
            clear hK K
            try simp only [Act.put, PTs]
            refine rdH 19 rfl (by kernel_rfl) (fun K hK => ?_)
            go_simp
            refine (HN25.out _).mono ?_
            rintro e Wn ⟨rfl, hWn⟩
            have HR := hide (hWn ▸ HR.out)
            clear hWn
            refine hK.out _ _ (trivial) (fun hHeld => ?_)
            clear hK K
            refine tkH 20 (v := ?v24) rfl ?hy24 ?rest24
            case hy24 => (intro w hSw; (try go_simp); try with_reducible rfl)
            try simp only [Act.put, PTs]
            refine rdH 23 rfl (by kernel_rfl) (fun K hK => ?_)
            go_simp
            refine (HS29.out _).mono ?_
            rintro e Wn ⟨rfl, hbn⟩
            have hfn := Frm.of_below (S := fun _ => False) hbn
            have HR := hide (HR.out.frm hfn)
            clear hbn hfn
            refine hK.out _ _ (trivial) (fun hHeld => ?_)
            clear hK K
            refine rdH 26 rfl (by kernel_rfl) (fun K hK => ?_)
            go_simp
            refine (HS45.out _).mono ?_
            rintro e Wn ⟨rfl, hbn⟩
            have hfn := Frm.of_below (S := fun _ => False) hbn
            have HR := hide (HR.out.frm hfn)
            clear hbn hfn
            refine hK.out _ _ (trivial) (fun hHeld => ?_)
            clear hK K
            refine tkH 27 (v := .agg (slotC ⟨kb, 0, 0, who, epoch, nonce, mac, lo, hi, delay⟩).toArray) rfl ?hy25 ?rest25
            case hy25 => (intro w hSw; exact held_build _ _ rfl _ _ (hbd w) rfl)
            try simp only [Act.put, PTs]
            exact key _ g4 HR.out
          refine AllReadyH.cons rfl (fun K hK => ?_) AllReadyH.nil
          refine step_alloca rfl _ rfl _ zeroS ?_
          intro g4 Wa hBa hga hFa
          have HR : Hid (RefAt w g2 g4 slot0 Wa) := ⟨HB2.out.frm hFa (fun h => h), hBa, below_frm HBL.out hFa HBL.out.size (fun _ h => h.elim), ⟨by have := HB2.out.lt; omega, HG2.out, by have := HBL.out.size; omega⟩⟩
          clear hBa hga hFa
          refine hK.out _ _ (trivial) (fun hHeld => ?_)
          clear hK K
          try simp only [Act.put, PTs]
          refine rdH 15 rfl (by kernel_rfl) (fun K hK => ?_)
          go_simp
          refine (HN23.out _).mono ?_
          rintro e Wn ⟨rfl, hWn⟩
          have HR := hide (hWn ▸ HR.out)
          clear hWn
          refine hK.out _ _ (trivial) (fun hHeld => ?_)
          clear hK K
          refine tkH 16 (v := ?v26) rfl ?hy26 ?rest26
          case hy26 => (intro w hSw; (try go_simp); try with_reducible rfl)
          try simp only [Act.put, PTs]
          refine rdH 19 rfl (by kernel_rfl) (fun K hK => ?_)
          go_simp
          refine (HN25.out _).mono ?_
          rintro e Wn ⟨rfl, hWn⟩
          have HR := hide (hWn ▸ HR.out)
          clear hWn
          refine hK.out _ _ (trivial) (fun hHeld => ?_)
          clear hK K
          refine tkH 20 (v := ?v27) rfl ?hy27 ?rest27
          case hy27 => (intro w hSw; (try go_simp); try with_reducible rfl)
          try simp only [Act.put, PTs]
          refine rdH 23 rfl (by kernel_rfl) (fun K hK => ?_)
          go_simp
          refine (HS29.out _).mono ?_
          rintro e Wn ⟨rfl, hbn⟩
          have hfn := Frm.of_below (S := fun _ => False) hbn
          have HR := hide (HR.out.frm hfn)
          clear hbn hfn
          refine hK.out _ _ (trivial) (fun hHeld => ?_)
          clear hK K
          refine rdH 26 rfl (by kernel_rfl) (fun K hK => ?_)
          go_simp
          refine (HS45.out _).mono ?_
          rintro e Wn ⟨rfl, hbn⟩
          have hfn := Frm.of_below (S := fun _ => False) hbn
          have HR := hide (HR.out.frm hfn)
          clear hbn hfn
          refine hK.out _ _ (trivial) (fun hHeld => ?_)
          clear hK K
          refine tkH 27 (v := .agg (slotC ⟨kb, 0, 0, who, epoch, nonce, mac, lo, hi, delay⟩).toArray) rfl ?hy28 ?rest28
          case hy28 => (intro w hSw; exact held_build _ _ rfl _ _ (hbd w) rfl)
          try simp only [Act.put, PTs]
          exact key _ g4 HR.out
        refine AllReadyH.cons rfl (fun K hK => ?_) AllReadyH.nil
        refine step_alloca rfl _ rfl _ zeroS ?_
        intro g4 Wa hBa hga hFa
        have HR : Hid (RefAt w g2 g4 slot0 Wa) := ⟨HB2.out.frm hFa (fun h => h), hBa, below_frm HBL.out hFa HBL.out.size (fun _ h => h.elim), ⟨by have := HB2.out.lt; omega, HG2.out, by have := HBL.out.size; omega⟩⟩
        clear hBa hga hFa
        refine hK.out _ _ (trivial) (fun hHeld => ?_)
        clear hK K
        try simp only [Act.put, PTs]
        refine rdH 11 rfl (by kernel_rfl) (fun K hK => ?_)
        go_simp
        refine (HN19.out _).mono ?_
        rintro e Wn ⟨rfl, hWn⟩
        have HR := hide (hWn ▸ HR.out)
        clear hWn
        refine hK.out _ _ (trivial) (fun hHeld => ?_)
        clear hK K
        refine tkH 12 (v := ?v29) rfl ?hy29 ?rest29
        case hy29 => (intro w hSw; (try go_simp); try with_reducible rfl)
        try simp only [Act.put, PTs]
        refine rdH 15 rfl (by kernel_rfl) (fun K hK => ?_)
        go_simp
        refine (HN23.out _).mono ?_
        rintro e Wn ⟨rfl, hWn⟩
        have HR := hide (hWn ▸ HR.out)
        clear hWn
        refine hK.out _ _ (trivial) (fun hHeld => ?_)
        clear hK K
        refine tkH 16 (v := ?v30) rfl ?hy30 ?rest30
        case hy30 => (intro w hSw; (try go_simp); try with_reducible rfl)
        try simp only [Act.put, PTs]
        refine rdH 19 rfl (by kernel_rfl) (fun K hK => ?_)
        go_simp
        refine (HN25.out _).mono ?_
        rintro e Wn ⟨rfl, hWn⟩
        have HR := hide (hWn ▸ HR.out)
        clear hWn
        refine hK.out _ _ (trivial) (fun hHeld => ?_)
        clear hK K
        refine tkH 20 (v := ?v31) rfl ?hy31 ?rest31
        case hy31 => (intro w hSw; (try go_simp); try with_reducible rfl)
        try simp only [Act.put, PTs]
        refine rdH 23 rfl (by kernel_rfl) (fun K hK => ?_)
        go_simp
        refine (HS29.out _).mono ?_
        rintro e Wn ⟨rfl, hbn⟩
        have hfn := Frm.of_below (S := fun _ => False) hbn
        have HR := hide (HR.out.frm hfn)
        clear hbn hfn
        refine hK.out _ _ (trivial) (fun hHeld => ?_)
        clear hK K
        refine rdH 26 rfl (by kernel_rfl) (fun K hK => ?_)
        go_simp
        refine (HS45.out _).mono ?_
        rintro e Wn ⟨rfl, hbn⟩
        have hfn := Frm.of_below (S := fun _ => False) hbn
        have HR := hide (HR.out.frm hfn)
        clear hbn hfn
        refine hK.out _ _ (trivial) (fun hHeld => ?_)
        clear hK K
        refine tkH 27 (v := .agg (slotC ⟨kb, 0, 0, who, epoch, nonce, mac, lo, hi, delay⟩).toArray) rfl ?hy32 ?rest32
        case hy32 => (intro w hSw; exact held_build _ _ rfl _ _ (hbd w) rfl)
        try simp only [Act.put, PTs]
        exact key _ g4 HR.out
      refine AllReadyH.cons rfl (fun K hK => ?_) AllReadyH.nil
      refine step_alloca rfl _ rfl _ zeroS ?_
      intro g4 Wa hBa hga hFa
      have HR : Hid (RefAt w g2 g4 slot0 Wa) := ⟨HB2.out.frm hFa (fun h => h), hBa, below_frm HBL.out hFa HBL.out.size (fun _ h => h.elim), ⟨by have := HB2.out.lt; omega, HG2.out, by have := HBL.out.size; omega⟩⟩
      clear hBa hga hFa
      refine hK.out _ _ (trivial) (fun hHeld => ?_)
      clear hK K
      try simp only [Act.put, PTs]
      refine rdH 8 rfl (by kernel_rfl) (fun K hK => ?_)
      go_simp
      refine (HN11.out _).mono ?_
      rintro e Wn ⟨rfl, hWn⟩
      have HR := hide (hWn ▸ HR.out)
      clear hWn
      refine hK.out _ _ (trivial) (fun hHeld => ?_)
      clear hK K
      refine rdH 11 rfl (by kernel_rfl) (fun K hK => ?_)
      go_simp
      refine (HN19.out _).mono ?_
      rintro e Wn ⟨rfl, hWn⟩
      have HR := hide (hWn ▸ HR.out)
      clear hWn
      refine hK.out _ _ (trivial) (fun hHeld => ?_)
      clear hK K
      refine tkH 12 (v := ?v33) rfl ?hy33 ?rest33
      case hy33 => (intro w hSw; (try go_simp); try with_reducible rfl)
      try simp only [Act.put, PTs]
      refine rdH 15 rfl (by kernel_rfl) (fun K hK => ?_)
      go_simp
      refine (HN23.out _).mono ?_
      rintro e Wn ⟨rfl, hWn⟩
      have HR := hide (hWn ▸ HR.out)
      clear hWn
      refine hK.out _ _ (trivial) (fun hHeld => ?_)
      clear hK K
      refine tkH 16 (v := ?v34) rfl ?hy34 ?rest34
      case hy34 => (intro w hSw; (try go_simp); try with_reducible rfl)
      try simp only [Act.put, PTs]
      refine rdH 19 rfl (by kernel_rfl) (fun K hK => ?_)
      go_simp
      refine (HN25.out _).mono ?_
      rintro e Wn ⟨rfl, hWn⟩
      have HR := hide (hWn ▸ HR.out)
      clear hWn
      refine hK.out _ _ (trivial) (fun hHeld => ?_)
      clear hK K
      refine tkH 20 (v := ?v35) rfl ?hy35 ?rest35
      case hy35 => (intro w hSw; (try go_simp); try with_reducible rfl)
      try simp only [Act.put, PTs]
      refine rdH 23 rfl (by kernel_rfl) (fun K hK => ?_)
      go_simp
      refine (HS29.out _).mono ?_
      rintro e Wn ⟨rfl, hbn⟩
      have hfn := Frm.of_below (S := fun _ => False) hbn
      have HR := hide (HR.out.frm hfn)
      clear hbn hfn
      refine hK.out _ _ (trivial) (fun hHeld => ?_)
      clear hK K
      refine rdH 26 rfl (by kernel_rfl) (fun K hK => ?_)
      go_simp
      refine (HS45.out _).mono ?_
      rintro e Wn ⟨rfl, hbn⟩
      have hfn := Frm.of_below (S := fun _ => False) hbn
      have HR := hide (HR.out.frm hfn)
      clear hbn hfn
      refine hK.out _ _ (trivial) (fun hHeld => ?_)
      clear hK K
      refine tkH 27 (v := .agg (slotC ⟨kb, 0, 0, who, epoch, nonce, mac, lo, hi, delay⟩).toArray) rfl ?hy36 ?rest36
      case hy36 => (intro w hSw; exact held_build _ _ rfl _ _ (hbd w) rfl)
      try simp only [Act.put, PTs]
      exact key _ g4 HR.out
    refine AllReadyH.cons rfl (fun K hK => ?_) AllReadyH.nil
    refine step_alloca rfl _ rfl _ zeroS ?_
    intro g4 Wa hBa hga hFa
    have HR : Hid (RefAt w g2 g4 slot0 Wa) := ⟨HB2.out.frm hFa (fun h => h), hBa, below_frm HBL.out hFa HBL.out.size (fun _ h => h.elim), ⟨by have := HB2.out.lt; omega, HG2.out, by have := HBL.out.size; omega⟩⟩
    clear hBa hga hFa
    refine hK.out _ _ (trivial) (fun hHeld => ?_)
    clear hK K
    try simp only [Act.put, PTs]
    refine rdH 5 rfl (by kernel_rfl) (fun K hK => ?_)
    go_simp
    refine (HN3.out _).mono ?_
    rintro e Wn ⟨rfl, hWn⟩
    have HR := hide (hWn ▸ HR.out)
    clear hWn
    refine hK.out _ _ (trivial) (fun hHeld => ?_)
    clear hK K
    refine rdH 8 rfl (by kernel_rfl) (fun K hK => ?_)
    go_simp
    refine (HN11.out _).mono ?_
    rintro e Wn ⟨rfl, hWn⟩
    have HR := hide (hWn ▸ HR.out)
    clear hWn
    refine hK.out _ _ (trivial) (fun hHeld => ?_)
    clear hK K
    refine rdH 11 rfl (by kernel_rfl) (fun K hK => ?_)
    go_simp
    refine (HN19.out _).mono ?_
    rintro e Wn ⟨rfl, hWn⟩
    have HR := hide (hWn ▸ HR.out)
    clear hWn
    refine hK.out _ _ (trivial) (fun hHeld => ?_)
    clear hK K
    refine tkH 12 (v := ?v37) rfl ?hy37 ?rest37
    case hy37 => (intro w hSw; (try go_simp); try with_reducible rfl)
    try simp only [Act.put, PTs]
    refine rdH 15 rfl (by kernel_rfl) (fun K hK => ?_)
    go_simp
    refine (HN23.out _).mono ?_
    rintro e Wn ⟨rfl, hWn⟩
    have HR := hide (hWn ▸ HR.out)
    clear hWn
    refine hK.out _ _ (trivial) (fun hHeld => ?_)
    clear hK K
    refine tkH 16 (v := ?v38) rfl ?hy38 ?rest38
    case hy38 => (intro w hSw; (try go_simp); try with_reducible rfl)
    try simp only [Act.put, PTs]
    refine rdH 19 rfl (by kernel_rfl) (fun K hK => ?_)
    go_simp
    refine (HN25.out _).mono ?_
    rintro e Wn ⟨rfl, hWn⟩
    have HR := hide (hWn ▸ HR.out)
    clear hWn
    refine hK.out _ _ (trivial) (fun hHeld => ?_)
    clear hK K
    refine tkH 20 (v := ?v39) rfl ?hy39 ?rest39
    case hy39 => (intro w hSw; (try go_simp); try with_reducible rfl)
    try simp only [Act.put, PTs]
    refine rdH 23 rfl (by kernel_rfl) (fun K hK => ?_)
    go_simp
    refine (HS29.out _).mono ?_
    rintro e Wn ⟨rfl, hbn⟩
    have hfn := Frm.of_below (S := fun _ => False) hbn
    have HR := hide (HR.out.frm hfn)
    clear hbn hfn
    refine hK.out _ _ (trivial) (fun hHeld => ?_)
    clear hK K
    refine rdH 26 rfl (by kernel_rfl) (fun K hK => ?_)
    go_simp
    refine (HS45.out _).mono ?_
    rintro e Wn ⟨rfl, hbn⟩
    have hfn := Frm.of_below (S := fun _ => False) hbn
    have HR := hide (HR.out.frm hfn)
    clear hbn hfn
    refine hK.out _ _ (trivial) (fun hHeld => ?_)
    clear hK K
    refine tkH 27 (v := .agg (slotC ⟨kb, 0, 0, who, epoch, nonce, mac, lo, hi, delay⟩).toArray) rfl ?hy40 ?rest40
    case hy40 => (intro w hSw; exact held_build _ _ rfl _ _ (hbd w) rfl)
    try simp only [Act.put, PTs]
    exact key _ g4 HR.out

  rintro W1 g4 hA
  have HA0 := hide hA
  clear hA
  generalize hSS : slotC ⟨kb, 0, 0, who, epoch, nonce, mac, lo, hi, delay⟩ = SS at *
  have HSS := hide hSS
  clear hSS
  have hHeld : True := trivial
  refine rdH 29 rfl (by kernel_rfl) (fun K hK => ?_)
  refine step_storea aggS rfl (.tmp 4) (.tmp 34) rfl g4 SS rfl rfl _ _ HA0.out.b4 HSL.out slot0_len HSO.out ?_
  intro W2 hBS hFS
  refine hK.out _ _ (trivial) (fun hHeld => ?_)
  clear hK K
  refine wpAnyH_done (by kernel_rfl) ?_ _
  clear hHeld

  have HA1 : Hid (RefAt w g2 g4 ⟨kb, 0, 0, who, epoch, nonce, mac, lo, hi, delay⟩ W2) := by
    refine ⟨HA0.out.b2.frm hFS HA0.out.ne.1, ?_, below_frm HA0.out.bel hFS HA0.out.bel.size (fun k hk => by have := HA0.out.ne; omega), HA0.out.ne⟩
    rw [HSS.out]
    exact hBS
  clear hBS hFS HA0
  go_wp2_with fail
  refine (HN1.out W2).mono ?_
  rintro e w5 ⟨rfl, rfl⟩
  obtain ⟨c0, c1, c2, _⟩ := (show _ ∧ _ ∧ _ ∧ True from ⟨HA1.out.b4.cell 0, HA1.out.b4.cell 1, HA1.out.b4.cell 2, trivial⟩)
  have hfz : ∀ i, W2.frozen? ⟨g4, i, none⟩ = false := HA1.out.b4.frozen
  have hs0 : (⟨kb, 0, 0, who, epoch, nonce, mac, lo, hi, delay⟩ : Slot).nonce.length = 16 := hN16.out
  simp only [slotC, List.getElem?_toArray, List.getElem?_cons_zero, List.getElem?_cons_succ] at c0 c1 c2
  cases kb
  · have hk1 : ¬ k = 1 := by intro h; subst h; simp at hkb
    have HDD : Hid (D = ⟨false, to, 0, who, epoch, nonce, mac, lo, hi, delay⟩) := by show _ = _; rw [HD.out]; simp only [decide_eq_false hk1, if_neg hk1]
    have HA2 : Hid (RefAt w g2 g4 D (W2.setCell ⟨g4, 1, none⟩ (.int .u16 (to : Int)))) := by
      have hf : Frm (fun k => k = g4) W2 (W2.setCell ⟨g4, 1, none⟩ (.int .u16 (to : Int))) := Frm.setCell _ ⟨g4, 1, none⟩ _ (fun k => k = g4) rfl
      refine ⟨HA1.out.b2.frm hf HA1.out.ne.1, ?_, below_frm HA1.out.bel hf HA1.out.bel.size (fun k hk => by have := HA1.out.ne; omega), HA1.out.ne⟩
      rw [HDD.out]
      exact HA1.out.b4.setL 1 _
    have hB3 := HA2.out.b4
    go_wp2_with (with_reducible refine wpl_loada (op := ⟨some 46, _, _, _, _, _⟩) aggS rfl _ rfl g4 0 rfl _ _ (slotC D) hB3 (by rw [List.drop_zero, List.take_of_length_le (by rw [HDL.out]; exact Nat.le_refl _)]) (by rw [HDL.out]; exact Nat.le_refl _) ?_)
    clear HDD HD HA1 c0 c1 c2 hfz hs0 hkb hk1 hB3
    generalize W2.setCell ⟨g4, 1, none⟩ (.int .u16 (to : Int)) = W3 at *
    refine (HRR.out W3).mono ?_
    rintro e w6 ⟨rfl, hb6⟩
    have HA3 := hide (HA2.out.frm (Frm.of_below hb6))
    clear hb6 HA2 HRR
    go_wp2_with fail
    obtain ⟨N, hN⟩ : ∃ N, N = w6.heap.size := ⟨_, rfl⟩
    have h6 : Below N w6 w6 := hN ▸ Below.refl _ _
    have HA4 : Hid (∀ W', Below N w6 W' → RefAt w g2 g4 D W') := fun W' h => HA3.out.frm (Frm.of_below (hN ▸ h))
    have HZ : ∀ W', Below N w6 W' → Calls Tryz.prog 47 #[.int .i64 3] W' (fun e w'' => e = .returned (.string ⟨(List.replicate 3 (0 : UInt8)).toArray⟩) ∧ Below N w6 w'') :=
      fun W' h => (zerosref_any 3 W' (by omega) (by omega)).mono (fun e w'' ⟨he, hb⟩ => ⟨he, hb ▸ h⟩)
    clear hN HA3
    have HZL : Hid ((List.replicate 3 (0 : UInt8)) = [0, 0, 0]) := rfl
    generalize hzz : (List.replicate 3 (0 : UInt8)) = ZZ at *
    have hbz := HBZ.out ZZ
    refine wp_region_class (fun W' => Below N w6 W') (by kernel_rfl) (by kernel_rfl) (below_drewN h6 1) ?_
    by_cases hk2 : 1 < k
    · have HOK2 : Hid (OK = false) := by show _ = _; rw [HOK.out, decide_eq_false (by omega)]; rfl
      have hd : decide (1 < k) = true := decide_eq_true hk2
      have hd' : (1 : Int) < (k : Int) := by omega
      iterate 4 (with_reducible refine wpQuiet_step ?_; intro K hK; go_simp; first | (refine hK _ ?_; clear hK K) | (refine ⟨_, fun w' hw' => rfl, hK _ ?_⟩; clear hK K))
      with_reducible refine wpQuiet_step ?_
      intro K hK
      go_simp
      refine hK _ ?_
      clear hK K
      with_reducible refine wpQuiet_step ?_
      intro K hK
      go_simp
      refine hK _ ?_
      clear hK K
      with_reducible refine wpQuiet_step ?_
      intro K hK
      go_simp
      refine hK _ ?_
      clear hK K
      with_reducible refine wpQuiet_step ?_
      intro K hK
      go_simp
      refine hK _ ?_
      clear hK K
      iterate 2 (with_reducible refine wpQuiet_step ?_; intro K hK; go_simp; first | (refine hK _ ?_; clear hK K) | (refine ⟨_, fun w' hw' => rfl, hK _ ?_⟩; clear hK K))
      with_reducible refine wpQuiet_step ?_
      intro K hK
      go_simp
      refine hK _ ?_
      clear hK K
      with_reducible refine wpQuiet_step ?_
      intro K hK
      go_simp
      refine hK _ ?_
      clear hK K
      with_reducible refine wpQuiet_step ?_; intro K hK; go_simp; first | (refine hK _ ?_; clear hK K) | (refine ⟨_, fun w' hw' => rfl, hK _ ?_⟩; clear hK K)
      refine wpQuiet_nil ?_
      intro w7 hw7
      have ha : ANS = slot0 := by rw [HA.out, HOK2.out]; rfl
      have he : ERRD = 3 := by rw [HE.out, HOK2.out]; rfl
      subst ha he
      clear HA HE HOK HOK2
      have hbd0 := build_slot0
      have HA5 := hide (HA4.out w7 hw7)
      have hB25 := HA5.out.b2
      go_wp2_with (first
        | (refine wpl_held (op := ⟨some 61, _, _, _, _, _⟩) (.agg (slotC slot0).toArray) (held_build _ _ rfl _ _ (hbd0 _) rfl) rfl ?_)
        | ((with_reducible refine wpl_storea aggS rfl (.tmp 2) (.tmp 61) rfl g2 (slotC slot0) rfl rfl _ _ hB25 HAL.out slot0_len HAO.out ?_); intro w9 hB9 hF9))
      refine bodyPost_ret (results_ct aggS rfl _ _ g2 _ _ rfl hB9 HAL.out) rfl ⟨rfl, ?_⟩
      exact below_frm HA5.out.bel hF9 HA5.out.bel.size (fun k hk => by have := HA5.out.ne; omega)
    · have hd : decide (1 < k) = false := decide_eq_false hk2
      have hd' : ¬ (1 : Int) < (k : Int) := by omega
      generalize hb7 : (X61 == ZZ) = bz at *
      cases bz
      · have HOK2 : Hid (OK = false) := by show _ = _; rw [HOK.out, Bool.false_and, Bool.and_false]
        iterate 6 (with_reducible refine wpQuiet_step ?_; intro K hK; go_simp; first | (refine hK _ ?_; clear hK K) | (refine ⟨_, fun w' hw' => rfl, hK _ ?_⟩; clear hK K))
        with_reducible refine wpQuiet_step ?_
        intro K hK
        go_simp
        refine ⟨_, HZ, hK _ ?_⟩
        clear hK K
        iterate 3 (with_reducible refine wpQuiet_step ?_; intro K hK; go_simp; first | (refine hK _ ?_; clear hK K) | (refine ⟨_, fun w' hw' => rfl, hK _ ?_⟩; clear hK K))
        with_reducible refine wpQuiet_step ?_
        intro K hK
        go_simp
        refine hK _ ?_
        clear hK K
        with_reducible refine wpQuiet_step ?_
        intro K hK
        go_simp
        refine hK _ ?_
        clear hK K
        with_reducible refine wpQuiet_step ?_; intro K hK; go_simp; first | (refine hK _ ?_; clear hK K) | (refine ⟨_, fun w' hw' => rfl, hK _ ?_⟩; clear hK K)
        refine wpQuiet_nil ?_
        intro w7 hw7
        have ha : ANS = slot0 := by rw [HA.out, HOK2.out]; rfl
        have he : ERRD = 3 := by rw [HE.out, HOK2.out]; rfl
        subst ha he
        clear HA HE HOK HOK2
        have hbd0 := build_slot0
        have HA5 := hide (HA4.out w7 hw7)
        have hB25 := HA5.out.b2
        go_wp2_with (first
          | (refine wpl_held (op := ⟨some 61, _, _, _, _, _⟩) (.agg (slotC slot0).toArray) (held_build _ _ rfl _ _ (hbd0 _) rfl) rfl ?_)
          | ((with_reducible refine wpl_storea aggS rfl (.tmp 2) (.tmp 61) rfl g2 (slotC slot0) rfl rfl _ _ hB25 HAL.out slot0_len HAO.out ?_); intro w9 hB9 hF9))
        refine bodyPost_ret (results_ct aggS rfl _ _ g2 _ _ rfl hB9 HAL.out) rfl ⟨rfl, ?_⟩
        exact below_frm HA5.out.bel hF9 HA5.out.bel.size (fun k hk => by have := HA5.out.ne; omega)
      · generalize rightB D = R at *
        cases R
        · have HOK2 : Hid (OK = false) := by show _ = _; rw [HOK.out, Bool.and_false, Bool.and_false]
          iterate 6 (with_reducible refine wpQuiet_step ?_; intro K hK; go_simp; first | (refine hK _ ?_; clear hK K) | (refine ⟨_, fun w' hw' => rfl, hK _ ?_⟩; clear hK K))
          with_reducible refine wpQuiet_step ?_
          intro K hK
          go_simp
          refine ⟨_, HZ, hK _ ?_⟩
          clear hK K
          iterate 6 (with_reducible refine wpQuiet_step ?_; intro K hK; go_simp; first | (refine hK _ ?_; clear hK K) | (refine ⟨_, fun w' hw' => rfl, hK _ ?_⟩; clear hK K))
          refine wpQuiet_nil ?_
          intro w7 hw7
          have ha : ANS = slot0 := by rw [HA.out, HOK2.out]; rfl
          have he : ERRD = 3 := by rw [HE.out, HOK2.out]; rfl
          subst ha he
          clear HA HE HOK HOK2
          have hbd0 := build_slot0
          have HA5 := hide (HA4.out w7 hw7)
          have hB25 := HA5.out.b2
          go_wp2_with (first
            | (refine wpl_held (op := ⟨some 61, _, _, _, _, _⟩) (.agg (slotC slot0).toArray) (held_build _ _ rfl _ _ (hbd0 _) rfl) rfl ?_)
            | ((with_reducible refine wpl_storea aggS rfl (.tmp 2) (.tmp 61) rfl g2 (slotC slot0) rfl rfl _ _ hB25 HAL.out slot0_len HAO.out ?_); intro w9 hB9 hF9))
          refine bodyPost_ret (results_ct aggS rfl _ _ g2 _ _ rfl hB9 HAL.out) rfl ⟨rfl, ?_⟩
          exact below_frm HA5.out.bel hF9 HA5.out.bel.size (fun k hk => by have := HA5.out.ne; omega)
        · have HOK2 : Hid (OK = true) := by show _ = _; rw [HOK.out, decide_eq_true (by omega)]; rfl
          iterate 6 (with_reducible refine wpQuiet_step ?_; intro K hK; go_simp; first | (refine hK _ ?_; clear hK K) | (refine ⟨_, fun w' hw' => rfl, hK _ ?_⟩; clear hK K))
          with_reducible refine wpQuiet_step ?_
          intro K hK
          go_simp
          refine ⟨_, HZ, hK _ ?_⟩
          clear hK K
          iterate 6 (with_reducible refine wpQuiet_step ?_; intro K hK; go_simp; first | (refine hK _ ?_; clear hK K) | (refine ⟨_, fun w' hw' => rfl, hK _ ?_⟩; clear hK K))
          refine wpQuiet_nil ?_
          intro w7 hw7
          have ha : ANS = D := by rw [HA.out, HOK2.out]; rfl
          have he : ERRD = 0 := by rw [HE.out, HOK2.out]; rfl
          subst ha he
          clear HA HE HOK HOK2
          have HA5 := hide (HA4.out w7 hw7)
          have hB5 := HA5.out.b4
          have hB25 := HA5.out.b2
          go_wp2_with (first
            | (with_reducible refine wpl_loada (op := ⟨some 62, _, _, _, _, _⟩) aggS rfl _ rfl g4 0 rfl _ _ (slotC ANS) hB5 (by rw [List.drop_zero, List.take_of_length_le (by rw [HAL.out]; exact Nat.le_refl _)]) (by rw [HAL.out]; exact Nat.le_refl _) ?_)
            | ((with_reducible refine wpl_storea aggS rfl (.tmp 2) (.tmp 62) rfl g2 (slotC ANS) rfl rfl _ _ hB25 HAL.out slot0_len HAO.out ?_); intro w9 hB9 hF9))
          refine bodyPost_ret (results_ct aggS rfl _ _ g2 _ _ rfl hB9 HAL.out) rfl ⟨rfl, ?_⟩
          exact below_frm HA5.out.bel hF9 HA5.out.bel.size (fun k hk => by have := HA5.out.ne; omega)
  · have hk1 : k = 1 := by have h : (k : Int) = 1 := by simpa using hkb
                           omega
    have HDD : Hid (D = ⟨true, 0, to, who, epoch, nonce, mac, lo, hi, delay⟩) := by show _ = _; rw [HD.out]; simp only [decide_eq_true hk1, if_pos hk1]
    have HA2 : Hid (RefAt w g2 g4 D (W2.setCell ⟨g4, 2, none⟩ (.int .u16 (to : Int)))) := by
      have hf : Frm (fun k => k = g4) W2 (W2.setCell ⟨g4, 2, none⟩ (.int .u16 (to : Int))) := Frm.setCell _ ⟨g4, 2, none⟩ _ (fun k => k = g4) rfl
      refine ⟨HA1.out.b2.frm hf HA1.out.ne.1, ?_, below_frm HA1.out.bel hf HA1.out.bel.size (fun k hk => by have := HA1.out.ne; omega), HA1.out.ne⟩
      rw [HDD.out]
      exact HA1.out.b4.setL 2 _
    have HK1 := hide hk1
    have hB3 := HA2.out.b4
    go_wp2_with (with_reducible refine wpl_loada (op := ⟨some 46, _, _, _, _, _⟩) aggS rfl _ rfl g4 0 rfl _ _ (slotC D) hB3 (by rw [List.drop_zero, List.take_of_length_le (by rw [HDL.out]; exact Nat.le_refl _)]) (by rw [HDL.out]; exact Nat.le_refl _) ?_)
    clear HDD HD HA1 c0 c1 c2 hfz hs0 hkb hk1 hB3
    generalize W2.setCell ⟨g4, 2, none⟩ (.int .u16 (to : Int)) = W3 at *
    refine (HRR.out W3).mono ?_
    rintro e w6 ⟨rfl, hb6⟩
    have HA3 := hide (HA2.out.frm (Frm.of_below hb6))
    clear hb6 HA2 HRR
    go_wp2_with fail
    obtain ⟨N, hN⟩ : ∃ N, N = w6.heap.size := ⟨_, rfl⟩
    have h6 : Below N w6 w6 := hN ▸ Below.refl _ _
    have HA4 : Hid (∀ W', Below N w6 W' → RefAt w g2 g4 D W') := fun W' h => HA3.out.frm (Frm.of_below (hN ▸ h))
    have HZ : ∀ W', Below N w6 W' → Calls Tryz.prog 47 #[.int .i64 3] W' (fun e w'' => e = .returned (.string ⟨(List.replicate 3 (0 : UInt8)).toArray⟩) ∧ Below N w6 w'') :=
      fun W' h => (zerosref_any 3 W' (by omega) (by omega)).mono (fun e w'' ⟨he, hb⟩ => ⟨he, hb ▸ h⟩)
    clear hN HA3
    have HZL : Hid ((List.replicate 3 (0 : UInt8)) = [0, 0, 0]) := rfl
    generalize hzz : (List.replicate 3 (0 : UInt8)) = ZZ at *
    have hbz := HBZ.out ZZ
    refine wp_region_class (fun W' => Below N w6 W') (by kernel_rfl) (by kernel_rfl) (below_drewN h6 1) ?_
    have hk2 : ¬ 1 < k := by have := HK1.out; omega
    have hd : decide (1 < k) = false := decide_eq_false hk2
    have hd' : ¬ (1 : Int) < (k : Int) := by omega
    generalize hb7 : (X61 == ZZ) = bz at *
    cases bz
    · have HOK2 : Hid (OK = false) := by show _ = _; rw [HOK.out, Bool.false_and, Bool.and_false]
      iterate 6 (with_reducible refine wpQuiet_step ?_; intro K hK; go_simp; first | (refine hK _ ?_; clear hK K) | (refine ⟨_, fun w' hw' => rfl, hK _ ?_⟩; clear hK K))
      with_reducible refine wpQuiet_step ?_
      intro K hK
      go_simp
      refine ⟨_, HZ, hK _ ?_⟩
      clear hK K
      iterate 3 (with_reducible refine wpQuiet_step ?_; intro K hK; go_simp; first | (refine hK _ ?_; clear hK K) | (refine ⟨_, fun w' hw' => rfl, hK _ ?_⟩; clear hK K))
      with_reducible refine wpQuiet_step ?_
      intro K hK
      go_simp
      refine hK _ ?_
      clear hK K
      with_reducible refine wpQuiet_step ?_
      intro K hK
      go_simp
      refine hK _ ?_
      clear hK K
      with_reducible refine wpQuiet_step ?_; intro K hK; go_simp; first | (refine hK _ ?_; clear hK K) | (refine ⟨_, fun w' hw' => rfl, hK _ ?_⟩; clear hK K)
      refine wpQuiet_nil ?_
      intro w7 hw7
      have ha : ANS = slot0 := by rw [HA.out, HOK2.out]; rfl
      have he : ERRD = 3 := by rw [HE.out, HOK2.out]; rfl
      subst ha he
      clear HA HE HOK HOK2
      have hbd0 := build_slot0
      have HA5 := hide (HA4.out w7 hw7)
      have hB25 := HA5.out.b2
      go_wp2_with (first
        | (refine wpl_held (op := ⟨some 61, _, _, _, _, _⟩) (.agg (slotC slot0).toArray) (held_build _ _ rfl _ _ (hbd0 _) rfl) rfl ?_)
        | ((with_reducible refine wpl_storea aggS rfl (.tmp 2) (.tmp 61) rfl g2 (slotC slot0) rfl rfl _ _ hB25 HAL.out slot0_len HAO.out ?_); intro w9 hB9 hF9))
      refine bodyPost_ret (results_ct aggS rfl _ _ g2 _ _ rfl hB9 HAL.out) rfl ⟨rfl, ?_⟩
      exact below_frm HA5.out.bel hF9 HA5.out.bel.size (fun k hk => by have := HA5.out.ne; omega)
    · generalize rightB D = R at *
      cases R
      · have HOK2 : Hid (OK = false) := by show _ = _; rw [HOK.out, Bool.and_false, Bool.and_false]
        iterate 6 (with_reducible refine wpQuiet_step ?_; intro K hK; go_simp; first | (refine hK _ ?_; clear hK K) | (refine ⟨_, fun w' hw' => rfl, hK _ ?_⟩; clear hK K))
        with_reducible refine wpQuiet_step ?_
        intro K hK
        go_simp
        refine ⟨_, HZ, hK _ ?_⟩
        clear hK K
        iterate 6 (with_reducible refine wpQuiet_step ?_; intro K hK; go_simp; first | (refine hK _ ?_; clear hK K) | (refine ⟨_, fun w' hw' => rfl, hK _ ?_⟩; clear hK K))
        refine wpQuiet_nil ?_
        intro w7 hw7
        have ha : ANS = slot0 := by rw [HA.out, HOK2.out]; rfl
        have he : ERRD = 3 := by rw [HE.out, HOK2.out]; rfl
        subst ha he
        clear HA HE HOK HOK2
        have hbd0 := build_slot0
        have HA5 := hide (HA4.out w7 hw7)
        have hB25 := HA5.out.b2
        go_wp2_with (first
          | (refine wpl_held (op := ⟨some 61, _, _, _, _, _⟩) (.agg (slotC slot0).toArray) (held_build _ _ rfl _ _ (hbd0 _) rfl) rfl ?_)
          | ((with_reducible refine wpl_storea aggS rfl (.tmp 2) (.tmp 61) rfl g2 (slotC slot0) rfl rfl _ _ hB25 HAL.out slot0_len HAO.out ?_); intro w9 hB9 hF9))
        refine bodyPost_ret (results_ct aggS rfl _ _ g2 _ _ rfl hB9 HAL.out) rfl ⟨rfl, ?_⟩
        exact below_frm HA5.out.bel hF9 HA5.out.bel.size (fun k hk => by have := HA5.out.ne; omega)
      · have HOK2 : Hid (OK = true) := by show _ = _; rw [HOK.out, decide_eq_true (by omega)]; rfl
        iterate 6 (with_reducible refine wpQuiet_step ?_; intro K hK; go_simp; first | (refine hK _ ?_; clear hK K) | (refine ⟨_, fun w' hw' => rfl, hK _ ?_⟩; clear hK K))
        with_reducible refine wpQuiet_step ?_
        intro K hK
        go_simp
        refine ⟨_, HZ, hK _ ?_⟩
        clear hK K
        iterate 6 (with_reducible refine wpQuiet_step ?_; intro K hK; go_simp; first | (refine hK _ ?_; clear hK K) | (refine ⟨_, fun w' hw' => rfl, hK _ ?_⟩; clear hK K))
        refine wpQuiet_nil ?_
        intro w7 hw7
        have ha : ANS = D := by rw [HA.out, HOK2.out]; rfl
        have he : ERRD = 0 := by rw [HE.out, HOK2.out]; rfl
        subst ha he
        clear HA HE HOK HOK2
        have HA5 := hide (HA4.out w7 hw7)
        have hB5 := HA5.out.b4
        have hB25 := HA5.out.b2
        go_wp2_with (first
          | (with_reducible refine wpl_loada (op := ⟨some 62, _, _, _, _, _⟩) aggS rfl _ rfl g4 0 rfl _ _ (slotC ANS) hB5 (by rw [List.drop_zero, List.take_of_length_le (by rw [HAL.out]; exact Nat.le_refl _)]) (by rw [HAL.out]; exact Nat.le_refl _) ?_)
          | ((with_reducible refine wpl_storea aggS rfl (.tmp 2) (.tmp 62) rfl g2 (slotC ANS) rfl rfl _ _ hB25 HAL.out slot0_len HAO.out ?_); intro w9 hB9 hF9))
        refine bodyPost_ret (results_ct aggS rfl _ _ g2 _ _ rfl hB9 HAL.out) rfl ⟨rfl, ?_⟩
        exact below_frm HA5.out.bel hF9 HA5.out.bel.size (fun k hk => by have := HA5.out.ne; omega)
end Go.Proofs.YtoiiiflnnhkjbaaGreatDoor
