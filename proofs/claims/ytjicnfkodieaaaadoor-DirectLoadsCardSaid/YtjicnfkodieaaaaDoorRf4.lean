/-
  The document's Bytes, and Number.
-/
import Derived.Test.YtjicnfkodieaaaaDoorRf1
import Derived.Test.YtjicnfkodieaaaaDoorRf2
namespace Go.Proofs.YtjicnfkodieaaaaDoor
set_option linter.unusedVariables false
set_option linter.unusedSimpArgs false
open Go.RowKit

set_option maxHeartbeats 4000000 in
set_option maxRecDepth 100000 in
theorem rbytes_any (g : Nat) (D : List Rec) (w0 w : World) (h : RDir w0 w g D) : Calls Tryd.prog 26 #[.pointer (some ⟨g, 0, none⟩)] w fun en w' =>
    en = .returned (.string ⟨(bytesL D).toArray⟩) ∧ Frm (fun _ => False) w w' := by
  obtain ⟨hlow, hok, A, n, c, hb, hq⟩ := h
  have hn := hq.len
  have hn64 : n ≤ 64 := by have := hok.len; omega
  have HB := hide hb
  have HQ := hide hq
  have HN := hide hn
  have HIN : Hid (∀ r ∈ D, r.in32) := fun r hr => (hok.ok r hr).in32
  have HSE := hide (fun W => sealed_any (encL D) W (by rw [encL_length]; omega))
  have HE0 : Hid ((encL D).length ≤ 896) := by show _ ≤ _; rw [encL_length]; omega
  obtain ⟨RES, hRES⟩ : ∃ R, R = (⟨(bytesL D).toArray⟩ : ByteArray) := ⟨_, rfl⟩
  have hSE : (encL D ++ shaL (encL D)) = bytesL D := rfl
  rw [hSE, ← hRES] at HSE
  rw [← hRES]
  clear hlow hok hb hq hn hSE hRES
  go_enter Tryd.func26, Tryd.ntmps26
  go_wp2_with fail
  go_loopw [3, 4] (fun s i wr => ∃ k : Nat, k ≤ n ∧ i = .int .i64 k ∧ s = .string ⟨(encL (D.take k)).toArray⟩ ∧ Frm (fun _ => False) w wr) (fun _ i _ => n - (intOf i).toNat)
  case atStart => exact ⟨0, by omega, rfl, rfl, Frm.refl _ _⟩
  case round =>
    obtain ⟨k, hk, rfl, rfl, hf⟩ := hrel
    have HF := hide hf
    have d0 : wr.cell? ⟨g, 0, none⟩ = some (.slice A n c) := (HB.out.frm hf (fun h => h)).cell 0
    clear hf
    by_cases hlt : k < n
    · have hlt' : (k : Int) < (n : Int) := by omega
      obtain ⟨gr, rfl, _, hgr, hcells⟩ := HQ.out.cells (by omega)
      obtain ⟨x, hx⟩ : ∃ x, x = D.getD k default := ⟨_, rfl⟩
      have hxc : ∀ q u, (recC x)[q]? = some u → wr.cell? ((⟨gr, k * 4, none⟩ : Addr).add q) = some u := fun q u hq => by
        have hq4 : q < 4 := by have := (List.getElem?_eq_some_iff.1 hq).1; rwa [recC_length] at this
        have h1 := hcells k q hlt hq4
        rw [← hx, hq] at h1
        rw [Addr.add_mid]
        exact cell_frm HF.out h1 (fun h => h)
      have HT := hide (text9_any x wr (HIN.out x (by rw [hx]; exact getD_mem (by rw [HN.out]; exact hlt))))
      have hs : encL (D.take (k + 1)) = encL (D.take k) ++ encR x := by
        rw [take_succ_rec D k (by rw [HN.out]; exact hlt), encL_append, hx]
        simp [encL]
      have hap : ((⟨(encL (D.take k)).toArray⟩ : ByteArray) ++ ⟨(encR x).toArray⟩) = ⟨(encL (D.take (k + 1))).toArray⟩ := by rw [txt_append, hs]
      have z0 : (⟨(encL (D.take k)).toArray⟩ : ByteArray).size ≤ 896 := by
        rw [size_mk, encL_length, List.length_take]
        have := HN.out
        omega
      have z1 : (⟨(encR x).toArray⟩ : ByteArray).size = 14 := by rw [size_mk, encR_length]
      generalize (⟨(encL (D.take k)).toArray⟩ : ByteArray) = T0 at *
      generalize (⟨(encR x).toArray⟩ : ByteArray) = T1 at *
      generalize hT2 : (⟨(encL (D.take (k + 1))).toArray⟩ : ByteArray) = T2 at *
      have HT2 := hide hT2
      clear hT2 hs hx hcells
      go_wp2_with (with_reducible refine wpl_loadq (op := ⟨some 21, _, _, _, _, _⟩) rfl (.tmp 20) rfl ⟨gr, k * 4, none⟩ rfl x hxc ?_)
      refine HT.out.mono ?_
      rintro e_ w4 ⟨rfl, hb4⟩
      have HF4 := hide (frm_false_trans HF.out (Frm.of_below hb4))
      clear hb4 HT hxc d0 HF
      go_wp2_with fail
      go_roundw
      case rel => exact ⟨k + 1, by omega, by go_num, by rw [HT2.out], HF4.out⟩
      case measure => simp [intOf]; omega
    · obtain rfl : k = n := by omega
      have hall : D.take k = D := List.take_of_length_le (by rw [HN.out]; exact Nat.le_refl _)
      rw [hall]
      clear hall
      go_wp2_with fail
      refine (HSE.out wr).mono ?_
      rintro e_ w4 ⟨rfl, hb4⟩
      have HF4 := hide (frm_false_trans HF.out (Frm.of_below hb4))
      clear hb4 HSE
      go_wp2_with fail
      go_ret
      exact ⟨rfl, HF4.out⟩

set_option maxHeartbeats 2000000 in
theorem num24_any (l : List UInt8) (n : Nat) (w : World) (hl : l.length = n) (hn4 : n ≤ 4) :
    Calls Tryd.prog 44 #[.string ⟨l.toArray⟩] w fun e w' => e = .returned (.int .u64 (num l : Nat)) ∧ w = w' := by
  have HL := hide hl
  have hsz : (⟨l.toArray⟩ : ByteArray).size = n := by show l.toArray.size = n; simpa using hl
  clear hl
  go_enter Tryd.func44, Tryd.ntmps44
  go_wp2_with fail
  go_loop [3, 4] (fun v i => ∃ k : Nat, k ≤ n ∧ i = .int .i64 k ∧ v = .int .u64 (num (l.take k) : Nat)) (fun _ i => n - (intOf i).toNat)
  case atStart => exact ⟨0, by omega, rfl, rfl⟩
  case round =>
    obtain ⟨k, hk, rfl, rfl⟩ := hrel
    by_cases hlt : k < n
    · have hlt' : (k : Int) < (n : Int) := by omega
      have hn := num_take_lt l k 4 (by omega)
      have HT := hide (num_take_succ l k (by rw [HL.out]; exact hlt))
      have hb := (l[k]?.getD 0).toNat_lt
      generalize num (l.take k) = x at *
      have hix : ∀ w, Sem.run Tryd.prog (Instr.index 9 (.string ⟨l.toArray⟩) (.int .i64 (k : Int))) w = .ok (.int .u8 ((l[k]?.getD 0).toNat : Int)) w := by
        intro w
        have hkl : k < l.length := by rw [HL.out]; exact hlt
        have h1 : (⟨l.toArray⟩ : ByteArray)[k]? = some (l[k]?.getD 0) := by
          rw [List.getElem?_eq_getElem hkl]
          exact (dif_pos (show k < (⟨l.toArray⟩ : ByteArray).size by rw [hsz]; exact hlt)).trans (congrArg some rfl)
        simp only [Instr.index, asIntOf, Sem.run_bind, run_underlying under9, Result.andThen_ok]
        simp [h1]
      generalize l[k]?.getD 0 = c at *
      go_wp2_with fail
      go_round
      case rel => exact ⟨k + 1, by omega, by go_num, by rw [HT.out]; simp⟩
      case measure => simp [intOf]; omega
    · obtain rfl : k = n := by omega
      have hlt' : ¬ (k : Int) < (k : Int) := by omega
      have hall : l.take k = l := List.take_of_length_le (by rw [HL.out]; exact Nat.le_refl _)
      rw [hall]
      clear hall
      go_wp2_with fail
      go_ret
      exact ⟨rfl, rfl⟩
end Go.Proofs.YtjicnfkodieaaaaDoor
