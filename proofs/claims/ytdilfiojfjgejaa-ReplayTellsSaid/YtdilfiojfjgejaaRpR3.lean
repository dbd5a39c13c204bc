/-
  The document's own tags: Expire.
-/
import Derived.Test.YtdilfiojfjgejaaRpR2
namespace Go.Proofs.Ytdilfiojfjgejaa
set_option linter.unusedVariables false
set_option linter.unusedSimpArgs false
open Go.RowKit

theorem filt_yes {l : List Ent} {j fl : Nat} (hj : j < l.length) (h : fl ≤ (at_ entK l j).e) : (l.take (j + 1)).filter (fun s => decide (fl ≤ s.e)) = (l.take j).filter (fun s => decide (fl ≤ s.e)) ++ [at_ entK l j] := by
  rw [at_eq hj] at h ⊢
  rw [← List.take_append_getElem hj, List.filter_append, List.filter_cons_of_pos (by simpa using h), List.filter_nil]
theorem filt_no {l : List Ent} {j fl : Nat} (hj : j < l.length) (h : ¬ fl ≤ (at_ entK l j).e) : (l.take (j + 1)).filter (fun s => decide (fl ≤ s.e)) = (l.take j).filter (fun s => decide (fl ≤ s.e)) := by
  rw [at_eq hj] at h
  rw [← List.take_append_getElem hj, List.filter_append, List.filter_cons_of_neg (by simpa using h), List.filter_nil, List.append_nil]

set_option maxHeartbeats 8000000 in
set_option maxRecDepth 100000 in
theorem rexp_any (B g : Nat) (t : T) (b : Nat) (hb32 : b < 4294967296) (hs : t.l.length ≤ 900000) (w : World) (h : RAt w B g t) :
    Calls Try.prog 14 #[.pointer (some ⟨g, 0, none⟩), .int .u32 (b : Int)] w fun r w' => r = .returned (.int .i64 (t.gone b : Int)) ∧ RAt w' B g (t.exp b) ∧ Frm (fun k => k = g) w w' := by
  obtain ⟨hBg, A, n, c, hb, ho⟩ := h
  obtain ⟨fl, hfl⟩ : ∃ k, k = max t.floor b := ⟨_, rfl⟩
  have HMX : Hid ((fl : Int) = if (b : Int) > (t.floor : Int) then (b : Int) else (t.floor : Int)) := by show _ = _; rw [hfl]; split <;> omega
  unfold T.gone T.exp T.keep
  rw [← hfl]
  obtain ⟨l, hl⟩ : ∃ l, l = t.l := ⟨_, rfl⟩
  obtain ⟨most, hm⟩ : ∃ l, l = t.most := ⟨_, rfl⟩
  obtain ⟨flo, hf0⟩ : ∃ l, l = t.floor := ⟨_, rfl⟩
  rw [← hm, ← hf0] at hb
  rw [← hf0] at HMX
  rw [← hl] at ho hs
  simp only [← hl, ← hm]
  have hn := ho.len
  rw [hn] at hs
  have hgl := hb.lt
  have c2 : w.cell? ⟨g, 2, none⟩ = some (.int .u32 (flo : Int)) := hb.cell 2
  have z2 : w.frozen? ⟨g, 2, none⟩ = false := hb.frozen 2
  have f1 : Frm (fun k => k = g) w (w.setCell ⟨g, 2, none⟩ (.int .u32 (fl : Int))) := Frm.setCell _ _ _ _ rfl
  have hb1 : Blk (w.setCell ⟨g, 2, none⟩ (.int .u32 (fl : Int))) g 40 #[.int .i64 (most : Int), .slice A n c, .int .u32 (fl : Int)] := hb.set 2 _
  have ho1 := ho.frm f1 (fun k hk e => ho.ne hb (by decide) (by rw [hk, e]))
  have hsz1 : w.heap.size ≤ (w.setCell ⟨g, 2, none⟩ (.int .u32 (fl : Int))).heap.size := f1.size
  have hBw : B ≤ w.heap.size := by omega
  have HF1 := hide f1
  have HB1 := hide hb1
  have HO1 := hide ho1
  have HN := hide hn
  clear f1 hb1 ho1 hb ho hfl hl hm hf0 hn
  go_enter Try.func14, Try.ntmps14
  go_wp2_with (with_reducible refine wpl_held (op := ⟨some 14, _, _, _, _, _⟩) (.int .u32 (fl : Int)) (held_maxU (.tmp 12) (.tmp 13) 28 28 rfl .u32 (flo : Int) (b : Int) (fl : Int) rfl rfl HMX.out) rfl ?_)
  generalize hw1 : w.setCell ⟨g, 2, none⟩ (.int .u32 (fl : Int)) = w1 at HF1 HB1 HO1 hsz1 ⊢
  clear hw1 c2 z2
  go_loopw [5, 6] (fun s i wr => ∃ (j : Nat) (A2 : Option Addr) (n2 c2 : Nat), j ≤ n ∧ i = .int .i64 (j : Int) ∧ s = .slice A2 n2 c2 ∧ TOwn wr 53 entK w1.heap.size A2 n2 c2 ((l.take j).filter fun s => decide (fl ≤ s.e)) ∧ n2 ≤ j ∧ Frm (fun _ => False) w1 wr) (fun _ i _ => n - (intOf i).toNat)
  case atStart => exact ⟨0, none, 0, 0, by omega, rfl, rfl, TOwn.nil _ _, by omega, Frm.refl _ _⟩
  case round =>
    obtain ⟨j, A2, n2, c2, hj, rfl, rfl, hk, hnj, hf⟩ := hrel
    have hb2 := HB1.out.frm hf (fun h => h)
    have d1 : wr.cell? ⟨g, 1, none⟩ = some (.slice A n c) := hb2.cell 1
    have HF := hide hf
    have HK := hide hk
    by_cases hjn : j < n
    · have hjn' : (j : Int) < (n : Int) := by omega
      have hjl : j < l.length := by rw [HN.out]; exact hjn
      have d2 : wr.cell? ⟨g, 2, none⟩ = some (.int .u32 (fl : Int)) := hb2.cell 2
      obtain ⟨r, rfl, HR⟩ : ∃ r, A = some ⟨r, 0, none⟩ ∧ Hid (RowB w1 53 entK r c l) := by
        rcases HO1.out.row with ⟨_, h0, _, _⟩ | ⟨r, rfl, hB, hr⟩
        · omega
        · exact ⟨r, rfl, hr⟩
      obtain ⟨ej, hej⟩ : ∃ k, k = (at_ entK l j).e := ⟨_, rfl⟩
      have dj : wr.cell? ⟨r, j * 17, none⟩ = some (.int .u32 (ej : Int)) := by rw [hej]; exact (HR.out.frm0 hf).cell j 0 hjl (by decide)
      clear hf hk hb2
      by_cases hee : fl ≤ ej
      · have hei : (fl : Int) ≤ (ej : Int) := by omega
        have HFY := hide (filt_yes hjl (show fl ≤ (at_ entK l j).e by rw [← hej]; exact hee))
        clear hee hej
        go_wp2_with fail
        go_quiet (fail)
        rename_i nq
        have hfq : Frm (fun _ => False) w1 (wr.drewN nq) := HF.out.drewN _
        have hkq := HK.out.frm0 ((Frm.refl _ wr).drewN nq)
        have d1q : (wr.drewN nq).cell? ⟨g, 1, none⟩ = some (.slice (some ⟨r, 0, none⟩) n c) := (HB1.out.frm hfq (fun h => h)).cell 1
        generalize wr.drewN nq = wq at hfq hkq d1q ⊢
        have HFQ := hide hfq
        have HKQ := hide hkq
        have HRQ := hide (HR.out.frm0 hfq)
        have hszq := hfq.size
        clear hfq hkq d1 d2 dj HK HF
        go_wp2_with (first
          | (with_reducible refine wpl_loadT isE (op := ⟨some 46, _, _, _, _, _⟩) rfl (.tmp 45) rfl r j c _ l rfl rfl HRQ.out hjl ?_)
          | (refine wpl_made1 isE (op := ⟨some 47, _, _, _, _, _⟩) rfl (.tmp 46) rfl (at_ entK l j) rfl ?_; intro g8 w8 h8 hs8 f8; have HK8 := hide (HKQ.out.frm0 f8); have H8 := hide h8; have HF8 := hide (frm_ft HFQ.out f8); clear h8 hs8 f8 HKQ HFQ)
          | (refine wpl_appT isE (op := ⟨some 48, _, _, _, _, _⟩) rfl (.tmp 39) (.tmp 47) rfl _ w1.heap.size A2 n2 c2 _ rfl HK8.out (some ⟨g8, 0, none⟩) 1 1 [at_ entK l j] rfl (SrcT.one H8.out) (n2 + 1) rfl (by omega) HF8.out.size ?_; intro A3 c3 w9 h9 f9 o9; have HF9 := hide (frm_fs w1 HF8.out f9 (fun k hk => (HK8.out.ge k hk.symm).1)); have HK9 := hide h9; clear h9 f9 o9 HK8 H8 HF8))
        go_roundw
        case rel => exact ⟨j + 1, A3, n2 + 1, c3, by omega, by go_num, rfl, (by rw [HFY.out]; exact HK9.out), by omega, HF9.out⟩
        case measure => simp [intOf]; omega
      · have hei : ¬ (fl : Int) ≤ (ej : Int) := by omega
        have HFY := hide (filt_no hjl (show ¬ fl ≤ (at_ entK l j).e by rw [← hej]; exact hee))
        clear hee hej
        go_wp2_with fail
        go_quiet (fail)
        go_wp2_with fail
        go_roundw
        case rel => exact ⟨j + 1, A2, n2, c2, by omega, by go_num, rfl, (by rw [HFY.out]; exact HK.out.frm0 ((Frm.refl _ wr).drewN _)), by omega, HF.out.drewN _⟩
        case measure => simp [intOf]; omega
    · obtain rfl : j = n := by omega
      have hjn' : ¬ (j : Int) < (j : Int) := by omega
      have z1 : wr.frozen? ⟨g, 1, none⟩ = false := hb2.frozen 1
      rw [List.take_of_length_le (by rw [HN.out]; exact Nat.le_refl _)] at hk
      have hkl := hk.len
      have f5 : Frm (fun k => k = g) wr (wr.setCell ⟨g, 1, none⟩ (.slice A2 n2 c2)) := Frm.setCell _ _ _ _ rfl
      have HFIN : Hid (RAt (wr.setCell ⟨g, 1, none⟩ (.slice A2 n2 c2)) B g ⟨most, fl, l.filter fun s => decide (fl ≤ s.e)⟩) := by
        refine ⟨hBg, A2, n2, c2, hb2.set 1 _, (hk.frm f5 (fun k hk2 e => ?_)).base (by omega)⟩
        have := (hk.ge k hk2).1
        omega
      have HFF := hide ((HF1.out.trans (frm_any HF.out) (fun _ _ h => h)).trans f5 (fun _ _ h => h))
      have HGN : Hid ((j : Int) - (n2 : Int) = ((l.length - (l.filter fun s => decide (fl ≤ s.e)).length : Nat) : Int)) := by show _ = _; rw [hkl, HN.out]; omega
      clear hk hf hb2 hkl f5 HK
      go_wp2_with fail
      go_ret
      exact ⟨(by rw [← HGN.out]; rfl), HFIN.out, HFF.out⟩
end Go.Proofs.Ytdilfiojfjgejaa
