/-
  By what a node knows a packet, read.
-/
import Derived.Test.YtedodbejbkdplaaSl4
namespace Go.Proofs.Ytedodbejbkdplaa
set_option linter.unusedVariables false
set_option linter.unusedSimpArgs false
open Go.RowKit

theorem results_seal {fn : Func} {t u p q : Tmp} (h : fn.results = #[.tmp t, .tmp u, .cell p 28, .cell q 29]) (tmps : Array Value) (w : World) (gp gq : Nat) (cs ds : List Value) (hp : tmps.getD p undef = .pointer (some ⟨gp, 0, none⟩)) (hb : Blk w gp 28 cs.toArray) (hn : cs.length = 16)
    (hq : tmps.getD q undef = .pointer (some ⟨gq, 0, none⟩)) (hc : Blk w gq 29 ds.toArray) (hm : ds.length = 16) :
    (results fn tmps).run Try.prog w = .ok (.tuple #[tmps.getD t undef, tmps.getD u undef, .agg cs.toArray, .agg ds.toArray]) w := by
  have h1 := run_load_agg aggN w gp 0 _ cs cs hb (by rw [List.drop_zero, List.take_of_length_le (by omega)]) (by omega)
  have h2 := run_load_agg aggM w gq 0 _ ds ds hc (by rw [List.drop_zero, List.take_of_length_le (by omega)]) (by omega)
  have hp' : tmps[p]?.getD undef = .pointer (some ⟨gp, 0, none⟩) := by simpa using hp
  have hq' : tmps[q]?.getD undef = .pointer (some ⟨gq, 0, none⟩) := by simpa using hq
  simp [results, h, hp', hq', asAddr, h1, h2]

set_option maxHeartbeats 4000000 in
set_option maxRecDepth 100000 in
theorem takeSeal_any (g : Nat) (d : Option Nat) (l : List UInt8) (w : World) (hr : Rd w g d l) (hl : 38 ≤ l.length) (hm : l.length ≤ 100000) (hd : ∀ j, d = some j → j < w.heap.size) :
    Calls Try.prog 43 #[.pointer (some ⟨g, 0, none⟩)] w fun e w' => e = .returned (.tuple #[.int .u16 (num (l.take 2) : Nat), .int .u32 (num ((l.drop 2).take 4) : Nat), .agg (cellsB ((l.drop 6).take 16)).toArray, .agg (cellsB ((l.drop 22).take 16)).toArray]) ∧ Rd w' g d (l.drop 38) ∧ Frm (fun k => k = g) w w' := by
  have hgl := hr.lt
  obtain ⟨n0, h0⟩ : ∃ n, n = num (l.take 2) := ⟨_, rfl⟩
  obtain ⟨n1, h1⟩ : ∃ n, n = num ((l.drop 2).take 4) := ⟨_, rfl⟩
  obtain ⟨N, h2⟩ : ∃ n, n = (l.drop 6).take 16 := ⟨_, rfl⟩
  obtain ⟨M, h3⟩ : ∃ n, n = (l.drop 22).take 16 := ⟨_, rfl⟩
  have HNL : Hid ((cellsB N).length = 16) := by show _ = _; rw [cellsB_length, h2, List.length_take, List.length_drop]; omega
  have HML : Hid ((cellsB M).length = 16) := by show _ = _; rw [cellsB_length, h3, List.length_take, List.length_drop]; omega
  rw [← h0, ← h1, ← h2, ← h3]
  have H0 := hide h0
  have H1 := hide h1
  have H2 := hide h2
  have H3 := hide h3
  have HR := hide hr
  have HD := hide hd
  have harN := fun (g c : Nat) (w : World) => run_arr underN (some ⟨g, 0, none⟩) 16 c (Nat.le_refl _) w
  have harM := fun (g c : Nat) (w : World) => run_arr underM (some ⟨g, 0, none⟩) 16 c (Nat.le_refl _) w
  clear h0 h1 h2 h3 hr hd
  go_enter Try.func43, Try.ntmps43
  go_wp2_with (first
    | ((with_reducible refine wpl_alloca (op := ⟨some 4, _, _, _, _, _⟩) rfl _ rfl _ zeroN ?_); intro g4 w1 hB1 hs1 hF1)
    | ((with_reducible refine wpl_alloca (op := ⟨some 5, _, _, _, _, _⟩) rfl _ rfl _ zeroM ?_); intro g5 w2 hB2 hs2 hF2))
  have hF02 : Frm (fun _ => False) w w2 := hF1.trans hF2 (fun _ _ h => h)
  have HG4 : Hid (w.heap.size ≤ g4 ∧ g4 < w2.heap.size ∧ g4 ≠ g ∧ w.heap.size ≤ g5 ∧ g5 < w2.heap.size ∧ g5 ≠ g ∧ g4 ≠ g5) := ⟨hs1, by have := (hB1.frm hF2 (fun h => h)).lt; omega, by omega, by have := hF1.size; omega, hB2.lt, by have := hF1.size; omega, by have := hB1.lt; omega⟩
  refine (u16_ok g d l w2 (HR.out.frm hF02 (fun h => h) (fun _ _ h => h)) (by omega) hm).mono ?_
  rintro e w3 ⟨rfl, hr3, hf3⟩
  rw [← H0.out]
  have hf03 : Frm (fun k => k = g) w w3 := (hF02.mono (fun _ _ h => h.elim)).trans hf3 (fun _ _ h => h)
  have hB43 := (hB1.frm hF2 (fun h => h)).frm hf3 HG4.out.2.2.1
  have hB53 := hB2.frm hf3 HG4.out.2.2.2.2.2.1
  clear hB1 hB2 hF1 hF2 hs1 hs2 hF02
  go_wp2_with fail
  refine (u32_ok g d (l.drop 2) w3 hr3 (by rw [List.length_drop]; omega) (by rw [List.length_drop]; omega)).mono ?_
  rintro e w4 ⟨rfl, hr4, hf4⟩
  rw [← H1.out]
  rw [List.drop_drop] at hr4
  have hf04 := hf03.trans hf4 (fun _ _ h => h)
  have hB44 := hB43.frm hf4 HG4.out.2.2.1
  have hB54 := hB53.frm hf4 HG4.out.2.2.2.2.2.1
  have hz4 := hf3.size
  have hz44 := hf4.size
  clear hf03 hB43 hB53 hr3 hf3
  go_wp2_with fail
  refine (bytes_ok g d (l.drop 6) 16 w4 hr4 (by omega) (by rw [List.length_drop]; omega) (by rw [List.length_drop]; omega)).mono ?_
  rintro e w5 ⟨A5, c5, rfl, ho5, hr5, hf5⟩
  rw [List.drop_drop] at hr5
  rw [show Int.toNat 16 = 16 from rfl] at ho5 hr5
  rw [show Int.toNat 16 = 16 from rfl, ← H2.out] at *
  obtain ⟨ga, ca, rfl, hga, hba, hsa, hta, hca⟩ := own_block ho5 (by omega)
  have hf05 := hf04.trans hf5 (fun _ _ h => h)
  have hB45 := hB44.frm hf5 HG4.out.2.2.1
  have hB55 := hB54.frm hf5 HG4.out.2.2.2.2.2.1
  have hz5 := hf5.size
  have HGA : Hid (ga ≠ g ∧ ga ≠ g4 ∧ ga ≠ g5) := by have := HG4.out; have := hr4.lt; exact ⟨by omega, by omega, by omega⟩
  have HTA := hide hta
  clear hf04 hB44 hB54 hr4 hf4 hf5 ho5 hga hta
  go_wp2_with fail
  refine (bytes_ok g d (l.drop 22) 16 w5 hr5 (by omega) (by rw [List.length_drop]; omega) (by rw [List.length_drop]; omega)).mono ?_
  rintro e w6 ⟨A6, c6, rfl, ho6, hr6, hf6⟩
  rw [List.drop_drop] at hr6
  rw [show Int.toNat 16 = 16 from rfl] at ho6 hr6
  rw [show Int.toNat 16 = 16 from rfl, ← H3.out] at *
  obtain ⟨gb, cb, rfl, hgb, hbb, hsb, htb, hcb⟩ := own_block ho6 (by omega)
  have HF06 := hide (hf05.trans hf6 (fun _ _ h => h))
  have hB46 := hB45.frm hf6 HG4.out.2.2.1
  have hB56 := hB55.frm hf6 HG4.out.2.2.2.2.2.1
  have hba6 := hba.frm hf6 HGA.out.1
  have HGB : Hid (gb ≠ g4 ∧ gb ≠ g5) := by have := HG4.out; exact ⟨by omega, by omega⟩
  have HTB := hide htb
  have HR6 := hide hr6
  rw [← Array.toArray_toList (xs := ca)] at hba6
  rw [← Array.toArray_toList (xs := cb)] at hbb
  have hla : 16 ≤ ca.toList.length := by rw [Array.length_toList]; exact hsa
  have hlb : 16 ≤ cb.toList.length := by rw [Array.length_toList]; exact hsb
  clear hf05 hB45 hB55 hba hr5 hr6 hf6 ho6 hgb htb hsa hsb
  go_wp2_with fail
  have HF6 : Hid (Frm (fun k => k = g) w w6.drew) := HF06.out.drew
  have hB47 : Blk w6.drew g4 28 (cellsB Z16).toArray := hB46
  have hB57 : Blk w6.drew g5 29 (cellsB Z16).toArray := hB56
  have HR7 : Hid (Rd w6.drew g d (l.drop 38)) := HR6.out
  have hba7 : Blk w6.drew ga 5 ca.toList.toArray := hba6
  have hbb7 : Blk w6.drew gb 5 cb.toList.toArray := hbb
  clear hB46 hB56 HR6 hba6 hbb HF06
  refine wp_region_held_drew (S := fun W => Blk W ga 5 ca.toList.toArray ∧ Blk W gb 5 cb.toList.toArray) (by kernel_rfl) ⟨hba7, hbb7⟩ ?_
  intro hHeld
  refine wpAnyH_take (i := 0) (v := ?v1) rfl (by kernel_rfl) (by kernel_rfl) (by kernel_rfl) (fun _ _ _ h => h) (Or.inl ⟨by rfl, ?hy1⟩) (by assumption) ?rest1
  case hy1 => (intro w hSw; (try go_simp); try with_reducible rfl)
  try simp only [Act.put, List.getElem_toArray, List.getElem_cons_zero, List.getElem_cons_succ, List.setIfInBounds_toArray, List.set_cons_zero, List.set_cons_succ]
  refine wpAnyH_take (i := 1) (v := ?v2) rfl (by kernel_rfl) (by kernel_rfl) (by kernel_rfl) (fun _ _ _ h => h) (Or.inl ⟨by rfl, ?hy2⟩) (by assumption) ?rest2
  case hy2 => (intro w hSw; (try go_simp); try with_reducible rfl)
  try simp only [Act.put, List.getElem_toArray, List.getElem_cons_zero, List.getElem_cons_succ, List.setIfInBounds_toArray, List.set_cons_zero, List.set_cons_succ]
  refine wpAnyH_take (i := 2) (v := ?v3) rfl (by kernel_rfl) (by kernel_rfl) (by kernel_rfl) (fun _ _ _ h => h) (Or.inl ⟨by rfl, ?hy3⟩) (by assumption) ?rest3
  case hy3 => (intro w hSw; (try go_simp); try with_reducible rfl)
  try simp only [Act.put, List.getElem_toArray, List.getElem_cons_zero, List.getElem_cons_succ, List.setIfInBounds_toArray, List.set_cons_zero, List.set_cons_succ]
  refine wpAnyH_take (i := 3) (v := ?v4) rfl (by kernel_rfl) (by kernel_rfl) (by kernel_rfl) (fun _ _ _ h => h) (Or.inl ⟨by rfl, ?hy4⟩) (by assumption) ?rest4
  case hy4 => (intro w hSw; (try go_simp); try with_reducible rfl)
  try simp only [Act.put, List.getElem_toArray, List.getElem_cons_zero, List.getElem_cons_succ, List.setIfInBounds_toArray, List.set_cons_zero, List.set_cons_succ]
  refine wpAnyH_take (i := 4) (v := ?v5) rfl (by kernel_rfl) (by kernel_rfl) (by kernel_rfl) (fun _ _ _ h => h) (Or.inl ⟨by rfl, ?hy5⟩) (by assumption) ?rest5
  case hy5 => (intro w hSw; refine held_loada aggN (.tmp 37) ?_ ga 0 ?_ _ _ (cellsB N) hSw.1 (by rw [List.drop_zero]; exact HTA.out) (by omega) <;> rfl)
  try simp only [Act.put, List.getElem_toArray, List.getElem_cons_zero, List.getElem_cons_succ, List.setIfInBounds_toArray, List.set_cons_zero, List.set_cons_succ]
  refine wpAnyH_take (i := 5) (v := ?v6) rfl (by kernel_rfl) (by kernel_rfl) (by kernel_rfl) (fun _ _ _ h => h) (Or.inl ⟨by rfl, ?hy6⟩) (by assumption) ?rest6
  case hy6 => (intro w hSw; (try go_simp); try with_reducible rfl)
  try simp only [Act.put, List.getElem_toArray, List.getElem_cons_zero, List.getElem_cons_succ, List.setIfInBounds_toArray, List.set_cons_zero, List.set_cons_succ]
  refine wpAnyH_take (i := 6) (v := ?v7) rfl (by kernel_rfl) (by kernel_rfl) (by kernel_rfl) (fun _ _ _ h => h) (Or.inl ⟨by rfl, ?hy7⟩) (by assumption) ?rest7
  case hy7 => (intro w hSw; (try go_simp); try with_reducible rfl)
  try simp only [Act.put, List.getElem_toArray, List.getElem_cons_zero, List.getElem_cons_succ, List.setIfInBounds_toArray, List.set_cons_zero, List.set_cons_succ]
  refine wpAnyH_take (i := 7) (v := ?v8) rfl (by kernel_rfl) (by kernel_rfl) (by kernel_rfl) (fun _ _ _ h => h) (Or.inl ⟨by rfl, ?hy8⟩) (by assumption) ?rest8
  case hy8 => (intro w hSw; refine held_loada aggM (.tmp 40) ?_ gb 0 ?_ _ _ (cellsB M) hSw.2 (by rw [List.drop_zero]; exact HTB.out) (by omega) <;> rfl)
  try simp only [Act.put, List.getElem_toArray, List.getElem_cons_zero, List.getElem_cons_succ, List.setIfInBounds_toArray, List.set_cons_zero, List.set_cons_succ]
  refine wpAnyH_take (i := 8) (v := ?v9) rfl (by kernel_rfl) (by kernel_rfl) (by kernel_rfl) (fun _ _ _ h => h) (Or.inl ⟨by rfl, ?hy9⟩) (by assumption) ?rest9
  case hy9 => (intro w hSw; (try go_simp); try with_reducible rfl)
  try simp only [Act.put, List.getElem_toArray, List.getElem_cons_zero, List.getElem_cons_succ, List.setIfInBounds_toArray, List.set_cons_zero, List.set_cons_succ]
  refine wpAnyH_take (i := 9) (v := ?v10) rfl (by kernel_rfl) (by kernel_rfl) (by kernel_rfl) (fun _ _ _ h => h) (Or.inl ⟨by rfl, ?hy10⟩) (by assumption) ?rest10
  case hy10 => (intro w hSw; (try go_simp); try with_reducible rfl)
  try simp only [Act.put, List.getElem_toArray, List.getElem_cons_zero, List.getElem_cons_succ, List.setIfInBounds_toArray, List.set_cons_zero, List.set_cons_succ]
  refine wpAnyH_ready (rs := [10]) (by kernel_rfl) (by simp) ?_
  refine AllReadyH.cons rfl (fun K hK => ?_) AllReadyH.nil
  refine step_storea aggN rfl (.tmp 4) (.tmp 38) rfl g4 (cellsB N) rfl rfl _ _ hB47 HNL.out Z16_len (cellsB_one _) ?_
  intro w8 hB8 hF8
  refine hK.out _ _ (⟨hba7.frm hF8 HGA.out.2.1, hbb7.frm hF8 HGB.out.1⟩) (fun hHeld => ?_)
  clear hK K
  have hba8 := hba7.frm hF8 HGA.out.2.1
  have hbb8 := hbb7.frm hF8 HGB.out.1
  have hB58 := hB57.frm hF8 HG4.out.2.2.2.2.2.2.symm
  refine wpAnyH_ready (rs := [11]) (by kernel_rfl) (by simp) ?_
  refine AllReadyH.cons rfl (fun K hK => ?_) AllReadyH.nil
  refine step_storea aggM rfl (.tmp 5) (.tmp 41) rfl g5 (cellsB M) rfl rfl _ _ hB58 HML.out Z16_len (cellsB_one _) ?_
  intro w9 hB9 hF9
  refine hK.out _ _ (⟨hba8.frm hF9 HGA.out.2.2, hbb8.frm hF9 HGB.out.2⟩) (fun hHeld => ?_)
  clear hK K
  refine wpAnyH_done (by kernel_rfl) ?_ _
  clear hHeld
  have hB49 := hB8.frm hF9 HG4.out.2.2.2.2.2.2
  go_wp2
  refine bodyPost_ret (results_seal rfl _ _ g4 g5 _ _ rfl hB49 HNL.out rfl hB9 HML.out) rfl ⟨rfl, ?_, ?_⟩
  · refine (HR7.out.frm hF8 (fun e => HG4.out.2.2.1 e.symm) (fun j hj e => ?_)).frm hF9 (fun e => HG4.out.2.2.2.2.2.1 e.symm) (fun j hj e => ?_)
    · have := HD.out j hj; have := HG4.out; omega
    · have := HD.out j hj; have := HG4.out; omega
  · have := HG4.out
    exact (HF6.out.trans hF8 (fun i hi h => absurd h (by omega))).trans hF9 (fun i hi h => absurd h (by omega))

end Go.Proofs.Ytedodbejbkdplaa
