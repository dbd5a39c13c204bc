/-
  SlotHead: the walk.
-/
import Derived.Test.YtedodbejbkdplaaHdC
import Derived.Test.YtedodbejbkdplaaSlF
namespace Go.Proofs.Ytedodbejbkdplaa
set_option linter.unusedVariables false
set_option linter.unusedSimpArgs false
open Go.RowKit

set_option maxHeartbeats 16000000 in
set_option maxRecDepth 100000 in
theorem head_walk (w : World) (A : Option Addr) (n c : Nat) (L : List Slot) (hr : SRow w A n L) (hnc : n ≤ c) (hc : c ≤ 9223372036854775807) (p : Pkt) (hp : p.ok) : Calls Try.prog 10 #[.slice A n c, .agg (pktC p).toArray] w fun e w' => e = .returned (.bool true) ∧ Below w.heap.size w w' := by
  have hsh := hide shown_any
  have h610 := hide (pktC_length hp)
  have hset := hide (hdP_zero hp)
  have hz320 : Hid ((cellsB (zeros 320)).length = 320) := by show _ = _; rw [cellsB_length, zeros_length]
  have hb320 : Hid (∀ w, Sem.run Try.prog (Instr.build 47 #[]) w = .ok (.agg (cellsB (zeros 320)).toArray) w) := fun w => run_build w _ _ _ (by kernel_rfl)
  have HP := hide hp
  have HR := hide hr
  clear hr hp
  have H := hide (At.start w)
  go_enter Try.func10, Try.ntmps10
  go_wp2_with (first
    | (with_reducible refine at_op (op := ⟨some 3, _, _, _, _, _⟩) ?_; (refine wpl_boxa (op := ⟨some 3, _, _, _, _, _⟩) rfl _ _ rfl (pktC p) rfl ?_); intro g3 W1 hB1 hg1 hF1; replace H := hide (H.out.box hg1 hF1 hB1); clear hB1 hg1 hF1)
    | (go_at_call 12; with_reducible refine (hsh.out _).mono ?_; rintro e Wc ⟨rfl, hbc⟩; replace H := hide (H.out.call hbc); clear hbc)
    | (with_reducible refine at_op (op := ⟨some 17, _, _, _, _, _⟩) ?_; refine wpl_held (op := ⟨some 17, _, _, _, _, _⟩) (.agg (cellsB (zeros 320)).toArray) (held_build _ _ rfl _ _ (hb320.out _) rfl) rfl ?_)
    | (with_reducible refine at_op (op := ⟨none, .store _ (.tmp 18) _, _, _, _, _⟩) ?_; (refine wpl_storem (op := ⟨none, _, _, _, _, _⟩) agg320 rfl (.tmp 18) (.tmp 17) rfl g3 34 (cellsB (zeros 320)) (pktC p) (pktC (hdP p [])) rfl rfl _ (H.out.get 0 rfl) hz320.out (by rw [h610.out]; decide) hset.out (cellsB_one _) ?_); intro W1 hB1 hF1; replace H := hide (H.out.store 0 rfl hF1 hB1); clear hB1 hF1))
  replace H : Hid (HAt w [] none 0 [(g3, 50, pktC (hdP p []))] W1) := ⟨H.out, SOwn.nil _ _⟩
  go_loopw [6, 7] (fun o i wr => ∃ (k : Nat) (O : List Slot) (Ao : Option Addr) (co : Nat), k ≤ n ∧ O.length ≤ 5 ∧ (∀ s ∈ O, rightB s = true) ∧ i = .int .i64 k ∧ o = .slice Ao O.length co ∧ HAt w O Ao co [(g3, 50, pktC (hdP p O))] wr) (fun _ i _ => n - (intOf i).toNat)
  case atStart => exact ⟨0, [], none, 0, by omega, by decide, (fun _ h => by cases h), rfl, rfl, H.out⟩
  case round =>
    obtain ⟨k, O, Ao, co, hkn, hO5, hOr, rfl, rfl, h⟩ := hrel
    clear H
    have H := hide h
    clear h
    have hkn1 : n ≤ 9223372036854775807 := Nat.le_trans hnc hc
    by_cases hlt : k < n ∧ O.length < 5
    · obtain ⟨hlt1, hlt2⟩ := hlt
      obtain ⟨hL, hok, hcl⟩ := HR.out.below H.out.bel
      obtain ⟨a, hA, hcell0⟩ := hcl (by omega)
      subst hA
      obtain ⟨s, hsd⟩ : ∃ s, s = L.getD k slot0 := ⟨_, rfl⟩
      have hs : s.ok := by
        rw [hsd, List.getD_eq_getElem?_getD, List.getElem?_eq_getElem (by omega)]
        exact hok _ (List.getElem_mem (by omega))
      have HCELL : Hid (∀ W, Below w.heap.size w W → ∀ q u, (slotC s)[q]? = some u → W.cell? ((a.add (k * 40)).add q) = some u) := fun W hb q u hq => by
        obtain ⟨a', e, hc2⟩ := (HR.out.below hb).2.2 (by omega)
        injection e with e
        subst e
        exact hc2 k q u hlt1 (by rw [← hsd]; exact hq)
      clear hcl hcell0 hL hok hsd
      have hen := hide (encode_any s hs)
      have hE : Hid (errR s = if rightB s = true then 0 else 1) := rfl
      have HSO := hide hs
      have hX : Hid ((cellsB (outM s)).length = 64) := by show _ = _; rw [cellsB_length]; exact outM_length hs
      have hki : (k : Int) < (n : Int) := by omega
      have hkd : decide ((k : Int) < (n : Int)) = true := decide_eq_true hki
      have hoi : (O.length : Int) < 5 := by omega
      have hod : decide ((O.length : Int) < 5) = true := decide_eq_true hoi
      have hwk : IntKind.i64.wrap ((k : Int) + 1) = ((k + 1 : Nat) : Int) := by rw [IntKind.wrap_i64] <;> omega
      clear hs
      cases hR : rightB s
      · have hE1 : errR s = 1 := by rw [hE.out, hR]; rfl
        rw [hE1] at hen
        clear hE hR hE1
        go_wp2_with (first
          | (with_reducible refine at_op (op := ⟨some 34, _, _, _, _, _⟩) ?_; refine wpl_held (op := ⟨some 34, _, _, _, _, _⟩) (.agg (slotC s).toArray) (held_loadAt _ rfl (a.add (k * 40)) rfl s HSO.out (HCELL.out _ H.out.bel)) rfl ?_)
          | (go_at_call 15; with_reducible refine (hen.out _).mono ?_; rintro e Wc ⟨rfl, hbc⟩; replace H := hide (H.out.call hbc); clear hbc)
          | ((with_reducible refine wpl_alloca (op := ⟨some 8, _, _, _, _, _⟩) rfl _ rfl _ zero64 ?_); intro g8 W1 hB1 hg1 hF1)
          | ((with_reducible refine wpl_storea agg64b rfl (.tmp 8) (.tmp 36) rfl g8 (cellsB (outM s)) rfl rfl _ _ hB1 hX.out z64_len (cellsB_one _) ?_); intro W2 hB2 hF2; replace H := hide (H.out.var hg1 hF1 hF2 hB2); clear hB1 hg1 hF1 hB2 hF2))
        exact ⟨⟨k + 1, O, Ao, co, by omega, hO5, hOr, by go_num, rfl, HAt.left (m := [_]) H.out⟩, by simp [intOf]; omega⟩
      · have hE1 : errR s = 0 := by rw [hE.out, hR]; rfl
        rw [hE1] at hen
        clear hE hE1
        go_wp2_with (first
          | (with_reducible refine at_op (op := ⟨some 34, _, _, _, _, _⟩) ?_; refine wpl_held (op := ⟨some 34, _, _, _, _, _⟩) (.agg (slotC s).toArray) (held_loadAt _ rfl (a.add (k * 40)) rfl s HSO.out (HCELL.out _ H.out.bel)) rfl ?_)
          | (go_at_call 15; with_reducible refine (hen.out _).mono ?_; rintro e Wc ⟨rfl, hbc⟩; replace H := hide (H.out.call hbc); clear hbc)
          | ((with_reducible refine wpl_alloca (op := ⟨some 8, _, _, _, _, _⟩) rfl _ rfl _ zero64 ?_); intro g8 W1 hB1 hg1 hF1)
          | ((with_reducible refine wpl_storea agg64b rfl (.tmp 8) (.tmp 36) rfl g8 (cellsB (outM s)) rfl rfl _ _ hB1 hX.out z64_len (cellsB_one _) ?_); intro W2 hB2 hF2; replace H := hide (H.out.var hg1 hF1 hF2 hB2); clear hB1 hg1 hF1 hB2 hF2))
        have hsl1 : ∀ w, (Instr.sliceAt 47 (.pointer (some ⟨g3, 34, none⟩)) (some (.int .i64 (64 * (O.length : Int)))) none none).run Try.prog w = .ok (.slice (some ⟨g3, 34 + 64 * O.length, none⟩) (320 - 64 * O.length) (320 - 64 * O.length)) w := fun w => by
          have h := slice_arr_from under320 g3 34 (64 * O.length) (by omega) w
          rw [Int.natCast_mul] at h
          exact h
        have hsl2 : ∀ w, (Instr.sliceAt 33 (.pointer (some ⟨g8, 0, none⟩)) none none none).run Try.prog w = .ok (.slice (some ⟨g8, 0, none⟩) 64 64) w := fun w => slice_arr_all under64b g8 w
        have hwm : IntKind.i64.wrap (64 * (O.length : Int)) = 64 * (O.length : Int) := by rw [IntKind.wrap_i64] <;> omega
        have hXl : Hid ((outM s).length = 64) := outM_length HSO.out
        have hPO := hide (pktC_length (hdP_ok HP.out H.out.own.1 hO5))
        have hput := hide (hdP_put HP.out H.out.own.1 hlt2 HSO.out)
        have hSL := hide (slotC_len HSO.out)
        have hor2 : ∀ x ∈ O ++ [s], rightB x = true := fun x hx => by
          rcases List.mem_append.1 hx with hx | hx
          · exact hOr x hx
          · rw [List.mem_singleton.1 hx]; exact hR
        replace H := hide H.out.drew
        go_still_tail 6, (by kernel_rfl)
        change wpList _ _ _ _ _ W2.drew
        go_wp2_with (first
          | (with_reducible refine at_op (op := ⟨some 46, _, _, _, _, _⟩) ?_; (refine wpl_copyR (op := ⟨some 46, _, _, _, _, _⟩) rfl (.tmp 44) (.tmp 45) rfl g3 (34 + 64 * O.length) (320 - 64 * O.length) (320 - 64 * O.length) (some ⟨g8, 0, none⟩) 64 64 64 rfl rfl (pktC (hdP p O)) _ (H.out.get 0 rfl) (outM s) ((H.out.get 1 rfl).mid 0 64 (outM s) (full_take hX.out) hXl.out) (Nat.min_eq_left (by omega)).symm (by rw [hPO.out]; omega) ?_); intro W1 hB1 hF1; rw [List.take_of_length_le (by rw [hXl.out]; exact Nat.le_refl _), hput.out] at hB1; replace H := hide (H.out.store 0 rfl hF1 hB1 (by decide)); clear hB1 hF1)
          | (with_reducible refine at_op (op := ⟨some 51, _, _, _, _, _⟩) ?_; refine wpl_held (op := ⟨some 51, _, _, _, _, _⟩) (.agg (slotC s).toArray) (held_loadAt _ rfl (a.add (k * 40)) rfl s HSO.out (HCELL.out _ H.out.bel)) rfl ?_)
          | (with_reducible refine at_op (op := ⟨some 52, _, _, _, _, _⟩) ?_; (refine wpl_made1 (op := ⟨some 52, _, _, _, _, _⟩) rfl (.tmp 51) rfl (slotC s) hSL.out rfl ?_); intro gm W3 hBm hgm hFm; replace H := hide (H.out.frm hFm); have HBM := hide hBm; clear hBm hgm hFm)
          | (with_reducible refine at_op (op := ⟨some 53, _, _, _, _, _⟩) ?_; (refine wpl_appS (op := ⟨some 53, _, _, _, _, _⟩) rfl (.tmp 47) (.tmp 52) rfl _ w.heap.size Ao O.length co O rfl H.out.own gm s HSO.out rfl HBM.out (by omega) H.out.bel.size ?_); intro A2 c2 W4 ho2 hf2; have ho3 : SOwn W4 w.heap.size A2 (O ++ [s]).length c2 (O ++ [s]) := (by rw [List.length_append, List.length_singleton]; exact ho2); replace H := hide (H.out.app (by intro x hx; rcases List.mem_cons.1 hx with rfl | hx; exact (show 32 ≠ 50 from by decide); rcases List.mem_cons.1 hx with rfl | hx; exact (show 32 ≠ 33 from by decide); exact absurd hx List.not_mem_nil) ho3 hf2); clear ho2 hf2 ho3 HBM))
        exact ⟨⟨k + 1, O ++ [s], A2, c2, by omega, by rw [List.length_append]; simp only [List.length_cons, List.length_nil]; omega, hor2, by go_num, by rw [List.length_append]; rfl, HAt.left (l := [(g3, 50, pktC (hdP p (O ++ [s])))]) (m := [(g8, 33, cellsB (outM s))]) H.out⟩, by simp [intOf]; omega⟩
    · have hex : (¬ k < n) ∨ (k < n ∧ ¬ O.length < 5) := by omega
      obtain ⟨q, hqe⟩ : ∃ q, q = hdP p O := ⟨_, rfl⟩
      have hq : q.ok := by rw [hqe]; exact hdP_ok HP.out H.out.own.1 hO5
      have hback := fun j => hdP_back H.out.own.1 hOr j
      have hchunk := fun j hj => hdP_chunk (p := p) H.out.own.1 hO5 j hj
      rw [← hqe] at H hchunk
      have HBACK := hide hback
      have HCHUNK := hide hchunk
      have HQ := hide hq
      have hP := hide (pack_any q hq)
      have hpl0 := hide (packM_length hq)
      obtain ⟨PK, hPK⟩ : ∃ l, l = packM q := ⟨_, rfl⟩
      have hupk := up_pkt hq
      rw [← hPK] at hP hpl0 hupk
      have hpl : Hid ((cellsB PK).length = 614) := by show _ = _; rw [cellsB_length]; exact hpl0.out
      have hux : Hid (∀ W {gp : Nat}, Rds W (some ⟨gp, 0, none⟩) 614 (cellsB PK) → ∀ cp, Calls Try.prog 20 #[.slice (some ⟨gp, 0, none⟩) 614 cp] W fun e w' => e = .returned (.tuple #[.agg (pktC q).toArray, .int .i64 0]) ∧ Below W.heap.size W w') := fun W gp h cp => by
        have k := unpack_any _ 614 cp PK W h (by decide)
        rw [hupk.1, hupk.2] at k
        exact k
      have hCC : Hid (∀ w, (Op.equalIn 10000 50 (.agg (pktC q).toArray) (.agg (pktC q).toArray)).run Try.prog w = .ok true w) := fun w => by
        have h := eq_pkt hq hq w
        rw [show pktEq q q = true from pktEq_iff.2 rfl] at h
        exact h
      have hq610 := hide (pktC_length hq)
      have hqo := hide (pktC_one q)
      clear hback hchunk hq hPK hupk h610 hset hqe HP HR
      rcases hex with hex | ⟨hlt1, hex⟩
      · have hki : ¬ (k : Int) < (n : Int) := by omega
        have hkd : decide ((k : Int) < (n : Int)) = false := decide_eq_false hki
        clear hlt hex
        go_wp2_with (first
          | (with_reducible refine at_op (op := ⟨some 55, _, _, _, _, _⟩) ?_; refine wpl_held (op := ⟨some 55, _, _, _, _, _⟩) (.agg (pktC q).toArray) (held_loadf aggP _ rfl g3 rfl _ (pktC q) (H.out.get 0 rfl) hq610.out) rfl ?_)
          | (go_at_call 19; (with_reducible refine (hP.out _).mono ?_); rintro e Wc ⟨Ap, cp, rfl, hop, hbc⟩; rw [hpl.out] at hop ⊢; obtain ⟨gp, curp, rfl, hgp, hbp, hsp, htp, hcp⟩ := own_block hop (by decide); rw [← Array.toArray_toList (xs := curp)] at hbp; replace H := hide (H.out.box hgp (Frm.of_below hbc) hbp); have HTP : Hid ((curp.toList.drop 0).take 614 = cellsB PK) := (by show _ = _; rw [List.drop_zero]; exact htp); clear hbc hop hgp hbp htp hcp hsp)
          | (go_at_call 20; with_reducible refine (hux.out _ ((H.out.get 1 rfl).mid 0 614 PK HTP.out hpl0.out) cp).mono ?_; rintro e Wc ⟨rfl, hbc⟩; replace H := hide (H.out.call hbc); clear hbc)
          | ((with_reducible refine wpl_alloca (op := ⟨some 10, _, _, _, _, _⟩) rfl _ rfl _ zeroP ?_); intro g10 W1 hB1 hg1 hF1)
          | ((with_reducible refine wpl_storea aggP rfl (.tmp 10) (.tmp 58) rfl g10 (pktC q) rfl rfl _ _ hB1 hq610.out pkt0_len (hqo.out) ?_); intro W2 hB2 hF2; replace H := hide (H.out.var hg1 hF1 hF2 hB2); clear hB1 hg1 hF1 hB2 hF2)
          | (with_reducible refine at_op (op := ⟨some 63, _, _, _, _, _⟩) ?_; refine wpl_held (op := ⟨some 63, _, _, _, _, _⟩) (.agg (pktC q).toArray) (held_loadf aggP _ rfl g10 rfl _ (pktC q) (H.out.get 2 rfl) hq610.out) rfl ?_)
          | (with_reducible refine at_op (op := ⟨some 64, _, _, _, _, _⟩) ?_; refine wpl_held (op := ⟨some 64, _, _, _, _, _⟩) (.agg (pktC q).toArray) (held_loadf aggP _ rfl g3 rfl _ (pktC q) (H.out.get 0 rfl) hq610.out) rfl ?_)
          | (with_reducible refine at_op (op := ⟨some 65, _, _, _, _, _⟩) ?_; refine wpl_held (op := ⟨some 65, _, _, _, _, _⟩) (.bool (!true)) (held_neq _ _ _ _ rfl (pktC q) (pktC q) rfl rfl (true) (hCC.out _) Try.eqGuardType50) rfl ?_))
        go_loopw [12] (fun i wr => ∃ j : Nat, j ≤ 5 ∧ i = .int .i64 j ∧ HAt w O Ao co [(g3, 50, pktC q), (gp, 5, curp.toList), (g10, 50, pktC q)] wr) (fun i _ => 5 - (intOf i).toNat)
        case atStart => exact ⟨0, by omega, rfl, H.out⟩
        case round =>
          obtain ⟨j, hj5, rfl, h⟩ := hrel
          clear H
          have H := hide h
          clear h
          by_cases hj : j < 5
          · obtain ⟨s, hsd⟩ : ∃ s, s = O.getD j slot0 := ⟨_, rfl⟩
            have hs := (HBACK.out j).1
            have hsR := (HBACK.out j).2
            have hxt := hide (HCHUNK.out j hj)
            rw [← hsd] at hs hsR hxt
            have hdec : Hid (∀ w, Calls Try.prog 17 #[.agg (cellsB (outM s)).toArray] w fun e w' => e = .returned (.tuple #[.agg (slotC s).toArray, .int .i64 0]) ∧ Below w.heap.size w w') := fun w => by
              have k := decode_any (outM s) (outM_length hs) w
              rw [(right_back hs hsR).1, (right_back hs hsR).2] at k
              exact k
            have HX : Hid (((pktC q).drop (34 + 64 * j)).take (320 - 64 * j) = cellsB (q.head.drop (64 * j))) := by
              show _ = _
              rw [← List.drop_drop, ← List.drop_take, pktC_head HQ.out, cellsB_drop]
            have HXL : Hid ((q.head.drop (64 * j)).length = 320 - 64 * j) := by show _ = _; rw [List.length_drop, HQ.out.head]
            have hX : Hid ((cellsB (outM s)).length = 64) := by show _ = _; rw [cellsB_length]; exact outM_length hs
            have hspl : Hid (splice (cellsB (zeros 64)) 0 (cellsB (outM s)) = cellsB (outM s)) := by
              show _ = _
              unfold splice
              rw [hX.out, List.drop_eq_nil_of_le (by rw [cellsB_length, zeros_length]; decide), List.take_zero, List.nil_append, List.append_nil]
            have hSL := hide (slotC_len hs)
            have hso := hide (slotC_one s)
            have HSO := hide hs
            have hSD := hide hsd
            have hSS : Hid (∀ w, (Op.equalIn 10000 32 (.agg (slotC s).toArray) (.agg (slotC s).toArray)).run Try.prog w = .ok true w) := fun w => by
              have h := eq_slot hs hs w
              rw [show slotEq s s = true from slotEq_iff.2 rfl] at h
              exact h
            have hji : (j : Int) < 5 := by omega
            have hjd : decide ((j : Int) < 5) = true := decide_eq_true hji
            have hwm : IntKind.i64.wrap (64 * (j : Int)) = 64 * (j : Int) := by rw [IntKind.wrap_i64] <;> omega
            clear hs hsR hsd
            go_wp2_with (first
              | ((with_reducible refine wpl_alloca (op := ⟨some 13, _, _, _, _, _⟩) rfl _ rfl _ zero64 ?_); intro g13 W1 hB1 hg1 hF1; replace H := hide (H.out.box (t := 33) (cs := cellsB (zeros 64)) hg1 hF1 hB1); clear hB1 hg1 hF1))
            have hsl1 : ∀ w, (Instr.sliceAt 47 (.pointer (some ⟨g10, 34, none⟩)) (some (.int .i64 (64 * (j : Int)))) none none).run Try.prog w = .ok (.slice (some ⟨g10, 34 + 64 * j, none⟩) (320 - 64 * j) (320 - 64 * j)) w := fun w => by
              have h := slice_arr_from under320 g10 34 (64 * j) (by omega) w
              rw [Int.natCast_mul] at h
              exact h
            have hsl2 : ∀ w, (Instr.sliceAt 33 (.pointer (some ⟨g13, 0, none⟩)) none none none).run Try.prog w = .ok (.slice (some ⟨g13, 0, none⟩) 64 64) w := fun w => slice_arr_all under64b g13 w
            replace H := hide H.out.drew
            go_still_tail 5, (by kernel_rfl)
            change wpList _ _ _ _ _ W1.drew
            go_wp2_with (first
              | (with_reducible refine at_op (op := ⟨some 76, _, _, _, _, _⟩) ?_; (refine wpl_copyR (op := ⟨some 76, _, _, _, _, _⟩) rfl (.tmp 71) (.tmp 75) rfl g13 0 64 64 (some ⟨g10, 34 + 64 * j, none⟩) (320 - 64 * j) (320 - 64 * j) 64 rfl rfl (cellsB (zeros 64)) _ (H.out.get 3 rfl) (q.head.drop (64 * j)) ((H.out.get 2 rfl).mid (34 + 64 * j) (320 - 64 * j) _ HX.out HXL.out) (Nat.min_eq_right (by omega)).symm (by rw [cellsB_length, zeros_length]; decide) ?_); intro W1 hB1 hF1; rw [hxt.out, hspl.out] at hB1; replace H := hide (H.out.store 3 rfl hF1 hB1 (by decide)); clear hB1 hF1)
              | (with_reducible refine at_op (op := ⟨some 78, _, _, _, _, _⟩) ?_; refine wpl_held (op := ⟨some 78, _, _, _, _, _⟩) (.agg (cellsB (outM s)).toArray) (held_loadf agg64b _ rfl g13 rfl _ (cellsB (outM s)) (H.out.get 3 rfl) hX.out) rfl ?_)
              | (go_at_call 17; with_reducible refine (hdec.out _).mono ?_; rintro e Wc ⟨rfl, hbc⟩; replace H := hide (H.out.call hbc); clear hbc)
              | ((with_reducible refine wpl_alloca (op := ⟨some 14, _, _, _, _, _⟩) rfl _ rfl _ zeroS ?_); intro g14 W1 hB1 hg1 hF1)
              | ((with_reducible refine wpl_storea aggS rfl (.tmp 14) (.tmp 80) rfl g14 (slotC s) rfl rfl _ _ hB1 hSL.out slot0_len (hso.out) ?_); intro W2 hB2 hF2; replace H := hide (H.out.var hg1 hF1 hF2 hB2); clear hB1 hg1 hF1 hB2 hF2))
            clear hsl1 hsl2
            by_cases hjo : j < O.length
            · have hji2 : (j : Int) < (O.length : Int) := by omega
              have hjd2 : decide ((j : Int) < (O.length : Int)) = true := decide_eq_true hji2
              have hjd3 : decide ((O.length : Int) ≤ (j : Int)) = false := decide_eq_false (by omega)
              have hji3 : ¬ (O.length : Int) ≤ (j : Int) := by omega
              obtain ⟨go, hAo, _⟩ := H.out.own.cells (by omega)
              subst hAo
              have HOC : Hid (∀ W', SOwn W' w.heap.size (some ⟨go, 0, none⟩) O.length co O → ∀ q u, (slotC s)[q]? = some u → W'.cell? ((⟨go, j * 40, none⟩ : Addr).add q) = some u) := fun W' h q u hq => by
                obtain ⟨g', e, _, _, hc⟩ := h.cells (by omega)
                injection e with e
                injection e with e1
                subst e1
                have hq4 : q < 40 := by have := (List.getElem?_eq_some_iff.1 hq).1; rwa [hSL.out] at this
                have hc2 := hc j q hjo hq4
                rw [← hSD.out, hq] at hc2
                rw [addr_add]
                exact hc2
              obtain ⟨N, hN⟩ : ∃ N, N = W2.heap.size := ⟨_, rfl⟩
              have hq : Below N W2 W2 := hN ▸ Below.refl _ _
              have HA := hide (fun W' (h : Below N W2 W') => H.out.call (hN ▸ h))
              have HC := hide (fun W' (h : Below N W2 W') W'' (k : Below W'.heap.size W' W'') => h.trans (k.mono (by rw [hN]; exact h.size)))
              clear hN
              refine wp_region_class (fun W' => Below N W2 W') (by kernel_rfl) (by kernel_rfl) (below_drewN hq 1) ?_
              with_reducible refine wpQuiet_step ?_
              intro K hK
              go_simp
              first | (refine hK _ ?_; clear hK K) | (refine ⟨_, fun w' hw' => rfl, hK _ ?_⟩; clear hK K)
              with_reducible refine wpQuiet_step ?_
              intro K hK
              go_simp
              first | (refine hK _ ?_; clear hK K) | (refine ⟨_, fun w' hw' => rfl, hK _ ?_⟩; clear hK K)
              with_reducible refine wpQuiet_step ?_
              intro K hK
              go_simp
              first | (refine hK _ ?_; clear hK K) | (refine ⟨_, fun w' hw' => rfl, hK _ ?_⟩; clear hK K)
              with_reducible refine wpQuiet_step ?_
              intro K hK
              go_simp
              first | (refine hK _ ?_; clear hK K) | (refine ⟨_, fun w' hw' => rfl, hK _ ?_⟩; clear hK K)
              with_reducible refine wpQuiet_step ?_
              intro K hK
              go_simp
              first | (refine hK _ ?_; clear hK K) | (refine ⟨_, fun w' hw' => rfl, hK _ ?_⟩; clear hK K)
              with_reducible refine wpQuiet_step ?_
              intro K hK
              go_simp
              first | (refine hK _ ?_; clear hK K) | (refine ⟨_, fun w' hw' => rfl, hK _ ?_⟩; clear hK K)
              with_reducible refine wpQuiet_step ?_
              intro K hK
              go_simp
              first | (refine hK _ ?_; clear hK K) | (refine ⟨_, fun w' hw' => rfl, hK _ ?_⟩; clear hK K)
              with_reducible refine wpQuiet_step ?_
              intro K hK
              go_simp
              first | (refine hK _ ?_; clear hK K) | (refine ⟨_, fun w' hw' => rfl, hK _ ?_⟩; clear hK K)
              with_reducible refine wpQuiet_step ?_
              intro K hK
              refine quiet_val (.agg (slotC s).toArray) (fun w' hw' => held_loadf aggS _ rfl g14 rfl _ (slotC s) ((HA.out w' hw').get 4 rfl) hSL.out) ?_ rfl
              go_simp
              refine hK _ ?_
              clear hK K
              with_reducible refine wpQuiet_step ?_
              intro K hK
              go_simp
              first | (refine hK _ ?_; clear hK K) | (refine ⟨_, fun w' hw' => rfl, hK _ ?_⟩; clear hK K)
              with_reducible refine wpQuiet_step ?_
              intro K hK
              go_simp
              first | (refine hK _ ?_; clear hK K) | (refine ⟨_, fun w' hw' => rfl, hK _ ?_⟩; clear hK K)
              with_reducible refine wpQuiet_step ?_
              intro K hK
              go_simp
              first | (refine hK _ ?_; clear hK K) | (refine ⟨_, fun w' hw' => rfl, hK _ ?_⟩; clear hK K)
              with_reducible refine wpQuiet_step ?_
              intro K hK
              refine quiet_val (.agg (slotC s).toArray) (fun w' hw' => held_loadAt _ rfl ⟨go, j * 40, none⟩ rfl s HSO.out (HOC.out w' (HA.out w' hw').own)) ?_ rfl
              go_simp
              refine hK _ ?_
              clear hK K
              with_reducible refine wpQuiet_step ?_
              intro K hK
              refine quiet_val (.bool (!true)) (fun w' hw' => held_neq _ _ _ _ rfl (slotC s) (slotC s) rfl rfl (true) (hSS.out w') Try.eqGuardType32) ?_ rfl
              go_simp
              refine hK _ ?_
              clear hK K
              with_reducible refine wpQuiet_step ?_
              intro K hK
              go_simp
              first | (refine hK _ ?_; clear hK K) | (refine ⟨_, fun w' hw' => rfl, hK _ ?_⟩; clear hK K)
              with_reducible refine wpQuiet_step ?_
              intro K hK
              go_simp
              first | (refine hK _ ?_; clear hK K) | (refine ⟨_, fun w' hw' => rfl, hK _ ?_⟩; clear hK K)
              with_reducible refine wpQuiet_step ?_
              intro K hK
              go_simp
              first | (refine hK _ ?_; clear hK K) | (refine ⟨_, fun w' hw' => rfl, hK _ ?_⟩; clear hK K)
              with_reducible refine wpQuiet_step ?_
              intro K hK
              go_simp
              first | (refine hK _ ?_; clear hK K) | (refine ⟨_, fun w' hw' => rfl, hK _ ?_⟩; clear hK K)
              with_reducible refine wpQuiet_step ?_
              intro K hK
              go_simp
              first | (refine hK _ ?_; clear hK K) | (refine ⟨_, fun w' hw' => rfl, hK _ ?_⟩; clear hK K)
              with_reducible refine wpQuiet_step ?_
              intro K hK
              go_simp
              first | (refine hK _ ?_; clear hK K) | (refine ⟨_, fun w' hw' => rfl, hK _ ?_⟩; clear hK K)
              with_reducible refine wpQuiet_step ?_
              intro K hK
              go_simp
              first | (refine hK _ ?_; clear hK K) | (refine ⟨_, fun w' hw' => rfl, hK _ ?_⟩; clear hK K)
              with_reducible refine wpQuiet_step ?_
              intro K hK
              go_simp
              first | (refine hK _ ?_; clear hK K) | (refine ⟨_, fun w' hw' => rfl, hK _ ?_⟩; clear hK K)
              with_reducible refine wpQuiet_step ?_
              intro K hK
              go_simp
              refine hK _ ?_
              clear hK K
              with_reducible refine wpQuiet_step ?_
              intro K hK
              go_simp
              refine hK _ ?_
              clear hK K
              with_reducible refine wpQuiet_step ?_
              intro K hK
              go_simp
              refine hK _ ?_
              clear hK K
              with_reducible refine wpQuiet_step ?_
              intro K hK
              go_simp
              first | (refine hK _ ?_; clear hK K) | (refine ⟨_, fun w' hw' => rfl, hK _ ?_⟩; clear hK K)
              with_reducible refine wpQuiet_step ?_
              intro K hK
              go_simp
              first | (refine hK _ ?_; clear hK K) | (refine ⟨_, fun w' hw' => rfl, hK _ ?_⟩; clear hK K)
              refine wpQuiet_nil ?_
              clear hq
              intro wq hwq
              replace H := hide (HA.out wq hwq)
              clear HA HC hwq
              go_wp2_with fail
              exact ⟨⟨j + 1, by omega, by go_num, HAt.left (l := [(g3, 50, pktC q), (gp, 5, curp.toList), (g10, 50, pktC q)]) (m := [(g13, 33, cellsB (outM s)), (g14, 32, slotC s)]) H.out⟩, by simp [intOf]; omega⟩
            · have hji2 : ¬ (j : Int) < (O.length : Int) := by omega
              have hjd2 : decide ((j : Int) < (O.length : Int)) = false := decide_eq_false hji2
              have hjd3 : decide ((O.length : Int) ≤ (j : Int)) = true := decide_eq_true (by omega)
              have hji3 : (O.length : Int) ≤ (j : Int) := by omega
              have hs0 : s = slot0 := by
                rw [hSD.out, List.getD_eq_getElem?_getD, List.getElem?_eq_none (by omega)]
                rfl
              have hbd : Hid (∀ w, Sem.run Try.prog (Instr.build 32 #[]) w = .ok (.agg (slotC s).toArray) w) := fun w => by
                rw [hs0]
                exact run_build w _ _ _ (by kernel_rfl)
              clear hs0
              obtain ⟨N, hN⟩ : ∃ N, N = W2.heap.size := ⟨_, rfl⟩
              have hq : Below N W2 W2 := hN ▸ Below.refl _ _
              have HA := hide (fun W' (h : Below N W2 W') => H.out.call (hN ▸ h))
              have HC := hide (fun W' (h : Below N W2 W') W'' (k : Below W'.heap.size W' W'') => h.trans (k.mono (by rw [hN]; exact h.size)))
              clear hN
              refine wp_region_class (fun W' => Below N W2 W') (by kernel_rfl) (by kernel_rfl) (below_drewN hq 1) ?_
              with_reducible refine wpQuiet_step ?_
              intro K hK
              go_simp
              first | (refine hK _ ?_; clear hK K) | (refine ⟨_, fun w' hw' => rfl, hK _ ?_⟩; clear hK K)
              with_reducible refine wpQuiet_step ?_
              intro K hK
              go_simp
              first | (refine hK _ ?_; clear hK K) | (refine ⟨_, fun w' hw' => rfl, hK _ ?_⟩; clear hK K)
              with_reducible refine wpQuiet_step ?_
              intro K hK
              go_simp
              first | (refine hK _ ?_; clear hK K) | (refine ⟨_, fun w' hw' => rfl, hK _ ?_⟩; clear hK K)
              with_reducible refine wpQuiet_step ?_
              intro K hK
              go_simp
              first | (refine hK _ ?_; clear hK K) | (refine ⟨_, fun w' hw' => rfl, hK _ ?_⟩; clear hK K)
              with_reducible refine wpQuiet_step ?_
              intro K hK
              go_simp
              first | (refine hK _ ?_; clear hK K) | (refine ⟨_, fun w' hw' => rfl, hK _ ?_⟩; clear hK K)
              with_reducible refine wpQuiet_step ?_
              intro K hK
              go_simp
              first | (refine hK _ ?_; clear hK K) | (refine ⟨_, fun w' hw' => rfl, hK _ ?_⟩; clear hK K)
              with_reducible refine wpQuiet_step ?_
              intro K hK
              go_simp
              first | (refine hK _ ?_; clear hK K) | (refine ⟨_, fun w' hw' => rfl, hK _ ?_⟩; clear hK K)
              with_reducible refine wpQuiet_step ?_
              intro K hK
              go_simp
              first | (refine hK _ ?_; clear hK K) | (refine ⟨_, fun w' hw' => rfl, hK _ ?_⟩; clear hK K)
              with_reducible refine wpQuiet_step ?_
              intro K hK
              go_simp
              refine hK _ ?_
              clear hK K
              with_reducible refine wpQuiet_step ?_
              intro K hK
              go_simp
              refine hK _ ?_
              clear hK K
              with_reducible refine wpQuiet_step ?_
              intro K hK
              go_simp
              refine hK _ ?_
              clear hK K
              with_reducible refine wpQuiet_step ?_
              intro K hK
              go_simp
              refine hK _ ?_
              clear hK K
              with_reducible refine wpQuiet_step ?_
              intro K hK
              go_simp
              refine hK _ ?_
              clear hK K
              with_reducible refine wpQuiet_step ?_
              intro K hK
              go_simp
              refine hK _ ?_
              clear hK K
              with_reducible refine wpQuiet_step ?_
              intro K hK
              go_simp
              first | (refine hK _ ?_; clear hK K) | (refine ⟨_, fun w' hw' => rfl, hK _ ?_⟩; clear hK K)
              with_reducible refine wpQuiet_step ?_
              intro K hK
              go_simp
              first | (refine hK _ ?_; clear hK K) | (refine ⟨_, fun w' hw' => rfl, hK _ ?_⟩; clear hK K)
              with_reducible refine wpQuiet_step ?_
              intro K hK
              go_simp
              first | (refine hK _ ?_; clear hK K) | (refine ⟨_, fun w' hw' => rfl, hK _ ?_⟩; clear hK K)
              with_reducible refine wpQuiet_step ?_
              intro K hK
              go_simp
              first | (refine hK _ ?_; clear hK K) | (refine ⟨_, fun w' hw' => rfl, hK _ ?_⟩; clear hK K)
              with_reducible refine wpQuiet_step ?_
              intro K hK
              go_simp
              first | (refine hK _ ?_; clear hK K) | (refine ⟨_, fun w' hw' => rfl, hK _ ?_⟩; clear hK K)
              with_reducible refine wpQuiet_step ?_
              intro K hK
              go_simp
              first | (refine hK _ ?_; clear hK K) | (refine ⟨_, fun w' hw' => rfl, hK _ ?_⟩; clear hK K)
              with_reducible refine wpQuiet_step ?_
              intro K hK
              go_simp
              first | (refine hK _ ?_; clear hK K) | (refine ⟨_, fun w' hw' => rfl, hK _ ?_⟩; clear hK K)
              with_reducible refine wpQuiet_step ?_
              intro K hK
              go_simp
              first | (refine hK _ ?_; clear hK K) | (refine ⟨_, fun w' hw' => rfl, hK _ ?_⟩; clear hK K)
              with_reducible refine wpQuiet_step ?_
              intro K hK
              refine quiet_val (.agg (slotC s).toArray) (fun w' hw' => held_loadf aggS _ rfl g14 rfl _ (slotC s) ((HA.out w' hw').get 4 rfl) hSL.out) ?_ rfl
              go_simp
              refine hK _ ?_
              clear hK K
              with_reducible refine wpQuiet_step ?_
              intro K hK
              refine quiet_val (.agg (slotC s).toArray) (fun w' hw' => held_build _ _ rfl _ _ (hbd.out w') rfl) ?_ rfl
              go_simp
              refine hK _ ?_
              clear hK K
              with_reducible refine wpQuiet_step ?_
              intro K hK
              refine quiet_val (.bool (!true)) (fun w' hw' => held_neq _ _ _ _ rfl (slotC s) (slotC s) rfl rfl (true) (hSS.out w') Try.eqGuardType32) ?_ rfl
              go_simp
              refine hK _ ?_
              clear hK K
              with_reducible refine wpQuiet_step ?_
              intro K hK
              go_simp
              first | (refine hK _ ?_; clear hK K) | (refine ⟨_, fun w' hw' => rfl, hK _ ?_⟩; clear hK K)
              with_reducible refine wpQuiet_step ?_
              intro K hK
              go_simp
              first | (refine hK _ ?_; clear hK K) | (refine ⟨_, fun w' hw' => rfl, hK _ ?_⟩; clear hK K)
              refine wpQuiet_nil ?_
              clear hq
              intro wq hwq
              replace H := hide (HA.out wq hwq)
              clear HA HC hwq
              go_wp2_with fail
              exact ⟨⟨j + 1, by omega, by go_num, HAt.left (l := [(g3, 50, pktC q), (gp, 5, curp.toList), (g10, 50, pktC q)]) (m := [(g13, 33, cellsB (outM s)), (g14, 32, slotC s)]) H.out⟩, by simp [intOf]; omega⟩
          · have hji : ¬ (j : Int) < 5 := by omega
            have hjd : decide ((j : Int) < 5) = false := decide_eq_false hji
            go_wp2_with fail
            go_ret
            exact ⟨rfl, H.out.bel⟩
      · have hki : (k : Int) < (n : Int) := by omega
        have hkd : decide ((k : Int) < (n : Int)) = true := decide_eq_true hki
        have hoi : ¬ (O.length : Int) < 5 := by omega
        have hod : decide ((O.length : Int) < 5) = false := decide_eq_false hoi
        clear hlt hex
        go_wp2_with (first
          | (with_reducible refine at_op (op := ⟨some 55, _, _, _, _, _⟩) ?_; refine wpl_held (op := ⟨some 55, _, _, _, _, _⟩) (.agg (pktC q).toArray) (held_loadf aggP _ rfl g3 rfl _ (pktC q) (H.out.get 0 rfl) hq610.out) rfl ?_)
          | (go_at_call 19; (with_reducible refine (hP.out _).mono ?_); rintro e Wc ⟨Ap, cp, rfl, hop, hbc⟩; rw [hpl.out] at hop ⊢; obtain ⟨gp, curp, rfl, hgp, hbp, hsp, htp, hcp⟩ := own_block hop (by decide); rw [← Array.toArray_toList (xs := curp)] at hbp; replace H := hide (H.out.box hgp (Frm.of_below hbc) hbp); have HTP : Hid ((curp.toList.drop 0).take 614 = cellsB PK) := (by show _ = _; rw [List.drop_zero]; exact htp); clear hbc hop hgp hbp htp hcp hsp)
          | (go_at_call 20; with_reducible refine (hux.out _ ((H.out.get 1 rfl).mid 0 614 PK HTP.out hpl0.out) cp).mono ?_; rintro e Wc ⟨rfl, hbc⟩; replace H := hide (H.out.call hbc); clear hbc)
          | ((with_reducible refine wpl_alloca (op := ⟨some 10, _, _, _, _, _⟩) rfl _ rfl _ zeroP ?_); intro g10 W1 hB1 hg1 hF1)
          | ((with_reducible refine wpl_storea aggP rfl (.tmp 10) (.tmp 58) rfl g10 (pktC q) rfl rfl _ _ hB1 hq610.out pkt0_len (hqo.out) ?_); intro W2 hB2 hF2; replace H := hide (H.out.var hg1 hF1 hF2 hB2); clear hB1 hg1 hF1 hB2 hF2)
          | (with_reducible refine at_op (op := ⟨some 63, _, _, _, _, _⟩) ?_; refine wpl_held (op := ⟨some 63, _, _, _, _, _⟩) (.agg (pktC q).toArray) (held_loadf aggP _ rfl g10 rfl _ (pktC q) (H.out.get 2 rfl) hq610.out) rfl ?_)
          | (with_reducible refine at_op (op := ⟨some 64, _, _, _, _, _⟩) ?_; refine wpl_held (op := ⟨some 64, _, _, _, _, _⟩) (.agg (pktC q).toArray) (held_loadf aggP _ rfl g3 rfl _ (pktC q) (H.out.get 0 rfl) hq610.out) rfl ?_)
          | (with_reducible refine at_op (op := ⟨some 65, _, _, _, _, _⟩) ?_; refine wpl_held (op := ⟨some 65, _, _, _, _, _⟩) (.bool (!true)) (held_neq _ _ _ _ rfl (pktC q) (pktC q) rfl rfl (true) (hCC.out _) Try.eqGuardType50) rfl ?_))
        go_loopw [12] (fun i wr => ∃ j : Nat, j ≤ 5 ∧ i = .int .i64 j ∧ HAt w O Ao co [(g3, 50, pktC q), (gp, 5, curp.toList), (g10, 50, pktC q)] wr) (fun i _ => 5 - (intOf i).toNat)
        case atStart => exact ⟨0, by omega, rfl, H.out⟩
        case round =>
          obtain ⟨j, hj5, rfl, h⟩ := hrel
          clear H
          have H := hide h
          clear h
          by_cases hj : j < 5
          · obtain ⟨s, hsd⟩ : ∃ s, s = O.getD j slot0 := ⟨_, rfl⟩
            have hs := (HBACK.out j).1
            have hsR := (HBACK.out j).2
            have hxt := hide (HCHUNK.out j hj)
            rw [← hsd] at hs hsR hxt
            have hdec : Hid (∀ w, Calls Try.prog 17 #[.agg (cellsB (outM s)).toArray] w fun e w' => e = .returned (.tuple #[.agg (slotC s).toArray, .int .i64 0]) ∧ Below w.heap.size w w') := fun w => by
              have k := decode_any (outM s) (outM_length hs) w
              rw [(right_back hs hsR).1, (right_back hs hsR).2] at k
              exact k
            have HX : Hid (((pktC q).drop (34 + 64 * j)).take (320 - 64 * j) = cellsB (q.head.drop (64 * j))) := by
              show _ = _
              rw [← List.drop_drop, ← List.drop_take, pktC_head HQ.out, cellsB_drop]
            have HXL : Hid ((q.head.drop (64 * j)).length = 320 - 64 * j) := by show _ = _; rw [List.length_drop, HQ.out.head]
            have hX : Hid ((cellsB (outM s)).length = 64) := by show _ = _; rw [cellsB_length]; exact outM_length hs
            have hspl : Hid (splice (cellsB (zeros 64)) 0 (cellsB (outM s)) = cellsB (outM s)) := by
              show _ = _
              unfold splice
              rw [hX.out, List.drop_eq_nil_of_le (by rw [cellsB_length, zeros_length]; decide), List.take_zero, List.nil_append, List.append_nil]
            have hSL := hide (slotC_len hs)
            have hso := hide (slotC_one s)
            have HSO := hide hs
            have hSD := hide hsd
            have hSS : Hid (∀ w, (Op.equalIn 10000 32 (.agg (slotC s).toArray) (.agg (slotC s).toArray)).run Try.prog w = .ok true w) := fun w => by
              have h := eq_slot hs hs w
              rw [show slotEq s s = true from slotEq_iff.2 rfl] at h
              exact h
            have hji : (j : Int) < 5 := by omega
            have hjd : decide ((j : Int) < 5) = true := decide_eq_true hji
            have hwm : IntKind.i64.wrap (64 * (j : Int)) = 64 * (j : Int) := by rw [IntKind.wrap_i64] <;> omega
            clear hs hsR hsd
            go_wp2_with (first
              | ((with_reducible refine wpl_alloca (op := ⟨some 13, _, _, _, _, _⟩) rfl _ rfl _ zero64 ?_); intro g13 W1 hB1 hg1 hF1; replace H := hide (H.out.box (t := 33) (cs := cellsB (zeros 64)) hg1 hF1 hB1); clear hB1 hg1 hF1))
            have hsl1 : ∀ w, (Instr.sliceAt 47 (.pointer (some ⟨g10, 34, none⟩)) (some (.int .i64 (64 * (j : Int)))) none none).run Try.prog w = .ok (.slice (some ⟨g10, 34 + 64 * j, none⟩) (320 - 64 * j) (320 - 64 * j)) w := fun w => by
              have h := slice_arr_from under320 g10 34 (64 * j) (by omega) w
              rw [Int.natCast_mul] at h
              exact h
            have hsl2 : ∀ w, (Instr.sliceAt 33 (.pointer (some ⟨g13, 0, none⟩)) none none none).run Try.prog w = .ok (.slice (some ⟨g13, 0, none⟩) 64 64) w := fun w => slice_arr_all under64b g13 w
            replace H := hide H.out.drew
            go_still_tail 5, (by kernel_rfl)
            change wpList _ _ _ _ _ W1.drew
            go_wp2_with (first
              | (with_reducible refine at_op (op := ⟨some 76, _, _, _, _, _⟩) ?_; (refine wpl_copyR (op := ⟨some 76, _, _, _, _, _⟩) rfl (.tmp 71) (.tmp 75) rfl g13 0 64 64 (some ⟨g10, 34 + 64 * j, none⟩) (320 - 64 * j) (320 - 64 * j) 64 rfl rfl (cellsB (zeros 64)) _ (H.out.get 3 rfl) (q.head.drop (64 * j)) ((H.out.get 2 rfl).mid (34 + 64 * j) (320 - 64 * j) _ HX.out HXL.out) (Nat.min_eq_right (by omega)).symm (by rw [cellsB_length, zeros_length]; decide) ?_); intro W1 hB1 hF1; rw [hxt.out, hspl.out] at hB1; replace H := hide (H.out.store 3 rfl hF1 hB1 (by decide)); clear hB1 hF1)
              | (with_reducible refine at_op (op := ⟨some 78, _, _, _, _, _⟩) ?_; refine wpl_held (op := ⟨some 78, _, _, _, _, _⟩) (.agg (cellsB (outM s)).toArray) (held_loadf agg64b _ rfl g13 rfl _ (cellsB (outM s)) (H.out.get 3 rfl) hX.out) rfl ?_)
              | (go_at_call 17; with_reducible refine (hdec.out _).mono ?_; rintro e Wc ⟨rfl, hbc⟩; replace H := hide (H.out.call hbc); clear hbc)
              | ((with_reducible refine wpl_alloca (op := ⟨some 14, _, _, _, _, _⟩) rfl _ rfl _ zeroS ?_); intro g14 W1 hB1 hg1 hF1)
              | ((with_reducible refine wpl_storea aggS rfl (.tmp 14) (.tmp 80) rfl g14 (slotC s) rfl rfl _ _ hB1 hSL.out slot0_len (hso.out) ?_); intro W2 hB2 hF2; replace H := hide (H.out.var hg1 hF1 hF2 hB2); clear hB1 hg1 hF1 hB2 hF2))
            clear hsl1 hsl2
            by_cases hjo : j < O.length
            · have hji2 : (j : Int) < (O.length : Int) := by omega
              have hjd2 : decide ((j : Int) < (O.length : Int)) = true := decide_eq_true hji2
              have hjd3 : decide ((O.length : Int) ≤ (j : Int)) = false := decide_eq_false (by omega)
              have hji3 : ¬ (O.length : Int) ≤ (j : Int) := by omega
              obtain ⟨go, hAo, _⟩ := H.out.own.cells (by omega)
              subst hAo
              have HOC : Hid (∀ W', SOwn W' w.heap.size (some ⟨go, 0, none⟩) O.length co O → ∀ q u, (slotC s)[q]? = some u → W'.cell? ((⟨go, j * 40, none⟩ : Addr).add q) = some u) := fun W' h q u hq => by
                obtain ⟨g', e, _, _, hc⟩ := h.cells (by omega)
                injection e with e
                injection e with e1
                subst e1
                have hq4 : q < 40 := by have := (List.getElem?_eq_some_iff.1 hq).1; rwa [hSL.out] at this
                have hc2 := hc j q hjo hq4
                rw [← hSD.out, hq] at hc2
                rw [addr_add]
                exact hc2
              obtain ⟨N, hN⟩ : ∃ N, N = W2.heap.size := ⟨_, rfl⟩
              have hq : Below N W2 W2 := hN ▸ Below.refl _ _
              have HA := hide (fun W' (h : Below N W2 W') => H.out.call (hN ▸ h))
              have HC := hide (fun W' (h : Below N W2 W') W'' (k : Below W'.heap.size W' W'') => h.trans (k.mono (by rw [hN]; exact h.size)))
              clear hN
              refine wp_region_class (fun W' => Below N W2 W') (by kernel_rfl) (by kernel_rfl) (below_drewN hq 1) ?_
              with_reducible refine wpQuiet_step ?_
              intro K hK
              go_simp
              first | (refine hK _ ?_; clear hK K) | (refine ⟨_, fun w' hw' => rfl, hK _ ?_⟩; clear hK K)
              with_reducible refine wpQuiet_step ?_
              intro K hK
              go_simp
              first | (refine hK _ ?_; clear hK K) | (refine ⟨_, fun w' hw' => rfl, hK _ ?_⟩; clear hK K)
              with_reducible refine wpQuiet_step ?_
              intro K hK
              go_simp
              first | (refine hK _ ?_; clear hK K) | (refine ⟨_, fun w' hw' => rfl, hK _ ?_⟩; clear hK K)
              with_reducible refine wpQuiet_step ?_
              intro K hK
              go_simp
              first | (refine hK _ ?_; clear hK K) | (refine ⟨_, fun w' hw' => rfl, hK _ ?_⟩; clear hK K)
              with_reducible refine wpQuiet_step ?_
              intro K hK
              go_simp
              first | (refine hK _ ?_; clear hK K) | (refine ⟨_, fun w' hw' => rfl, hK _ ?_⟩; clear hK K)
              with_reducible refine wpQuiet_step ?_
              intro K hK
              go_simp
              first | (refine hK _ ?_; clear hK K) | (refine ⟨_, fun w' hw' => rfl, hK _ ?_⟩; clear hK K)
              with_reducible refine wpQuiet_step ?_
              intro K hK
              go_simp
              first | (refine hK _ ?_; clear hK K) | (refine ⟨_, fun w' hw' => rfl, hK _ ?_⟩; clear hK K)
              with_reducible refine wpQuiet_step ?_
              intro K hK
              go_simp
              first | (refine hK _ ?_; clear hK K) | (refine ⟨_, fun w' hw' => rfl, hK _ ?_⟩; clear hK K)
              with_reducible refine wpQuiet_step ?_
              intro K hK
              refine quiet_val (.agg (slotC s).toArray) (fun w' hw' => held_loadf aggS _ rfl g14 rfl _ (slotC s) ((HA.out w' hw').get 4 rfl) hSL.out) ?_ rfl
              go_simp
              refine hK _ ?_
              clear hK K
              with_reducible refine wpQuiet_step ?_
              intro K hK
              go_simp
              first | (refine hK _ ?_; clear hK K) | (refine ⟨_, fun w' hw' => rfl, hK _ ?_⟩; clear hK K)
              with_reducible refine wpQuiet_step ?_
              intro K hK
              go_simp
              first | (refine hK _ ?_; clear hK K) | (refine ⟨_, fun w' hw' => rfl, hK _ ?_⟩; clear hK K)
              with_reducible refine wpQuiet_step ?_
              intro K hK
              go_simp
              first | (refine hK _ ?_; clear hK K) | (refine ⟨_, fun w' hw' => rfl, hK _ ?_⟩; clear hK K)
              with_reducible refine wpQuiet_step ?_
              intro K hK
              refine quiet_val (.agg (slotC s).toArray) (fun w' hw' => held_loadAt _ rfl ⟨go, j * 40, none⟩ rfl s HSO.out (HOC.out w' (HA.out w' hw').own)) ?_ rfl
              go_simp
              refine hK _ ?_
              clear hK K
              with_reducible refine wpQuiet_step ?_
              intro K hK
              refine quiet_val (.bool (!true)) (fun w' hw' => held_neq _ _ _ _ rfl (slotC s) (slotC s) rfl rfl (true) (hSS.out w') Try.eqGuardType32) ?_ rfl
              go_simp
              refine hK _ ?_
              clear hK K
              with_reducible refine wpQuiet_step ?_
              intro K hK
              go_simp
              first | (refine hK _ ?_; clear hK K) | (refine ⟨_, fun w' hw' => rfl, hK _ ?_⟩; clear hK K)
              with_reducible refine wpQuiet_step ?_
              intro K hK
              go_simp
              first | (refine hK _ ?_; clear hK K) | (refine ⟨_, fun w' hw' => rfl, hK _ ?_⟩; clear hK K)
              with_reducible refine wpQuiet_step ?_
              intro K hK
              go_simp
              first | (refine hK _ ?_; clear hK K) | (refine ⟨_, fun w' hw' => rfl, hK _ ?_⟩; clear hK K)
              with_reducible refine wpQuiet_step ?_
              intro K hK
              go_simp
              first | (refine hK _ ?_; clear hK K) | (refine ⟨_, fun w' hw' => rfl, hK _ ?_⟩; clear hK K)
              with_reducible refine wpQuiet_step ?_
              intro K hK
              go_simp
              first | (refine hK _ ?_; clear hK K) | (refine ⟨_, fun w' hw' => rfl, hK _ ?_⟩; clear hK K)
              with_reducible refine wpQuiet_step ?_
              intro K hK
              go_simp
              first | (refine hK _ ?_; clear hK K) | (refine ⟨_, fun w' hw' => rfl, hK _ ?_⟩; clear hK K)
              with_reducible refine wpQuiet_step ?_
              intro K hK
              go_simp
              first | (refine hK _ ?_; clear hK K) | (refine ⟨_, fun w' hw' => rfl, hK _ ?_⟩; clear hK K)
              with_reducible refine wpQuiet_step ?_
              intro K hK
              go_simp
              first | (refine hK _ ?_; clear hK K) | (refine ⟨_, fun w' hw' => rfl, hK _ ?_⟩; clear hK K)
              with_reducible refine wpQuiet_step ?_
              intro K hK
              go_simp
              refine hK _ ?_
              clear hK K
              with_reducible refine wpQuiet_step ?_
              intro K hK
              go_simp
              refine hK _ ?_
              clear hK K
              with_reducible refine wpQuiet_step ?_
              intro K hK
              go_simp
              refine hK _ ?_
              clear hK K
              with_reducible refine wpQuiet_step ?_
              intro K hK
              go_simp
              first | (refine hK _ ?_; clear hK K) | (refine ⟨_, fun w' hw' => rfl, hK _ ?_⟩; clear hK K)
              with_reducible refine wpQuiet_step ?_
              intro K hK
              go_simp
              first | (refine hK _ ?_; clear hK K) | (refine ⟨_, fun w' hw' => rfl, hK _ ?_⟩; clear hK K)
              refine wpQuiet_nil ?_
              clear hq
              intro wq hwq
              replace H := hide (HA.out wq hwq)
              clear HA HC hwq
              go_wp2_with fail
              exact ⟨⟨j + 1, by omega, by go_num, HAt.left (l := [(g3, 50, pktC q), (gp, 5, curp.toList), (g10, 50, pktC q)]) (m := [(g13, 33, cellsB (outM s)), (g14, 32, slotC s)]) H.out⟩, by simp [intOf]; omega⟩
            · have hji2 : ¬ (j : Int) < (O.length : Int) := by omega
              have hjd2 : decide ((j : Int) < (O.length : Int)) = false := decide_eq_false hji2
              have hjd3 : decide ((O.length : Int) ≤ (j : Int)) = true := decide_eq_true (by omega)
              have hji3 : (O.length : Int) ≤ (j : Int) := by omega
              have hs0 : s = slot0 := by
                rw [hSD.out, List.getD_eq_getElem?_getD, List.getElem?_eq_none (by omega)]
                rfl
              have hbd : Hid (∀ w, Sem.run Try.prog (Instr.build 32 #[]) w = .ok (.agg (slotC s).toArray) w) := fun w => by
                rw [hs0]
                exact run_build w _ _ _ (by kernel_rfl)
              clear hs0
              obtain ⟨N, hN⟩ : ∃ N, N = W2.heap.size := ⟨_, rfl⟩
              have hq : Below N W2 W2 := hN ▸ Below.refl _ _
              have HA := hide (fun W' (h : Below N W2 W') => H.out.call (hN ▸ h))
              have HC := hide (fun W' (h : Below N W2 W') W'' (k : Below W'.heap.size W' W'') => h.trans (k.mono (by rw [hN]; exact h.size)))
              clear hN
              refine wp_region_class (fun W' => Below N W2 W') (by kernel_rfl) (by kernel_rfl) (below_drewN hq 1) ?_
              with_reducible refine wpQuiet_step ?_
              intro K hK
              go_simp
              first | (refine hK _ ?_; clear hK K) | (refine ⟨_, fun w' hw' => rfl, hK _ ?_⟩; clear hK K)
              with_reducible refine wpQuiet_step ?_
              intro K hK
              go_simp
              first | (refine hK _ ?_; clear hK K) | (refine ⟨_, fun w' hw' => rfl, hK _ ?_⟩; clear hK K)
              with_reducible refine wpQuiet_step ?_
              intro K hK
              go_simp
              first | (refine hK _ ?_; clear hK K) | (refine ⟨_, fun w' hw' => rfl, hK _ ?_⟩; clear hK K)
              with_reducible refine wpQuiet_step ?_
              intro K hK
              go_simp
              first | (refine hK _ ?_; clear hK K) | (refine ⟨_, fun w' hw' => rfl, hK _ ?_⟩; clear hK K)
              with_reducible refine wpQuiet_step ?_
              intro K hK
              go_simp
              first | (refine hK _ ?_; clear hK K) | (refine ⟨_, fun w' hw' => rfl, hK _ ?_⟩; clear hK K)
              with_reducible refine wpQuiet_step ?_
              intro K hK
              go_simp
              first | (refine hK _ ?_; clear hK K) | (refine ⟨_, fun w' hw' => rfl, hK _ ?_⟩; clear hK K)
              with_reducible refine wpQuiet_step ?_
              intro K hK
              go_simp
              first | (refine hK _ ?_; clear hK K) | (refine ⟨_, fun w' hw' => rfl, hK _ ?_⟩; clear hK K)
              with_reducible refine wpQuiet_step ?_
              intro K hK
              go_simp
              first | (refine hK _ ?_; clear hK K) | (refine ⟨_, fun w' hw' => rfl, hK _ ?_⟩; clear hK K)
              with_reducible refine wpQuiet_step ?_
              intro K hK
              go_simp
              refine hK _ ?_
              clear hK K
              with_reducible refine wpQuiet_step ?_
              intro K hK
              go_simp
              refine hK _ ?_
              clear hK K
              with_reducible refine wpQuiet_step ?_
              intro K hK
              go_simp
              refine hK _ ?_
              clear hK K
              with_reducible refine wpQuiet_step ?_
              intro K hK
              go_simp
              refine hK _ ?_
              clear hK K
              with_reducible refine wpQuiet_step ?_
              intro K hK
              go_simp
              refine hK _ ?_
              clear hK K
              with_reducible refine wpQuiet_step ?_
              intro K hK
              go_simp
              refine hK _ ?_
              clear hK K
              with_reducible refine wpQuiet_step ?_
              intro K hK
              go_simp
              first | (refine hK _ ?_; clear hK K) | (refine ⟨_, fun w' hw' => rfl, hK _ ?_⟩; clear hK K)
              with_reducible refine wpQuiet_step ?_
              intro K hK
              go_simp
              first | (refine hK _ ?_; clear hK K) | (refine ⟨_, fun w' hw' => rfl, hK _ ?_⟩; clear hK K)
              with_reducible refine wpQuiet_step ?_
              intro K hK
              go_simp
              first | (refine hK _ ?_; clear hK K) | (refine ⟨_, fun w' hw' => rfl, hK _ ?_⟩; clear hK K)
              with_reducible refine wpQuiet_step ?_
              intro K hK
              go_simp
              first | (refine hK _ ?_; clear hK K) | (refine ⟨_, fun w' hw' => rfl, hK _ ?_⟩; clear hK K)
              with_reducible refine wpQuiet_step ?_
              intro K hK
              go_simp
              first | (refine hK _ ?_; clear hK K) | (refine ⟨_, fun w' hw' => rfl, hK _ ?_⟩; clear hK K)
              with_reducible refine wpQuiet_step ?_
              intro K hK
              go_simp
              first | (refine hK _ ?_; clear hK K) | (refine ⟨_, fun w' hw' => rfl, hK _ ?_⟩; clear hK K)
              with_reducible refine wpQuiet_step ?_
              intro K hK
              go_simp
              first | (refine hK _ ?_; clear hK K) | (refine ⟨_, fun w' hw' => rfl, hK _ ?_⟩; clear hK K)
              with_reducible refine wpQuiet_step ?_
              intro K hK
              go_simp
              first | (refine hK _ ?_; clear hK K) | (refine ⟨_, fun w' hw' => rfl, hK _ ?_⟩; clear hK K)
              with_reducible refine wpQuiet_step ?_
              intro K hK
              refine quiet_val (.agg (slotC s).toArray) (fun w' hw' => held_loadf aggS _ rfl g14 rfl _ (slotC s) ((HA.out w' hw').get 4 rfl) hSL.out) ?_ rfl
              go_simp
              refine hK _ ?_
              clear hK K
              with_reducible refine wpQuiet_step ?_
              intro K hK
              refine quiet_val (.agg (slotC s).toArray) (fun w' hw' => held_build _ _ rfl _ _ (hbd.out w') rfl) ?_ rfl
              go_simp
              refine hK _ ?_
              clear hK K
              with_reducible refine wpQuiet_step ?_
              intro K hK
              refine quiet_val (.bool (!true)) (fun w' hw' => held_neq _ _ _ _ rfl (slotC s) (slotC s) rfl rfl (true) (hSS.out w') Try.eqGuardType32) ?_ rfl
              go_simp
              refine hK _ ?_
              clear hK K
              with_reducible refine wpQuiet_step ?_
              intro K hK
              go_simp
              first | (refine hK _ ?_; clear hK K) | (refine ⟨_, fun w' hw' => rfl, hK _ ?_⟩; clear hK K)
              with_reducible refine wpQuiet_step ?_
              intro K hK
              go_simp
              first | (refine hK _ ?_; clear hK K) | (refine ⟨_, fun w' hw' => rfl, hK _ ?_⟩; clear hK K)
              refine wpQuiet_nil ?_
              clear hq
              intro wq hwq
              replace H := hide (HA.out wq hwq)
              clear HA HC hwq
              go_wp2_with fail
              exact ⟨⟨j + 1, by omega, by go_num, HAt.left (l := [(g3, 50, pktC q), (gp, 5, curp.toList), (g10, 50, pktC q)]) (m := [(g13, 33, cellsB (outM s)), (g14, 32, slotC s)]) H.out⟩, by simp [intOf]; omega⟩
          · have hji : ¬ (j : Int) < 5 := by omega
            have hjd : decide ((j : Int) < 5) = false := decide_eq_false hji
            go_wp2_with fail
            go_ret
            exact ⟨rfl, H.out.bel⟩
end Go.Proofs.Ytedodbejbkdplaa
