/-
  SlotTurned: the walk.
-/
import Derived.Test.YtedodbejbkdplaaCutsW
namespace Go.Proofs.Ytedodbejbkdplaa
set_option linter.unusedVariables false
set_option linter.unusedSimpArgs false
open Go.RowKit

theorem cut_same (l : List UInt8) (k : Nat) (y : UInt8) (i n : Nat) (h : k < i ∨ i + n ≤ k) : ((l.set k y).drop i).take n = (l.drop i).take n := by
  apply List.ext_getElem?
  intro j
  rw [List.getElem?_take, List.getElem?_take]
  split
  · rw [List.getElem?_drop, List.getElem?_drop, List.getElem?_set_ne (by omega)]
  · rfl
theorem cut_diff (l : List UInt8) (k : Nat) (y : UInt8) (i n : Nat) (h1 : i ≤ k) (h2 : k < i + n) (hk : k < l.length) (hy : y ≠ l.getD k 0) : (((l.set k y).drop i).take n == (l.drop i).take n) = false := by
  rw [Bool.eq_false_iff]
  intro h
  have h : ((l.set k y).drop i).take n = (l.drop i).take n := by simpa using h
  have h3 := congrArg (fun m => m[k - i]?) h
  simp only [List.getElem?_take, List.getElem?_drop] at h3
  rw [if_pos (by omega), if_pos (by omega), show i + (k - i) = k by omega, List.getElem?_set_self hk] at h3
  apply hy
  rw [List.getD_eq_getElem?_getD, ← h3]
  rfl
theorem num_inj {l m : List UInt8} (h : l.length = m.length) (hn : num l = num m) : l = m := by
  have h1 := be_num l
  rw [hn, h, be_num] at h1
  exact h1.symm
theorem take_set_cells {cs : List Value} {n : Nat} {l : List UInt8} (h : (cs.drop 0).take n = cellsB l) (k : Nat) (y : UInt8) : ((cs.set k (.int .u8 (y.toNat : Int))).drop 0).take n = cellsB (l.set k y) := by
  rw [List.drop_zero] at h ⊢
  rw [List.take_set, h, cellsB_set]

set_option maxHeartbeats 16000000 in
set_option maxRecDepth 100000 in
theorem turned_walk (p : Pkt) (hp : p.ok) (a : Int) (hab : -9223372036854775808 ≤ a ∧ a ≤ 9223372036854775807) (b : Nat) (hb : b < 256) (w : World) : Calls Try.prog 8 #[.agg (pktC p).toArray, .int .i64 a, .int .u8 (b : Int)] w fun e w' => e = .returned (.bool true) ∧ Below w.heap.size w w' := by
  have hsh := hide shown_any
  obtain ⟨y, hy⟩ : ∃ y : UInt8, (b : Int) = (y.toNat : Int) := ⟨UInt8.ofNat b, by rw [UInt8.toNat_ofNat']; omega⟩
  rw [hy]
  clear hy hb
  obtain ⟨k, hk0⟩ : ∃ k : Nat, a % 65536 % 614 = (k : Int) := ⟨(a % 65536 % 614).toNat, by omega⟩
  have hkl : k < 614 := by omega
  have hk6 : Hid (k < 614) := hkl
  have hk := hide hk0
  have hmask := mask16 a
  have hP := hide (pack_any p hp)
  have hpl0 := hide (packM_length hp)
  obtain ⟨PK, hPK⟩ : ∃ l, l = packM p := ⟨_, rfl⟩
  have hup := unpack_pack hp
  rw [← hPK] at hP hpl0 hup
  have hpl : Hid ((cellsB PK).length = 614) := by show _ = _; rw [cellsB_length]; exact hpl0.out
  obtain ⟨x, hx0⟩ : ∃ x : UInt8, PK.getD k 0 = x := ⟨_, rfl⟩
  have hx := hide hx0
  obtain ⟨z, hz0⟩ : ∃ z : UInt8, z = x ^^^ y := ⟨_, rfl⟩
  have hxor : bits .xor .u8 (x.toNat : Int) (y.toNat : Int) = (z.toNat : Int) := by rw [hz0]; exact byte_xor x y
  obtain ⟨Q, hQe⟩ : ∃ l, l = PK.set k z := ⟨_, rfl⟩
  have hQ := hide hQe
  have hQl0 : Q.length = 614 := by rw [hQe, List.length_set]; exact hpl0.out
  have hQl := hide hQl0
  obtain ⟨T, hT⟩ : ∃ t, t = unpackM Q := ⟨_, rfl⟩
  have hTo : T.ok := by rw [hT]; exact unpackM_ok hQl0
  have hU : Hid (∀ W gp, Rds W (some ⟨gp, 0, none⟩) 614 (cellsB Q) → ∀ cp, Calls Try.prog 20 #[.slice (some ⟨gp, 0, none⟩) 614 cp] W fun e w' => e = .returned (.tuple #[.agg (pktC T).toArray, .int .i64 0]) ∧ Below W.heap.size W w') := fun W gp h cp => by
    have k := unpack_any _ 614 cp Q W h (by decide)
    rw [show upM Q = T by rw [hT]; unfold upM; rw [if_pos hQl0], show errU Q = 0 by unfold errU; rw [if_neg (by omega), if_neg (by omega)]] at k
    exact k
  have h610 := hide (pktC_length hp)
  have h610q := hide (pktC_length hTo)
  have hQo := hide (pktC_one T)
  obtain ⟨wp, hwp⟩ : ∃ v, v = p.who := ⟨_, rfl⟩
  obtain ⟨ep, hep⟩ : ∃ v, v = p.epoch := ⟨_, rfl⟩
  obtain ⟨pnonce, hpnonce⟩ : ∃ v, v = p.nonce := ⟨_, rfl⟩
  obtain ⟨pmac, hpmac⟩ : ∃ v, v = p.mac := ⟨_, rfl⟩
  obtain ⟨phead, hphead⟩ : ∃ v, v = p.head := ⟨_, rfl⟩
  obtain ⟨pbody, hpbody⟩ : ∃ v, v = p.body := ⟨_, rfl⟩
  obtain ⟨qw, hqw⟩ : ∃ v, v = T.who := ⟨_, rfl⟩
  obtain ⟨qe, hqe⟩ : ∃ v, v = T.epoch := ⟨_, rfl⟩
  obtain ⟨qnonce, hqnonce⟩ : ∃ v, v = T.nonce := ⟨_, rfl⟩
  obtain ⟨qmac, hqmac⟩ : ∃ v, v = T.mac := ⟨_, rfl⟩
  obtain ⟨qhead, hqhead⟩ : ∃ v, v = T.head := ⟨_, rfl⟩
  obtain ⟨qbody, hqbody⟩ : ∃ v, v = T.body := ⟨_, rfl⟩
  have hp0 : Hid ((pktC p)[0]? = some (.int .u16 (wp : Int))) := by rw [hwp]; rfl
  have hp1 : Hid ((pktC p)[1]? = some (.int .u32 (ep : Int))) := by rw [hep]; rfl
  have hq0 : Hid ((pktC T)[0]? = some (.int .u16 (qw : Int))) := by rw [hqw]; rfl
  have hq1 : Hid ((pktC T)[1]? = some (.int .u32 (qe : Int))) := by rw [hqe]; rfl
  have hp_nonce : Hid (((pktC p).drop 2).take 16 = cellsB pnonce) := by rw [hpnonce]; exact pktC_nonce hp
  have hq_nonce : Hid (((pktC T).drop 2).take 16 = cellsB qnonce) := by rw [hqnonce]; exact pktC_nonce hTo
  have hlp_nonce : pnonce.length = 16 := by rw [hpnonce]; exact hp.nonce
  have hlq_nonce : qnonce.length = 16 := by rw [hqnonce]; exact hTo.nonce
  have hp_mac : Hid (((pktC p).drop 18).take 16 = cellsB pmac) := by rw [hpmac]; exact pktC_mac hp
  have hq_mac : Hid (((pktC T).drop 18).take 16 = cellsB qmac) := by rw [hqmac]; exact pktC_mac hTo
  have hlp_mac : pmac.length = 16 := by rw [hpmac]; exact hp.mac
  have hlq_mac : qmac.length = 16 := by rw [hqmac]; exact hTo.mac
  have hp_head : Hid (((pktC p).drop 34).take 320 = cellsB phead) := by rw [hphead]; exact pktC_head hp
  have hq_head : Hid (((pktC T).drop 34).take 320 = cellsB qhead) := by rw [hqhead]; exact pktC_head hTo
  have hlp_head : phead.length = 320 := by rw [hphead]; exact hp.head
  have hlq_head : qhead.length = 320 := by rw [hqhead]; exact hTo.head
  have hp_body : Hid (((pktC p).drop 354).take 256 = cellsB pbody) := by rw [hpbody]; exact pktC_body hp
  have hq_body : Hid (((pktC T).drop 354).take 256 = cellsB qbody) := by rw [hqbody]; exact pktC_body hTo
  have hlp_body : pbody.length = 256 := by rw [hpbody]; exact hp.body
  have hlq_body : qbody.length = 256 := by rw [hqbody]; exact hTo.body
  rw [← hup] at hwp hep hpnonce hpmac hphead hpbody
  rw [hT] at hqw hqe hqnonce hqmac hqhead hqbody
  simp only [unpackM] at hwp hep hpnonce hpmac hphead hpbody hqw hqe hqnonce hqmac hqhead hqbody
  rw [← List.take_of_length_le (l := PK.drop 358) (i := 256) (by rw [List.length_drop, hpl0.out]; decide)] at hpbody
  rw [← List.take_of_length_le (l := Q.drop 358) (i := 256) (by rw [List.length_drop, hQl0]; decide)] at hqbody
  clear hp hTo hT hPK hk0 hab hup
  generalize pktC p = C at *
  generalize pktC T = CQ at *
  clear T p
  by_cases hy0 : y = 0
  · have hzx : z = x := by rw [hz0, hy0]; simp
    have hQP : PK.set k z = PK := by
      rw [hzx, ← hx0, List.getD_eq_getElem?_getD]
      apply List.ext_getElem?
      intro j
      rw [List.getElem?_set]
      split
      · rename_i e
        subst e
        rw [if_pos (by rw [hpl0.out]; exact hkl), List.getElem?_eq_getElem (by rw [hpl0.out]; exact hkl)]
        rfl
      · rfl
    have hy1 : ((y.toNat : Int) != 0) = false := by rw [hy0]; rfl
    rw [hQP] at hQe
    have hs1 : qw = wp := by rw [hqw, hwp, hQe]
    have hs2 : qe = ep := by rw [hqe, hep, hQe]
    have hs3 : qnonce = pnonce := by rw [hqnonce, hpnonce, hQe]
    have hs4 : qmac = pmac := by rw [hqmac, hpmac, hQe]
    have hs5 : qhead = phead := by rw [hqhead, hphead, hQe]
    have hs6 : qbody = pbody := by rw [hqbody, hpbody, hQe]
    have he_nonce : Hid (∀ w, (Op.equalIn 10000 28 (.agg (cellsB qnonce).toArray) (.agg (cellsB pnonce).toArray)).run Try.prog w = .ok true w) := fun w => by
      have h := eq_bytes 9998 underN _ _ hlq_nonce hlp_nonce w
      rw [show (qnonce == pnonce) = true by rw [hs3]; simp] at h
      exact h
    have he_mac : Hid (∀ w, (Op.equalIn 10000 29 (.agg (cellsB qmac).toArray) (.agg (cellsB pmac).toArray)).run Try.prog w = .ok true w) := fun w => by
      have h := eq_bytes 9998 underM _ _ hlq_mac hlp_mac w
      rw [show (qmac == pmac) = true by rw [hs4]; simp] at h
      exact h
    have he_head : Hid (∀ w, (Op.equalIn 10000 47 (.agg (cellsB qhead).toArray) (.agg (cellsB phead).toArray)).run Try.prog w = .ok true w) := fun w => by
      have h := eq_bytes 9998 under320 _ _ hlq_head hlp_head w
      rw [show (qhead == phead) = true by rw [hs5]; simp] at h
      exact h
    have he_body : Hid (∀ w, (Op.equalIn 10000 48 (.agg (cellsB qbody).toArray) (.agg (cellsB pbody).toArray)).run Try.prog w = .ok true w) := fun w => by
      have h := eq_bytes 9998 under256 _ _ hlq_body hlp_body w
      rw [show (qbody == pbody) = true by rw [hs6]; simp] at h
      exact h
    replace hq0 : Hid (CQ[0]? = some (.int .u16 (wp : Int))) := by rw [← hs1]; exact hq0.out
    replace hq1 : Hid (CQ[1]? = some (.int .u32 (ep : Int))) := by rw [← hs2]; exact hq1.out
    clear hs1 hs2 hs3 hs4 hs5 hs6 hqw hwp hqe hep hqnonce hpnonce hqmac hpmac hqhead hphead hqbody hpbody hQe hlq_nonce hlp_nonce hlq_mac hlp_mac hlq_head hlp_head hlq_body hlp_body hzx hQP hy0 hz0 hx0
    have H := hide (At.start w)
    go_enter Try.func8, Try.ntmps8
    simp only [List.append_eq, List.cons_append, List.nil_append]
    go_wp2_with (first
      | (with_reducible refine at_op (op := ⟨some 3, _, _, _, _, _⟩) ?_; (refine wpl_boxa (op := ⟨some 3, _, _, _, _, _⟩) rfl _ _ rfl (C) rfl ?_); intro g3 W1 hB1 hg1 hF1; replace H := hide (H.out.box hg1 hF1 hB1); clear hB1 hg1 hF1)
      | (go_at_call 12; with_reducible refine (hsh.out _).mono ?_; rintro e Wc ⟨rfl, hbc⟩; replace H := hide (H.out.call hbc); clear hbc)
      | (with_reducible refine at_op (op := ⟨some 13, _, _, _, _, _⟩) ?_; refine wpl_held (op := ⟨some 13, _, _, _, _, _⟩) (.agg (C).toArray) (held_loadf aggP _ rfl g3 rfl _ (C) (H.out.get 0 rfl) h610.out) rfl ?_)
      | (go_at_call 19; (with_reducible refine (hP.out _).mono ?_); rintro e Wc ⟨Ap, cp, rfl, hop, hbc⟩; rw [hpl.out] at hop ⊢; obtain ⟨gp, curp, rfl, hgp, hbp, hsp, htp, hcp⟩ := own_block hop (by decide); rw [← Array.toArray_toList (xs := curp)] at hbp; replace H := hide (H.out.box hgp (Frm.of_below hbc) hbp); have HTP : Hid ((curp.toList.drop 0).take 614 = cellsB PK) := (by show _ = _; rw [List.drop_zero]; exact htp); have HSP : Hid (614 ≤ curp.toList.length) := (by show _ ≤ _; rw [Array.length_toList]; exact hsp); have HCK : Hid (curp.toList[k]? = some (.int .u8 (x.toNat : Int))) := (by show _ = _; have h := take_at htp k hk6.out (by rw [hpl0.out]; exact hk6.out); rw [hx.out] at h; exact h); clear hbc hop hgp hbp htp hcp hsp)
      | (with_reducible refine at_op (op := ⟨some 27, _, _, _, _, _⟩) ?_; rw [hk.out])
      | (with_reducible refine at_op (op := ⟨some 28, _, _, _, _, _⟩) ?_; refine wpl_held (op := ⟨some 28, _, _, _, _, _⟩) (.int .u8 (x.toNat : Int)) (held_load1 Try.underlying5 rfl one8 _ rfl gp k rfl _ _ (.int .u8 (x.toNat : Int)) (H.out.get 1 rfl) HCK.out) rfl ?_)
      | (with_reducible refine at_op (op := ⟨none, .store _ (.tmp 31) _, _, _, _, _⟩) ?_; (refine wpl_store1 (op := ⟨none, _, _, _, _, _⟩) one8 rfl (.tmp 31) (.tmp 30) rfl gp k (.int .u8 (z.toNat : Int)) curp.toList (curp.toList.set k (.int .u8 (z.toNat : Int))) rfl rfl rfl _ (H.out.get 1 rfl) (by have := HSP.out; have := hk6.out; omega) rfl ?_); intro W1 hB1 hF1; replace H := hide (H.out.store 1 rfl hF1 hB1); clear hB1 hF1)
      | (go_at_call 20; (with_reducible refine (hU.out _ _ ((H.out.get 1 rfl).mid 0 614 Q (by rw [hQ.out]; exact take_set_cells HTP.out k z) hQl.out) cp).mono ?_); rintro e Wc ⟨rfl, hbc⟩; replace H := hide (H.out.call hbc); clear hbc)
      | ((with_reducible refine wpl_alloca (op := ⟨some 9, _, _, _, _, _⟩) rfl _ rfl _ zeroP ?_); intro g9 W1 hB1 hg1 hF1)
      | ((with_reducible refine wpl_storea aggP rfl (.tmp 9) (.tmp 35) rfl g9 (CQ) rfl rfl _ _ hB1 h610q.out pkt0_len (hQo.out) ?_); intro W2 hB2 hF2; replace H := hide (H.out.var hg1 hF1 hF2 hB2); clear hB1 hg1 hF1 hB2 hF2)
      | (with_reducible refine at_op (op := ⟨some 46, _, _, _, _, _⟩) ?_; refine wpl_held (op := ⟨some 46, _, _, _, _, _⟩) (.int .u16 (wp : Int)) (held_load1 Try.underlying25 rfl one16w _ rfl g9 0 rfl _ _ (.int .u16 (wp : Int)) (H.out.get 2 rfl) hq0.out) rfl ?_)
      | (with_reducible refine at_op (op := ⟨some 48, _, _, _, _, _⟩) ?_; refine wpl_held (op := ⟨some 48, _, _, _, _, _⟩) (.int .u16 (wp : Int)) (held_load1 Try.underlying25 rfl one16w _ rfl g3 0 rfl _ _ (.int .u16 (wp : Int)) (H.out.get 0 rfl) hp0.out) rfl ?_)
      | (with_reducible refine at_op (op := ⟨some 59, _, _, _, _, _⟩) ?_; refine wpl_held (op := ⟨some 59, _, _, _, _, _⟩) (.int .u32 (ep : Int)) (held_load1 Try.underlying26 rfl one32 _ rfl g9 1 rfl _ _ (.int .u32 (ep : Int)) (H.out.get 2 rfl) hq1.out) rfl ?_)
      | (with_reducible refine at_op (op := ⟨some 61, _, _, _, _, _⟩) ?_; refine wpl_held (op := ⟨some 61, _, _, _, _, _⟩) (.int .u32 (ep : Int)) (held_load1 Try.underlying26 rfl one32 _ rfl g3 1 rfl _ _ (.int .u32 (ep : Int)) (H.out.get 0 rfl) hp1.out) rfl ?_)
      | (with_reducible refine at_op (op := ⟨some 76, _, _, _, _, _⟩) ?_; refine wpl_held (op := ⟨some 76, _, _, _, _, _⟩) (.agg (cellsB qnonce).toArray) (held_loada aggN _ rfl g9 2 rfl _ (CQ) (cellsB qnonce) (H.out.get 2 rfl) hq_nonce.out (by rw [h610q.out]; decide)) rfl ?_)
      | (with_reducible refine at_op (op := ⟨some 78, _, _, _, _, _⟩) ?_; refine wpl_held (op := ⟨some 78, _, _, _, _, _⟩) (.agg (cellsB pnonce).toArray) (held_loada aggN _ rfl g3 2 rfl _ (C) (cellsB pnonce) (H.out.get 0 rfl) hp_nonce.out (by rw [h610.out]; decide)) rfl ?_)
      | (with_reducible refine at_op (op := ⟨some 79, _, _, _, _, _⟩) ?_; refine wpl_held (op := ⟨some 79, _, _, _, _, _⟩) (.bool (!true)) (held_neq _ _ _ _ rfl (cellsB qnonce) (cellsB pnonce) rfl rfl (true) (he_nonce.out _) Try.eqGuardType28) rfl ?_)
      | (with_reducible refine at_op (op := ⟨some 93, _, _, _, _, _⟩) ?_; refine wpl_held (op := ⟨some 93, _, _, _, _, _⟩) (.agg (cellsB qmac).toArray) (held_loada aggM _ rfl g9 18 rfl _ (CQ) (cellsB qmac) (H.out.get 2 rfl) hq_mac.out (by rw [h610q.out]; decide)) rfl ?_)
      | (with_reducible refine at_op (op := ⟨some 95, _, _, _, _, _⟩) ?_; refine wpl_held (op := ⟨some 95, _, _, _, _, _⟩) (.agg (cellsB pmac).toArray) (held_loada aggM _ rfl g3 18 rfl _ (C) (cellsB pmac) (H.out.get 0 rfl) hp_mac.out (by rw [h610.out]; decide)) rfl ?_)
      | (with_reducible refine at_op (op := ⟨some 96, _, _, _, _, _⟩) ?_; refine wpl_held (op := ⟨some 96, _, _, _, _, _⟩) (.bool (!true)) (held_neq _ _ _ _ rfl (cellsB qmac) (cellsB pmac) rfl rfl (true) (he_mac.out _) Try.eqGuardType29) rfl ?_)
      | (with_reducible refine at_op (op := ⟨some 110, _, _, _, _, _⟩) ?_; refine wpl_held (op := ⟨some 110, _, _, _, _, _⟩) (.agg (cellsB qhead).toArray) (held_loada agg320 _ rfl g9 34 rfl _ (CQ) (cellsB qhead) (H.out.get 2 rfl) hq_head.out (by rw [h610q.out]; decide)) rfl ?_)
      | (with_reducible refine at_op (op := ⟨some 112, _, _, _, _, _⟩) ?_; refine wpl_held (op := ⟨some 112, _, _, _, _, _⟩) (.agg (cellsB phead).toArray) (held_loada agg320 _ rfl g3 34 rfl _ (C) (cellsB phead) (H.out.get 0 rfl) hp_head.out (by rw [h610.out]; decide)) rfl ?_)
      | (with_reducible refine at_op (op := ⟨some 113, _, _, _, _, _⟩) ?_; refine wpl_held (op := ⟨some 113, _, _, _, _, _⟩) (.bool (!true)) (held_neq _ _ _ _ rfl (cellsB qhead) (cellsB phead) rfl rfl (true) (he_head.out _) Try.eqGuardType47) rfl ?_)
      | (with_reducible refine at_op (op := ⟨some 127, _, _, _, _, _⟩) ?_; refine wpl_held (op := ⟨some 127, _, _, _, _, _⟩) (.agg (cellsB qbody).toArray) (held_loada agg256 _ rfl g9 354 rfl _ (CQ) (cellsB qbody) (H.out.get 2 rfl) hq_body.out (by rw [h610q.out]; decide)) rfl ?_)
      | (with_reducible refine at_op (op := ⟨some 129, _, _, _, _, _⟩) ?_; refine wpl_held (op := ⟨some 129, _, _, _, _, _⟩) (.agg (cellsB pbody).toArray) (held_loada agg256 _ rfl g3 354 rfl _ (C) (cellsB pbody) (H.out.get 0 rfl) hp_body.out (by rw [h610.out]; decide)) rfl ?_)
      | (with_reducible refine at_op (op := ⟨some 130, _, _, _, _, _⟩) ?_; refine wpl_held (op := ⟨some 130, _, _, _, _, _⟩) (.bool (!true)) (held_neq _ _ _ _ rfl (cellsB qbody) (cellsB pbody) rfl rfl (true) (he_body.out _) Try.eqGuardType48) rfl ?_))
    go_ret
    exact ⟨rfl, H.out.bel⟩
  · have hzx : z ≠ PK.getD k 0 := by
      rw [hx0, hz0]
      intro h
      apply hy0
      have h2 : x ^^^ (x ^^^ y) = x ^^^ x := by rw [h]
      simpa [← UInt8.xor_assoc] using h2
    have hyn : ¬ y.toNat = 0 := by
      intro h
      apply hy0
      exact UInt8.toNat_inj.1 h
    have hy1 : ((y.toNat : Int) != 0) = true := by simp; omega
    have hy2 : ¬ (y.toNat : Int) = 0 := by omega
    clear hy0 hz0 hx0 hyn
    have hcase : k < 2 ∨ (2 ≤ k ∧ k < 6) ∨ (6 ≤ k ∧ k < 22) ∨ (22 ≤ k ∧ k < 38) ∨ (38 ≤ k ∧ k < 358) ∨ 358 ≤ k := by omega
    rcases hcase with hc | hc | hc | hc | hc | hc
    · have hd_who : qw ≠ wp := by
        intro h
        rw [hqw, hwp, hQe] at h
        have h2 := num_inj (by simp [hpl0.out]) h
        have h3 := (by have h := cut_diff PK k z 0 2 (by omega) (by omega) (by rw [hpl0.out]; omega) hzx; rwa [List.drop_zero, List.drop_zero] at h)
        rw [h2] at h3
        simp at h3
      have hn_who : ((qw : Int) == (wp : Int)) = false := by simp; omega
      have hn3_who : ((qw : Int) != (wp : Int)) = true := by simp; omega
      have hn2_who : ¬ (qw : Int) = (wp : Int) := by omega
      have hs_epoch : qe = ep := by rw [hqe, hep, hQe, show ((PK.set k z).drop 2).take 4 = (PK.drop 2).take 4 from (cut_same PK k z 2 4 (by omega))]
      subst hs_epoch
      have hb_nonce : (qnonce == pnonce) = true := by rw [hqnonce, hpnonce, hQe, cut_same PK k z 6 16 (by omega)]; simp
      have he_nonce : Hid (∀ w, (Op.equalIn 10000 28 (.agg (cellsB qnonce).toArray) (.agg (cellsB pnonce).toArray)).run Try.prog w = .ok true w) := fun w => by rw [← hb_nonce]; exact eq_bytes 9998 underN _ _ hlq_nonce hlp_nonce w
      have hb_mac : (qmac == pmac) = true := by rw [hqmac, hpmac, hQe, cut_same PK k z 22 16 (by omega)]; simp
      have he_mac : Hid (∀ w, (Op.equalIn 10000 29 (.agg (cellsB qmac).toArray) (.agg (cellsB pmac).toArray)).run Try.prog w = .ok true w) := fun w => by rw [← hb_mac]; exact eq_bytes 9998 underM _ _ hlq_mac hlp_mac w
      have hb_head : (qhead == phead) = true := by rw [hqhead, hphead, hQe, cut_same PK k z 38 320 (by omega)]; simp
      have he_head : Hid (∀ w, (Op.equalIn 10000 47 (.agg (cellsB qhead).toArray) (.agg (cellsB phead).toArray)).run Try.prog w = .ok true w) := fun w => by rw [← hb_head]; exact eq_bytes 9998 under320 _ _ hlq_head hlp_head w
      have hb_body : (qbody == pbody) = true := by rw [hqbody, hpbody, hQe, cut_same PK k z 358 256 (by omega)]; simp
      have he_body : Hid (∀ w, (Op.equalIn 10000 48 (.agg (cellsB qbody).toArray) (.agg (cellsB pbody).toArray)).run Try.prog w = .ok true w) := fun w => by rw [← hb_body]; exact eq_bytes 9998 under256 _ _ hlq_body hlp_body w
      clear hb_nonce hb_mac hb_head hb_body
      clear hqw hwp hqe hep hqnonce hpnonce hqmac hpmac hqhead hphead hqbody hpbody hQe hlq_nonce hlp_nonce hlq_mac hlp_mac hlq_head hlp_head hlq_body hlp_body hzx
      have hlt2 : decide (k < 2) = true := decide_eq_true (by omega)
      have hge2 : decide (2 ≤ k) = false := decide_eq_false (by omega)
      have hlz2 : decide ((k : Int) < 2) = true := decide_eq_true (by omega)
      have hgz2 : decide ((2 : Int) ≤ (k : Int)) = false := decide_eq_false (by omega)
      have hli2 : (k : Int) < 2 := by omega
      have hgi2 : ¬ (2 : Int) ≤ (k : Int) := by omega
      have hlt6 : decide (k < 6) = true := decide_eq_true (by omega)
      have hge6 : decide (6 ≤ k) = false := decide_eq_false (by omega)
      have hlz6 : decide ((k : Int) < 6) = true := decide_eq_true (by omega)
      have hgz6 : decide ((6 : Int) ≤ (k : Int)) = false := decide_eq_false (by omega)
      have hli6 : (k : Int) < 6 := by omega
      have hgi6 : ¬ (6 : Int) ≤ (k : Int) := by omega
      have hlt22 : decide (k < 22) = true := decide_eq_true (by omega)
      have hge22 : decide (22 ≤ k) = false := decide_eq_false (by omega)
      have hlz22 : decide ((k : Int) < 22) = true := decide_eq_true (by omega)
      have hgz22 : decide ((22 : Int) ≤ (k : Int)) = false := decide_eq_false (by omega)
      have hli22 : (k : Int) < 22 := by omega
      have hgi22 : ¬ (22 : Int) ≤ (k : Int) := by omega
      have hlt38 : decide (k < 38) = true := decide_eq_true (by omega)
      have hge38 : decide (38 ≤ k) = false := decide_eq_false (by omega)
      have hlz38 : decide ((k : Int) < 38) = true := decide_eq_true (by omega)
      have hgz38 : decide ((38 : Int) ≤ (k : Int)) = false := decide_eq_false (by omega)
      have hli38 : (k : Int) < 38 := by omega
      have hgi38 : ¬ (38 : Int) ≤ (k : Int) := by omega
      have hlt358 : decide (k < 358) = true := decide_eq_true (by omega)
      have hge358 : decide (358 ≤ k) = false := decide_eq_false (by omega)
      have hlz358 : decide ((k : Int) < 358) = true := decide_eq_true (by omega)
      have hgz358 : decide ((358 : Int) ≤ (k : Int)) = false := decide_eq_false (by omega)
      have hli358 : (k : Int) < 358 := by omega
      have hgi358 : ¬ (358 : Int) ≤ (k : Int) := by omega
      have H := hide (At.start w)
      go_enter Try.func8, Try.ntmps8
      simp only [List.append_eq, List.cons_append, List.nil_append]
      go_wp2_with (first
        | (with_reducible refine at_op (op := ⟨some 3, _, _, _, _, _⟩) ?_; (refine wpl_boxa (op := ⟨some 3, _, _, _, _, _⟩) rfl _ _ rfl (C) rfl ?_); intro g3 W1 hB1 hg1 hF1; replace H := hide (H.out.box hg1 hF1 hB1); clear hB1 hg1 hF1)
        | (go_at_call 12; with_reducible refine (hsh.out _).mono ?_; rintro e Wc ⟨rfl, hbc⟩; replace H := hide (H.out.call hbc); clear hbc)
        | (with_reducible refine at_op (op := ⟨some 13, _, _, _, _, _⟩) ?_; refine wpl_held (op := ⟨some 13, _, _, _, _, _⟩) (.agg (C).toArray) (held_loadf aggP _ rfl g3 rfl _ (C) (H.out.get 0 rfl) h610.out) rfl ?_)
        | (go_at_call 19; (with_reducible refine (hP.out _).mono ?_); rintro e Wc ⟨Ap, cp, rfl, hop, hbc⟩; rw [hpl.out] at hop ⊢; obtain ⟨gp, curp, rfl, hgp, hbp, hsp, htp, hcp⟩ := own_block hop (by decide); rw [← Array.toArray_toList (xs := curp)] at hbp; replace H := hide (H.out.box hgp (Frm.of_below hbc) hbp); have HTP : Hid ((curp.toList.drop 0).take 614 = cellsB PK) := (by show _ = _; rw [List.drop_zero]; exact htp); have HSP : Hid (614 ≤ curp.toList.length) := (by show _ ≤ _; rw [Array.length_toList]; exact hsp); have HCK : Hid (curp.toList[k]? = some (.int .u8 (x.toNat : Int))) := (by show _ = _; have h := take_at htp k hk6.out (by rw [hpl0.out]; exact hk6.out); rw [hx.out] at h; exact h); clear hbc hop hgp hbp htp hcp hsp)
        | (with_reducible refine at_op (op := ⟨some 27, _, _, _, _, _⟩) ?_; rw [hk.out])
        | (with_reducible refine at_op (op := ⟨some 28, _, _, _, _, _⟩) ?_; refine wpl_held (op := ⟨some 28, _, _, _, _, _⟩) (.int .u8 (x.toNat : Int)) (held_load1 Try.underlying5 rfl one8 _ rfl gp k rfl _ _ (.int .u8 (x.toNat : Int)) (H.out.get 1 rfl) HCK.out) rfl ?_)
        | (with_reducible refine at_op (op := ⟨none, .store _ (.tmp 31) _, _, _, _, _⟩) ?_; (refine wpl_store1 (op := ⟨none, _, _, _, _, _⟩) one8 rfl (.tmp 31) (.tmp 30) rfl gp k (.int .u8 (z.toNat : Int)) curp.toList (curp.toList.set k (.int .u8 (z.toNat : Int))) rfl rfl rfl _ (H.out.get 1 rfl) (by have := HSP.out; have := hk6.out; omega) rfl ?_); intro W1 hB1 hF1; replace H := hide (H.out.store 1 rfl hF1 hB1); clear hB1 hF1)
        | (go_at_call 20; (with_reducible refine (hU.out _ _ ((H.out.get 1 rfl).mid 0 614 Q (by rw [hQ.out]; exact take_set_cells HTP.out k z) hQl.out) cp).mono ?_); rintro e Wc ⟨rfl, hbc⟩; replace H := hide (H.out.call hbc); clear hbc)
        | ((with_reducible refine wpl_alloca (op := ⟨some 9, _, _, _, _, _⟩) rfl _ rfl _ zeroP ?_); intro g9 W1 hB1 hg1 hF1)
        | ((with_reducible refine wpl_storea aggP rfl (.tmp 9) (.tmp 35) rfl g9 (CQ) rfl rfl _ _ hB1 h610q.out pkt0_len (hQo.out) ?_); intro W2 hB2 hF2; replace H := hide (H.out.var hg1 hF1 hF2 hB2); clear hB1 hg1 hF1 hB2 hF2)
        | (with_reducible refine at_op (op := ⟨some 46, _, _, _, _, _⟩) ?_; refine wpl_held (op := ⟨some 46, _, _, _, _, _⟩) (.int .u16 (qw : Int)) (held_load1 Try.underlying25 rfl one16w _ rfl g9 0 rfl _ _ (.int .u16 (qw : Int)) (H.out.get 2 rfl) hq0.out) rfl ?_)
        | (with_reducible refine at_op (op := ⟨some 48, _, _, _, _, _⟩) ?_; refine wpl_held (op := ⟨some 48, _, _, _, _, _⟩) (.int .u16 (wp : Int)) (held_load1 Try.underlying25 rfl one16w _ rfl g3 0 rfl _ _ (.int .u16 (wp : Int)) (H.out.get 0 rfl) hp0.out) rfl ?_)
        | (with_reducible refine at_op (op := ⟨some 59, _, _, _, _, _⟩) ?_; refine wpl_held (op := ⟨some 59, _, _, _, _, _⟩) (.int .u32 (qe : Int)) (held_load1 Try.underlying26 rfl one32 _ rfl g9 1 rfl _ _ (.int .u32 (qe : Int)) (H.out.get 2 rfl) hq1.out) rfl ?_)
        | (with_reducible refine at_op (op := ⟨some 61, _, _, _, _, _⟩) ?_; refine wpl_held (op := ⟨some 61, _, _, _, _, _⟩) (.int .u32 (qe : Int)) (held_load1 Try.underlying26 rfl one32 _ rfl g3 1 rfl _ _ (.int .u32 (qe : Int)) (H.out.get 0 rfl) hp1.out) rfl ?_)
        | (with_reducible refine at_op (op := ⟨some 76, _, _, _, _, _⟩) ?_; refine wpl_held (op := ⟨some 76, _, _, _, _, _⟩) (.agg (cellsB qnonce).toArray) (held_loada aggN _ rfl g9 2 rfl _ (CQ) (cellsB qnonce) (H.out.get 2 rfl) hq_nonce.out (by rw [h610q.out]; decide)) rfl ?_)
        | (with_reducible refine at_op (op := ⟨some 78, _, _, _, _, _⟩) ?_; refine wpl_held (op := ⟨some 78, _, _, _, _, _⟩) (.agg (cellsB pnonce).toArray) (held_loada aggN _ rfl g3 2 rfl _ (C) (cellsB pnonce) (H.out.get 0 rfl) hp_nonce.out (by rw [h610.out]; decide)) rfl ?_)
        | (with_reducible refine at_op (op := ⟨some 79, _, _, _, _, _⟩) ?_; refine wpl_held (op := ⟨some 79, _, _, _, _, _⟩) (.bool (!true)) (held_neq _ _ _ _ rfl (cellsB qnonce) (cellsB pnonce) rfl rfl (true) (he_nonce.out _) Try.eqGuardType28) rfl ?_)
        | (with_reducible refine at_op (op := ⟨some 93, _, _, _, _, _⟩) ?_; refine wpl_held (op := ⟨some 93, _, _, _, _, _⟩) (.agg (cellsB qmac).toArray) (held_loada aggM _ rfl g9 18 rfl _ (CQ) (cellsB qmac) (H.out.get 2 rfl) hq_mac.out (by rw [h610q.out]; decide)) rfl ?_)
        | (with_reducible refine at_op (op := ⟨some 95, _, _, _, _, _⟩) ?_; refine wpl_held (op := ⟨some 95, _, _, _, _, _⟩) (.agg (cellsB pmac).toArray) (held_loada aggM _ rfl g3 18 rfl _ (C) (cellsB pmac) (H.out.get 0 rfl) hp_mac.out (by rw [h610.out]; decide)) rfl ?_)
        | (with_reducible refine at_op (op := ⟨some 96, _, _, _, _, _⟩) ?_; refine wpl_held (op := ⟨some 96, _, _, _, _, _⟩) (.bool (!true)) (held_neq _ _ _ _ rfl (cellsB qmac) (cellsB pmac) rfl rfl (true) (he_mac.out _) Try.eqGuardType29) rfl ?_)
        | (with_reducible refine at_op (op := ⟨some 110, _, _, _, _, _⟩) ?_; refine wpl_held (op := ⟨some 110, _, _, _, _, _⟩) (.agg (cellsB qhead).toArray) (held_loada agg320 _ rfl g9 34 rfl _ (CQ) (cellsB qhead) (H.out.get 2 rfl) hq_head.out (by rw [h610q.out]; decide)) rfl ?_)
        | (with_reducible refine at_op (op := ⟨some 112, _, _, _, _, _⟩) ?_; refine wpl_held (op := ⟨some 112, _, _, _, _, _⟩) (.agg (cellsB phead).toArray) (held_loada agg320 _ rfl g3 34 rfl _ (C) (cellsB phead) (H.out.get 0 rfl) hp_head.out (by rw [h610.out]; decide)) rfl ?_)
        | (with_reducible refine at_op (op := ⟨some 113, _, _, _, _, _⟩) ?_; refine wpl_held (op := ⟨some 113, _, _, _, _, _⟩) (.bool (!true)) (held_neq _ _ _ _ rfl (cellsB qhead) (cellsB phead) rfl rfl (true) (he_head.out _) Try.eqGuardType47) rfl ?_)
        | (with_reducible refine at_op (op := ⟨some 127, _, _, _, _, _⟩) ?_; refine wpl_held (op := ⟨some 127, _, _, _, _, _⟩) (.agg (cellsB qbody).toArray) (held_loada agg256 _ rfl g9 354 rfl _ (CQ) (cellsB qbody) (H.out.get 2 rfl) hq_body.out (by rw [h610q.out]; decide)) rfl ?_)
        | (with_reducible refine at_op (op := ⟨some 129, _, _, _, _, _⟩) ?_; refine wpl_held (op := ⟨some 129, _, _, _, _, _⟩) (.agg (cellsB pbody).toArray) (held_loada agg256 _ rfl g3 354 rfl _ (C) (cellsB pbody) (H.out.get 0 rfl) hp_body.out (by rw [h610.out]; decide)) rfl ?_)
        | (with_reducible refine at_op (op := ⟨some 130, _, _, _, _, _⟩) ?_; refine wpl_held (op := ⟨some 130, _, _, _, _, _⟩) (.bool (!true)) (held_neq _ _ _ _ rfl (cellsB qbody) (cellsB pbody) rfl rfl (true) (he_body.out _) Try.eqGuardType48) rfl ?_))
      go_ret
      exact ⟨rfl, H.out.bel⟩
    · have hs_who : qw = wp := by rw [hqw, hwp, hQe, show (PK.set k z).take 2 = PK.take 2 from (by have h := cut_same PK k z 0 2 (by omega); rwa [List.drop_zero, List.drop_zero] at h)]
      subst hs_who
      have hd_epoch : qe ≠ ep := by
        intro h
        rw [hqe, hep, hQe] at h
        have h2 := num_inj (by simp [hpl0.out]) h
        have h3 := (cut_diff PK k z 2 4 (by omega) (by omega) (by rw [hpl0.out]; omega) hzx)
        rw [h2] at h3
        simp at h3
      have hn_epoch : ((qe : Int) == (ep : Int)) = false := by simp; omega
      have hn3_epoch : ((qe : Int) != (ep : Int)) = true := by simp; omega
      have hn2_epoch : ¬ (qe : Int) = (ep : Int) := by omega
      have hb_nonce : (qnonce == pnonce) = true := by rw [hqnonce, hpnonce, hQe, cut_same PK k z 6 16 (by omega)]; simp
      have he_nonce : Hid (∀ w, (Op.equalIn 10000 28 (.agg (cellsB qnonce).toArray) (.agg (cellsB pnonce).toArray)).run Try.prog w = .ok true w) := fun w => by rw [← hb_nonce]; exact eq_bytes 9998 underN _ _ hlq_nonce hlp_nonce w
      have hb_mac : (qmac == pmac) = true := by rw [hqmac, hpmac, hQe, cut_same PK k z 22 16 (by omega)]; simp
      have he_mac : Hid (∀ w, (Op.equalIn 10000 29 (.agg (cellsB qmac).toArray) (.agg (cellsB pmac).toArray)).run Try.prog w = .ok true w) := fun w => by rw [← hb_mac]; exact eq_bytes 9998 underM _ _ hlq_mac hlp_mac w
      have hb_head : (qhead == phead) = true := by rw [hqhead, hphead, hQe, cut_same PK k z 38 320 (by omega)]; simp
      have he_head : Hid (∀ w, (Op.equalIn 10000 47 (.agg (cellsB qhead).toArray) (.agg (cellsB phead).toArray)).run Try.prog w = .ok true w) := fun w => by rw [← hb_head]; exact eq_bytes 9998 under320 _ _ hlq_head hlp_head w
      have hb_body : (qbody == pbody) = true := by rw [hqbody, hpbody, hQe, cut_same PK k z 358 256 (by omega)]; simp
      have he_body : Hid (∀ w, (Op.equalIn 10000 48 (.agg (cellsB qbody).toArray) (.agg (cellsB pbody).toArray)).run Try.prog w = .ok true w) := fun w => by rw [← hb_body]; exact eq_bytes 9998 under256 _ _ hlq_body hlp_body w
      clear hb_nonce hb_mac hb_head hb_body
      clear hqw hwp hqe hep hqnonce hpnonce hqmac hpmac hqhead hphead hqbody hpbody hQe hlq_nonce hlp_nonce hlq_mac hlp_mac hlq_head hlp_head hlq_body hlp_body hzx
      have hlt2 : decide (k < 2) = false := decide_eq_false (by omega)
      have hge2 : decide (2 ≤ k) = true := decide_eq_true (by omega)
      have hlz2 : decide ((k : Int) < 2) = false := decide_eq_false (by omega)
      have hgz2 : decide ((2 : Int) ≤ (k : Int)) = true := decide_eq_true (by omega)
      have hli2 : ¬ (k : Int) < 2 := by omega
      have hgi2 : (2 : Int) ≤ (k : Int) := by omega
      have hlt6 : decide (k < 6) = true := decide_eq_true (by omega)
      have hge6 : decide (6 ≤ k) = false := decide_eq_false (by omega)
      have hlz6 : decide ((k : Int) < 6) = true := decide_eq_true (by omega)
      have hgz6 : decide ((6 : Int) ≤ (k : Int)) = false := decide_eq_false (by omega)
      have hli6 : (k : Int) < 6 := by omega
      have hgi6 : ¬ (6 : Int) ≤ (k : Int) := by omega
      have hlt22 : decide (k < 22) = true := decide_eq_true (by omega)
      have hge22 : decide (22 ≤ k) = false := decide_eq_false (by omega)
      have hlz22 : decide ((k : Int) < 22) = true := decide_eq_true (by omega)
      have hgz22 : decide ((22 : Int) ≤ (k : Int)) = false := decide_eq_false (by omega)
      have hli22 : (k : Int) < 22 := by omega
      have hgi22 : ¬ (22 : Int) ≤ (k : Int) := by omega
      have hlt38 : decide (k < 38) = true := decide_eq_true (by omega)
      have hge38 : decide (38 ≤ k) = false := decide_eq_false (by omega)
      have hlz38 : decide ((k : Int) < 38) = true := decide_eq_true (by omega)
      have hgz38 : decide ((38 : Int) ≤ (k : Int)) = false := decide_eq_false (by omega)
      have hli38 : (k : Int) < 38 := by omega
      have hgi38 : ¬ (38 : Int) ≤ (k : Int) := by omega
      have hlt358 : decide (k < 358) = true := decide_eq_true (by omega)
      have hge358 : decide (358 ≤ k) = false := decide_eq_false (by omega)
      have hlz358 : decide ((k : Int) < 358) = true := decide_eq_true (by omega)
      have hgz358 : decide ((358 : Int) ≤ (k : Int)) = false := decide_eq_false (by omega)
      have hli358 : (k : Int) < 358 := by omega
      have hgi358 : ¬ (358 : Int) ≤ (k : Int) := by omega
      have H := hide (At.start w)
      go_enter Try.func8, Try.ntmps8
      simp only [List.append_eq, List.cons_append, List.nil_append]
      go_wp2_with (first
        | (with_reducible refine at_op (op := ⟨some 3, _, _, _, _, _⟩) ?_; (refine wpl_boxa (op := ⟨some 3, _, _, _, _, _⟩) rfl _ _ rfl (C) rfl ?_); intro g3 W1 hB1 hg1 hF1; replace H := hide (H.out.box hg1 hF1 hB1); clear hB1 hg1 hF1)
        | (go_at_call 12; with_reducible refine (hsh.out _).mono ?_; rintro e Wc ⟨rfl, hbc⟩; replace H := hide (H.out.call hbc); clear hbc)
        | (with_reducible refine at_op (op := ⟨some 13, _, _, _, _, _⟩) ?_; refine wpl_held (op := ⟨some 13, _, _, _, _, _⟩) (.agg (C).toArray) (held_loadf aggP _ rfl g3 rfl _ (C) (H.out.get 0 rfl) h610.out) rfl ?_)
        | (go_at_call 19; (with_reducible refine (hP.out _).mono ?_); rintro e Wc ⟨Ap, cp, rfl, hop, hbc⟩; rw [hpl.out] at hop ⊢; obtain ⟨gp, curp, rfl, hgp, hbp, hsp, htp, hcp⟩ := own_block hop (by decide); rw [← Array.toArray_toList (xs := curp)] at hbp; replace H := hide (H.out.box hgp (Frm.of_below hbc) hbp); have HTP : Hid ((curp.toList.drop 0).take 614 = cellsB PK) := (by show _ = _; rw [List.drop_zero]; exact htp); have HSP : Hid (614 ≤ curp.toList.length) := (by show _ ≤ _; rw [Array.length_toList]; exact hsp); have HCK : Hid (curp.toList[k]? = some (.int .u8 (x.toNat : Int))) := (by show _ = _; have h := take_at htp k hk6.out (by rw [hpl0.out]; exact hk6.out); rw [hx.out] at h; exact h); clear hbc hop hgp hbp htp hcp hsp)
        | (with_reducible refine at_op (op := ⟨some 27, _, _, _, _, _⟩) ?_; rw [hk.out])
        | (with_reducible refine at_op (op := ⟨some 28, _, _, _, _, _⟩) ?_; refine wpl_held (op := ⟨some 28, _, _, _, _, _⟩) (.int .u8 (x.toNat : Int)) (held_load1 Try.underlying5 rfl one8 _ rfl gp k rfl _ _ (.int .u8 (x.toNat : Int)) (H.out.get 1 rfl) HCK.out) rfl ?_)
        | (with_reducible refine at_op (op := ⟨none, .store _ (.tmp 31) _, _, _, _, _⟩) ?_; (refine wpl_store1 (op := ⟨none, _, _, _, _, _⟩) one8 rfl (.tmp 31) (.tmp 30) rfl gp k (.int .u8 (z.toNat : Int)) curp.toList (curp.toList.set k (.int .u8 (z.toNat : Int))) rfl rfl rfl _ (H.out.get 1 rfl) (by have := HSP.out; have := hk6.out; omega) rfl ?_); intro W1 hB1 hF1; replace H := hide (H.out.store 1 rfl hF1 hB1); clear hB1 hF1)
        | (go_at_call 20; (with_reducible refine (hU.out _ _ ((H.out.get 1 rfl).mid 0 614 Q (by rw [hQ.out]; exact take_set_cells HTP.out k z) hQl.out) cp).mono ?_); rintro e Wc ⟨rfl, hbc⟩; replace H := hide (H.out.call hbc); clear hbc)
        | ((with_reducible refine wpl_alloca (op := ⟨some 9, _, _, _, _, _⟩) rfl _ rfl _ zeroP ?_); intro g9 W1 hB1 hg1 hF1)
        | ((with_reducible refine wpl_storea aggP rfl (.tmp 9) (.tmp 35) rfl g9 (CQ) rfl rfl _ _ hB1 h610q.out pkt0_len (hQo.out) ?_); intro W2 hB2 hF2; replace H := hide (H.out.var hg1 hF1 hF2 hB2); clear hB1 hg1 hF1 hB2 hF2)
        | (with_reducible refine at_op (op := ⟨some 46, _, _, _, _, _⟩) ?_; refine wpl_held (op := ⟨some 46, _, _, _, _, _⟩) (.int .u16 (qw : Int)) (held_load1 Try.underlying25 rfl one16w _ rfl g9 0 rfl _ _ (.int .u16 (qw : Int)) (H.out.get 2 rfl) hq0.out) rfl ?_)
        | (with_reducible refine at_op (op := ⟨some 48, _, _, _, _, _⟩) ?_; refine wpl_held (op := ⟨some 48, _, _, _, _, _⟩) (.int .u16 (qw : Int)) (held_load1 Try.underlying25 rfl one16w _ rfl g3 0 rfl _ _ (.int .u16 (qw : Int)) (H.out.get 0 rfl) hp0.out) rfl ?_)
        | (with_reducible refine at_op (op := ⟨some 59, _, _, _, _, _⟩) ?_; refine wpl_held (op := ⟨some 59, _, _, _, _, _⟩) (.int .u32 (qe : Int)) (held_load1 Try.underlying26 rfl one32 _ rfl g9 1 rfl _ _ (.int .u32 (qe : Int)) (H.out.get 2 rfl) hq1.out) rfl ?_)
        | (with_reducible refine at_op (op := ⟨some 61, _, _, _, _, _⟩) ?_; refine wpl_held (op := ⟨some 61, _, _, _, _, _⟩) (.int .u32 (ep : Int)) (held_load1 Try.underlying26 rfl one32 _ rfl g3 1 rfl _ _ (.int .u32 (ep : Int)) (H.out.get 0 rfl) hp1.out) rfl ?_)
        | (with_reducible refine at_op (op := ⟨some 76, _, _, _, _, _⟩) ?_; refine wpl_held (op := ⟨some 76, _, _, _, _, _⟩) (.agg (cellsB qnonce).toArray) (held_loada aggN _ rfl g9 2 rfl _ (CQ) (cellsB qnonce) (H.out.get 2 rfl) hq_nonce.out (by rw [h610q.out]; decide)) rfl ?_)
        | (with_reducible refine at_op (op := ⟨some 78, _, _, _, _, _⟩) ?_; refine wpl_held (op := ⟨some 78, _, _, _, _, _⟩) (.agg (cellsB pnonce).toArray) (held_loada aggN _ rfl g3 2 rfl _ (C) (cellsB pnonce) (H.out.get 0 rfl) hp_nonce.out (by rw [h610.out]; decide)) rfl ?_)
        | (with_reducible refine at_op (op := ⟨some 79, _, _, _, _, _⟩) ?_; refine wpl_held (op := ⟨some 79, _, _, _, _, _⟩) (.bool (!true)) (held_neq _ _ _ _ rfl (cellsB qnonce) (cellsB pnonce) rfl rfl (true) (he_nonce.out _) Try.eqGuardType28) rfl ?_)
        | (with_reducible refine at_op (op := ⟨some 93, _, _, _, _, _⟩) ?_; refine wpl_held (op := ⟨some 93, _, _, _, _, _⟩) (.agg (cellsB qmac).toArray) (held_loada aggM _ rfl g9 18 rfl _ (CQ) (cellsB qmac) (H.out.get 2 rfl) hq_mac.out (by rw [h610q.out]; decide)) rfl ?_)
        | (with_reducible refine at_op (op := ⟨some 95, _, _, _, _, _⟩) ?_; refine wpl_held (op := ⟨some 95, _, _, _, _, _⟩) (.agg (cellsB pmac).toArray) (held_loada aggM _ rfl g3 18 rfl _ (C) (cellsB pmac) (H.out.get 0 rfl) hp_mac.out (by rw [h610.out]; decide)) rfl ?_)
        | (with_reducible refine at_op (op := ⟨some 96, _, _, _, _, _⟩) ?_; refine wpl_held (op := ⟨some 96, _, _, _, _, _⟩) (.bool (!true)) (held_neq _ _ _ _ rfl (cellsB qmac) (cellsB pmac) rfl rfl (true) (he_mac.out _) Try.eqGuardType29) rfl ?_)
        | (with_reducible refine at_op (op := ⟨some 110, _, _, _, _, _⟩) ?_; refine wpl_held (op := ⟨some 110, _, _, _, _, _⟩) (.agg (cellsB qhead).toArray) (held_loada agg320 _ rfl g9 34 rfl _ (CQ) (cellsB qhead) (H.out.get 2 rfl) hq_head.out (by rw [h610q.out]; decide)) rfl ?_)
        | (with_reducible refine at_op (op := ⟨some 112, _, _, _, _, _⟩) ?_; refine wpl_held (op := ⟨some 112, _, _, _, _, _⟩) (.agg (cellsB phead).toArray) (held_loada agg320 _ rfl g3 34 rfl _ (C) (cellsB phead) (H.out.get 0 rfl) hp_head.out (by rw [h610.out]; decide)) rfl ?_)
        | (with_reducible refine at_op (op := ⟨some 113, _, _, _, _, _⟩) ?_; refine wpl_held (op := ⟨some 113, _, _, _, _, _⟩) (.bool (!true)) (held_neq _ _ _ _ rfl (cellsB qhead) (cellsB phead) rfl rfl (true) (he_head.out _) Try.eqGuardType47) rfl ?_)
        | (with_reducible refine at_op (op := ⟨some 127, _, _, _, _, _⟩) ?_; refine wpl_held (op := ⟨some 127, _, _, _, _, _⟩) (.agg (cellsB qbody).toArray) (held_loada agg256 _ rfl g9 354 rfl _ (CQ) (cellsB qbody) (H.out.get 2 rfl) hq_body.out (by rw [h610q.out]; decide)) rfl ?_)
        | (with_reducible refine at_op (op := ⟨some 129, _, _, _, _, _⟩) ?_; refine wpl_held (op := ⟨some 129, _, _, _, _, _⟩) (.agg (cellsB pbody).toArray) (held_loada agg256 _ rfl g3 354 rfl _ (C) (cellsB pbody) (H.out.get 0 rfl) hp_body.out (by rw [h610.out]; decide)) rfl ?_)
        | (with_reducible refine at_op (op := ⟨some 130, _, _, _, _, _⟩) ?_; refine wpl_held (op := ⟨some 130, _, _, _, _, _⟩) (.bool (!true)) (held_neq _ _ _ _ rfl (cellsB qbody) (cellsB pbody) rfl rfl (true) (he_body.out _) Try.eqGuardType48) rfl ?_))
      go_ret
      exact ⟨rfl, H.out.bel⟩
    · have hs_who : qw = wp := by rw [hqw, hwp, hQe, show (PK.set k z).take 2 = PK.take 2 from (by have h := cut_same PK k z 0 2 (by omega); rwa [List.drop_zero, List.drop_zero] at h)]
      subst hs_who
      have hs_epoch : qe = ep := by rw [hqe, hep, hQe, show ((PK.set k z).drop 2).take 4 = (PK.drop 2).take 4 from (cut_same PK k z 2 4 (by omega))]
      subst hs_epoch
      have hb_nonce : (qnonce == pnonce) = false := by rw [hqnonce, hpnonce, hQe]; exact cut_diff PK k z 6 16 (by omega) (by omega) (by rw [hpl0.out]; omega) hzx
      have he_nonce : Hid (∀ w, (Op.equalIn 10000 28 (.agg (cellsB qnonce).toArray) (.agg (cellsB pnonce).toArray)).run Try.prog w = .ok false w) := fun w => by rw [← hb_nonce]; exact eq_bytes 9998 underN _ _ hlq_nonce hlp_nonce w
      have hb_mac : (qmac == pmac) = true := by rw [hqmac, hpmac, hQe, cut_same PK k z 22 16 (by omega)]; simp
      have he_mac : Hid (∀ w, (Op.equalIn 10000 29 (.agg (cellsB qmac).toArray) (.agg (cellsB pmac).toArray)).run Try.prog w = .ok true w) := fun w => by rw [← hb_mac]; exact eq_bytes 9998 underM _ _ hlq_mac hlp_mac w
      have hb_head : (qhead == phead) = true := by rw [hqhead, hphead, hQe, cut_same PK k z 38 320 (by omega)]; simp
      have he_head : Hid (∀ w, (Op.equalIn 10000 47 (.agg (cellsB qhead).toArray) (.agg (cellsB phead).toArray)).run Try.prog w = .ok true w) := fun w => by rw [← hb_head]; exact eq_bytes 9998 under320 _ _ hlq_head hlp_head w
      have hb_body : (qbody == pbody) = true := by rw [hqbody, hpbody, hQe, cut_same PK k z 358 256 (by omega)]; simp
      have he_body : Hid (∀ w, (Op.equalIn 10000 48 (.agg (cellsB qbody).toArray) (.agg (cellsB pbody).toArray)).run Try.prog w = .ok true w) := fun w => by rw [← hb_body]; exact eq_bytes 9998 under256 _ _ hlq_body hlp_body w
      clear hb_nonce hb_mac hb_head hb_body
      clear hqw hwp hqe hep hqnonce hpnonce hqmac hpmac hqhead hphead hqbody hpbody hQe hlq_nonce hlp_nonce hlq_mac hlp_mac hlq_head hlp_head hlq_body hlp_body hzx
      have hlt2 : decide (k < 2) = false := decide_eq_false (by omega)
      have hge2 : decide (2 ≤ k) = true := decide_eq_true (by omega)
      have hlz2 : decide ((k : Int) < 2) = false := decide_eq_false (by omega)
      have hgz2 : decide ((2 : Int) ≤ (k : Int)) = true := decide_eq_true (by omega)
      have hli2 : ¬ (k : Int) < 2 := by omega
      have hgi2 : (2 : Int) ≤ (k : Int) := by omega
      have hlt6 : decide (k < 6) = false := decide_eq_false (by omega)
      have hge6 : decide (6 ≤ k) = true := decide_eq_true (by omega)
      have hlz6 : decide ((k : Int) < 6) = false := decide_eq_false (by omega)
      have hgz6 : decide ((6 : Int) ≤ (k : Int)) = true := decide_eq_true (by omega)
      have hli6 : ¬ (k : Int) < 6 := by omega
      have hgi6 : (6 : Int) ≤ (k : Int) := by omega
      have hlt22 : decide (k < 22) = true := decide_eq_true (by omega)
      have hge22 : decide (22 ≤ k) = false := decide_eq_false (by omega)
      have hlz22 : decide ((k : Int) < 22) = true := decide_eq_true (by omega)
      have hgz22 : decide ((22 : Int) ≤ (k : Int)) = false := decide_eq_false (by omega)
      have hli22 : (k : Int) < 22 := by omega
      have hgi22 : ¬ (22 : Int) ≤ (k : Int) := by omega
      have hlt38 : decide (k < 38) = true := decide_eq_true (by omega)
      have hge38 : decide (38 ≤ k) = false := decide_eq_false (by omega)
      have hlz38 : decide ((k : Int) < 38) = true := decide_eq_true (by omega)
      have hgz38 : decide ((38 : Int) ≤ (k : Int)) = false := decide_eq_false (by omega)
      have hli38 : (k : Int) < 38 := by omega
      have hgi38 : ¬ (38 : Int) ≤ (k : Int) := by omega
      have hlt358 : decide (k < 358) = true := decide_eq_true (by omega)
      have hge358 : decide (358 ≤ k) = false := decide_eq_false (by omega)
      have hlz358 : decide ((k : Int) < 358) = true := decide_eq_true (by omega)
      have hgz358 : decide ((358 : Int) ≤ (k : Int)) = false := decide_eq_false (by omega)
      have hli358 : (k : Int) < 358 := by omega
      have hgi358 : ¬ (358 : Int) ≤ (k : Int) := by omega
      have H := hide (At.start w)
      go_enter Try.func8, Try.ntmps8
      simp only [List.append_eq, List.cons_append, List.nil_append]
      go_wp2_with (first
        | (with_reducible refine at_op (op := ⟨some 3, _, _, _, _, _⟩) ?_; (refine wpl_boxa (op := ⟨some 3, _, _, _, _, _⟩) rfl _ _ rfl (C) rfl ?_); intro g3 W1 hB1 hg1 hF1; replace H := hide (H.out.box hg1 hF1 hB1); clear hB1 hg1 hF1)
        | (go_at_call 12; with_reducible refine (hsh.out _).mono ?_; rintro e Wc ⟨rfl, hbc⟩; replace H := hide (H.out.call hbc); clear hbc)
        | (with_reducible refine at_op (op := ⟨some 13, _, _, _, _, _⟩) ?_; refine wpl_held (op := ⟨some 13, _, _, _, _, _⟩) (.agg (C).toArray) (held_loadf aggP _ rfl g3 rfl _ (C) (H.out.get 0 rfl) h610.out) rfl ?_)
        | (go_at_call 19; (with_reducible refine (hP.out _).mono ?_); rintro e Wc ⟨Ap, cp, rfl, hop, hbc⟩; rw [hpl.out] at hop ⊢; obtain ⟨gp, curp, rfl, hgp, hbp, hsp, htp, hcp⟩ := own_block hop (by decide); rw [← Array.toArray_toList (xs := curp)] at hbp; replace H := hide (H.out.box hgp (Frm.of_below hbc) hbp); have HTP : Hid ((curp.toList.drop 0).take 614 = cellsB PK) := (by show _ = _; rw [List.drop_zero]; exact htp); have HSP : Hid (614 ≤ curp.toList.length) := (by show _ ≤ _; rw [Array.length_toList]; exact hsp); have HCK : Hid (curp.toList[k]? = some (.int .u8 (x.toNat : Int))) := (by show _ = _; have h := take_at htp k hk6.out (by rw [hpl0.out]; exact hk6.out); rw [hx.out] at h; exact h); clear hbc hop hgp hbp htp hcp hsp)
        | (with_reducible refine at_op (op := ⟨some 27, _, _, _, _, _⟩) ?_; rw [hk.out])
        | (with_reducible refine at_op (op := ⟨some 28, _, _, _, _, _⟩) ?_; refine wpl_held (op := ⟨some 28, _, _, _, _, _⟩) (.int .u8 (x.toNat : Int)) (held_load1 Try.underlying5 rfl one8 _ rfl gp k rfl _ _ (.int .u8 (x.toNat : Int)) (H.out.get 1 rfl) HCK.out) rfl ?_)
        | (with_reducible refine at_op (op := ⟨none, .store _ (.tmp 31) _, _, _, _, _⟩) ?_; (refine wpl_store1 (op := ⟨none, _, _, _, _, _⟩) one8 rfl (.tmp 31) (.tmp 30) rfl gp k (.int .u8 (z.toNat : Int)) curp.toList (curp.toList.set k (.int .u8 (z.toNat : Int))) rfl rfl rfl _ (H.out.get 1 rfl) (by have := HSP.out; have := hk6.out; omega) rfl ?_); intro W1 hB1 hF1; replace H := hide (H.out.store 1 rfl hF1 hB1); clear hB1 hF1)
        | (go_at_call 20; (with_reducible refine (hU.out _ _ ((H.out.get 1 rfl).mid 0 614 Q (by rw [hQ.out]; exact take_set_cells HTP.out k z) hQl.out) cp).mono ?_); rintro e Wc ⟨rfl, hbc⟩; replace H := hide (H.out.call hbc); clear hbc)
        | ((with_reducible refine wpl_alloca (op := ⟨some 9, _, _, _, _, _⟩) rfl _ rfl _ zeroP ?_); intro g9 W1 hB1 hg1 hF1)
        | ((with_reducible refine wpl_storea aggP rfl (.tmp 9) (.tmp 35) rfl g9 (CQ) rfl rfl _ _ hB1 h610q.out pkt0_len (hQo.out) ?_); intro W2 hB2 hF2; replace H := hide (H.out.var hg1 hF1 hF2 hB2); clear hB1 hg1 hF1 hB2 hF2)
        | (with_reducible refine at_op (op := ⟨some 46, _, _, _, _, _⟩) ?_; refine wpl_held (op := ⟨some 46, _, _, _, _, _⟩) (.int .u16 (qw : Int)) (held_load1 Try.underlying25 rfl one16w _ rfl g9 0 rfl _ _ (.int .u16 (qw : Int)) (H.out.get 2 rfl) hq0.out) rfl ?_)
        | (with_reducible refine at_op (op := ⟨some 48, _, _, _, _, _⟩) ?_; refine wpl_held (op := ⟨some 48, _, _, _, _, _⟩) (.int .u16 (qw : Int)) (held_load1 Try.underlying25 rfl one16w _ rfl g3 0 rfl _ _ (.int .u16 (qw : Int)) (H.out.get 0 rfl) hp0.out) rfl ?_)
        | (with_reducible refine at_op (op := ⟨some 59, _, _, _, _, _⟩) ?_; refine wpl_held (op := ⟨some 59, _, _, _, _, _⟩) (.int .u32 (qe : Int)) (held_load1 Try.underlying26 rfl one32 _ rfl g9 1 rfl _ _ (.int .u32 (qe : Int)) (H.out.get 2 rfl) hq1.out) rfl ?_)
        | (with_reducible refine at_op (op := ⟨some 61, _, _, _, _, _⟩) ?_; refine wpl_held (op := ⟨some 61, _, _, _, _, _⟩) (.int .u32 (qe : Int)) (held_load1 Try.underlying26 rfl one32 _ rfl g3 1 rfl _ _ (.int .u32 (qe : Int)) (H.out.get 0 rfl) hp1.out) rfl ?_)
        | (with_reducible refine at_op (op := ⟨some 76, _, _, _, _, _⟩) ?_; refine wpl_held (op := ⟨some 76, _, _, _, _, _⟩) (.agg (cellsB qnonce).toArray) (held_loada aggN _ rfl g9 2 rfl _ (CQ) (cellsB qnonce) (H.out.get 2 rfl) hq_nonce.out (by rw [h610q.out]; decide)) rfl ?_)
        | (with_reducible refine at_op (op := ⟨some 78, _, _, _, _, _⟩) ?_; refine wpl_held (op := ⟨some 78, _, _, _, _, _⟩) (.agg (cellsB pnonce).toArray) (held_loada aggN _ rfl g3 2 rfl _ (C) (cellsB pnonce) (H.out.get 0 rfl) hp_nonce.out (by rw [h610.out]; decide)) rfl ?_)
        | (with_reducible refine at_op (op := ⟨some 79, _, _, _, _, _⟩) ?_; refine wpl_held (op := ⟨some 79, _, _, _, _, _⟩) (.bool (!false)) (held_neq _ _ _ _ rfl (cellsB qnonce) (cellsB pnonce) rfl rfl (false) (he_nonce.out _) Try.eqGuardType28) rfl ?_)
        | (with_reducible refine at_op (op := ⟨some 93, _, _, _, _, _⟩) ?_; refine wpl_held (op := ⟨some 93, _, _, _, _, _⟩) (.agg (cellsB qmac).toArray) (held_loada aggM _ rfl g9 18 rfl _ (CQ) (cellsB qmac) (H.out.get 2 rfl) hq_mac.out (by rw [h610q.out]; decide)) rfl ?_)
        | (with_reducible refine at_op (op := ⟨some 95, _, _, _, _, _⟩) ?_; refine wpl_held (op := ⟨some 95, _, _, _, _, _⟩) (.agg (cellsB pmac).toArray) (held_loada aggM _ rfl g3 18 rfl _ (C) (cellsB pmac) (H.out.get 0 rfl) hp_mac.out (by rw [h610.out]; decide)) rfl ?_)
        | (with_reducible refine at_op (op := ⟨some 96, _, _, _, _, _⟩) ?_; refine wpl_held (op := ⟨some 96, _, _, _, _, _⟩) (.bool (!true)) (held_neq _ _ _ _ rfl (cellsB qmac) (cellsB pmac) rfl rfl (true) (he_mac.out _) Try.eqGuardType29) rfl ?_)
        | (with_reducible refine at_op (op := ⟨some 110, _, _, _, _, _⟩) ?_; refine wpl_held (op := ⟨some 110, _, _, _, _, _⟩) (.agg (cellsB qhead).toArray) (held_loada agg320 _ rfl g9 34 rfl _ (CQ) (cellsB qhead) (H.out.get 2 rfl) hq_head.out (by rw [h610q.out]; decide)) rfl ?_)
        | (with_reducible refine at_op (op := ⟨some 112, _, _, _, _, _⟩) ?_; refine wpl_held (op := ⟨some 112, _, _, _, _, _⟩) (.agg (cellsB phead).toArray) (held_loada agg320 _ rfl g3 34 rfl _ (C) (cellsB phead) (H.out.get 0 rfl) hp_head.out (by rw [h610.out]; decide)) rfl ?_)
        | (with_reducible refine at_op (op := ⟨some 113, _, _, _, _, _⟩) ?_; refine wpl_held (op := ⟨some 113, _, _, _, _, _⟩) (.bool (!true)) (held_neq _ _ _ _ rfl (cellsB qhead) (cellsB phead) rfl rfl (true) (he_head.out _) Try.eqGuardType47) rfl ?_)
        | (with_reducible refine at_op (op := ⟨some 127, _, _, _, _, _⟩) ?_; refine wpl_held (op := ⟨some 127, _, _, _, _, _⟩) (.agg (cellsB qbody).toArray) (held_loada agg256 _ rfl g9 354 rfl _ (CQ) (cellsB qbody) (H.out.get 2 rfl) hq_body.out (by rw [h610q.out]; decide)) rfl ?_)
        | (with_reducible refine at_op (op := ⟨some 129, _, _, _, _, _⟩) ?_; refine wpl_held (op := ⟨some 129, _, _, _, _, _⟩) (.agg (cellsB pbody).toArray) (held_loada agg256 _ rfl g3 354 rfl _ (C) (cellsB pbody) (H.out.get 0 rfl) hp_body.out (by rw [h610.out]; decide)) rfl ?_)
        | (with_reducible refine at_op (op := ⟨some 130, _, _, _, _, _⟩) ?_; refine wpl_held (op := ⟨some 130, _, _, _, _, _⟩) (.bool (!true)) (held_neq _ _ _ _ rfl (cellsB qbody) (cellsB pbody) rfl rfl (true) (he_body.out _) Try.eqGuardType48) rfl ?_))
      go_ret
      exact ⟨rfl, H.out.bel⟩
    · have hs_who : qw = wp := by rw [hqw, hwp, hQe, show (PK.set k z).take 2 = PK.take 2 from (by have h := cut_same PK k z 0 2 (by omega); rwa [List.drop_zero, List.drop_zero] at h)]
      subst hs_who
      have hs_epoch : qe = ep := by rw [hqe, hep, hQe, show ((PK.set k z).drop 2).take 4 = (PK.drop 2).take 4 from (cut_same PK k z 2 4 (by omega))]
      subst hs_epoch
      have hb_nonce : (qnonce == pnonce) = true := by rw [hqnonce, hpnonce, hQe, cut_same PK k z 6 16 (by omega)]; simp
      have he_nonce : Hid (∀ w, (Op.equalIn 10000 28 (.agg (cellsB qnonce).toArray) (.agg (cellsB pnonce).toArray)).run Try.prog w = .ok true w) := fun w => by rw [← hb_nonce]; exact eq_bytes 9998 underN _ _ hlq_nonce hlp_nonce w
      have hb_mac : (qmac == pmac) = false := by rw [hqmac, hpmac, hQe]; exact cut_diff PK k z 22 16 (by omega) (by omega) (by rw [hpl0.out]; omega) hzx
      have he_mac : Hid (∀ w, (Op.equalIn 10000 29 (.agg (cellsB qmac).toArray) (.agg (cellsB pmac).toArray)).run Try.prog w = .ok false w) := fun w => by rw [← hb_mac]; exact eq_bytes 9998 underM _ _ hlq_mac hlp_mac w
      have hb_head : (qhead == phead) = true := by rw [hqhead, hphead, hQe, cut_same PK k z 38 320 (by omega)]; simp
      have he_head : Hid (∀ w, (Op.equalIn 10000 47 (.agg (cellsB qhead).toArray) (.agg (cellsB phead).toArray)).run Try.prog w = .ok true w) := fun w => by rw [← hb_head]; exact eq_bytes 9998 under320 _ _ hlq_head hlp_head w
      have hb_body : (qbody == pbody) = true := by rw [hqbody, hpbody, hQe, cut_same PK k z 358 256 (by omega)]; simp
      have he_body : Hid (∀ w, (Op.equalIn 10000 48 (.agg (cellsB qbody).toArray) (.agg (cellsB pbody).toArray)).run Try.prog w = .ok true w) := fun w => by rw [← hb_body]; exact eq_bytes 9998 under256 _ _ hlq_body hlp_body w
      clear hb_nonce hb_mac hb_head hb_body
      clear hqw hwp hqe hep hqnonce hpnonce hqmac hpmac hqhead hphead hqbody hpbody hQe hlq_nonce hlp_nonce hlq_mac hlp_mac hlq_head hlp_head hlq_body hlp_body hzx
      have hlt2 : decide (k < 2) = false := decide_eq_false (by omega)
      have hge2 : decide (2 ≤ k) = true := decide_eq_true (by omega)
      have hlz2 : decide ((k : Int) < 2) = false := decide_eq_false (by omega)
      have hgz2 : decide ((2 : Int) ≤ (k : Int)) = true := decide_eq_true (by omega)
      have hli2 : ¬ (k : Int) < 2 := by omega
      have hgi2 : (2 : Int) ≤ (k : Int) := by omega
      have hlt6 : decide (k < 6) = false := decide_eq_false (by omega)
      have hge6 : decide (6 ≤ k) = true := decide_eq_true (by omega)
      have hlz6 : decide ((k : Int) < 6) = false := decide_eq_false (by omega)
      have hgz6 : decide ((6 : Int) ≤ (k : Int)) = true := decide_eq_true (by omega)
      have hli6 : ¬ (k : Int) < 6 := by omega
      have hgi6 : (6 : Int) ≤ (k : Int) := by omega
      have hlt22 : decide (k < 22) = false := decide_eq_false (by omega)
      have hge22 : decide (22 ≤ k) = true := decide_eq_true (by omega)
      have hlz22 : decide ((k : Int) < 22) = false := decide_eq_false (by omega)
      have hgz22 : decide ((22 : Int) ≤ (k : Int)) = true := decide_eq_true (by omega)
      have hli22 : ¬ (k : Int) < 22 := by omega
      have hgi22 : (22 : Int) ≤ (k : Int) := by omega
      have hlt38 : decide (k < 38) = true := decide_eq_true (by omega)
      have hge38 : decide (38 ≤ k) = false := decide_eq_false (by omega)
      have hlz38 : decide ((k : Int) < 38) = true := decide_eq_true (by omega)
      have hgz38 : decide ((38 : Int) ≤ (k : Int)) = false := decide_eq_false (by omega)
      have hli38 : (k : Int) < 38 := by omega
      have hgi38 : ¬ (38 : Int) ≤ (k : Int) := by omega
      have hlt358 : decide (k < 358) = true := decide_eq_true (by omega)
      have hge358 : decide (358 ≤ k) = false := decide_eq_false (by omega)
      have hlz358 : decide ((k : Int) < 358) = true := decide_eq_true (by omega)
      have hgz358 : decide ((358 : Int) ≤ (k : Int)) = false := decide_eq_false (by omega)
      have hli358 : (k : Int) < 358 := by omega
      have hgi358 : ¬ (358 : Int) ≤ (k : Int) := by omega
      have H := hide (At.start w)
      go_enter Try.func8, Try.ntmps8
      simp only [List.append_eq, List.cons_append, List.nil_append]
      go_wp2_with (first
        | (with_reducible refine at_op (op := ⟨some 3, _, _, _, _, _⟩) ?_; (refine wpl_boxa (op := ⟨some 3, _, _, _, _, _⟩) rfl _ _ rfl (C) rfl ?_); intro g3 W1 hB1 hg1 hF1; replace H := hide (H.out.box hg1 hF1 hB1); clear hB1 hg1 hF1)
        | (go_at_call 12; with_reducible refine (hsh.out _).mono ?_; rintro e Wc ⟨rfl, hbc⟩; replace H := hide (H.out.call hbc); clear hbc)
        | (with_reducible refine at_op (op := ⟨some 13, _, _, _, _, _⟩) ?_; refine wpl_held (op := ⟨some 13, _, _, _, _, _⟩) (.agg (C).toArray) (held_loadf aggP _ rfl g3 rfl _ (C) (H.out.get 0 rfl) h610.out) rfl ?_)
        | (go_at_call 19; (with_reducible refine (hP.out _).mono ?_); rintro e Wc ⟨Ap, cp, rfl, hop, hbc⟩; rw [hpl.out] at hop ⊢; obtain ⟨gp, curp, rfl, hgp, hbp, hsp, htp, hcp⟩ := own_block hop (by decide); rw [← Array.toArray_toList (xs := curp)] at hbp; replace H := hide (H.out.box hgp (Frm.of_below hbc) hbp); have HTP : Hid ((curp.toList.drop 0).take 614 = cellsB PK) := (by show _ = _; rw [List.drop_zero]; exact htp); have HSP : Hid (614 ≤ curp.toList.length) := (by show _ ≤ _; rw [Array.length_toList]; exact hsp); have HCK : Hid (curp.toList[k]? = some (.int .u8 (x.toNat : Int))) := (by show _ = _; have h := take_at htp k hk6.out (by rw [hpl0.out]; exact hk6.out); rw [hx.out] at h; exact h); clear hbc hop hgp hbp htp hcp hsp)
        | (with_reducible refine at_op (op := ⟨some 27, _, _, _, _, _⟩) ?_; rw [hk.out])
        | (with_reducible refine at_op (op := ⟨some 28, _, _, _, _, _⟩) ?_; refine wpl_held (op := ⟨some 28, _, _, _, _, _⟩) (.int .u8 (x.toNat : Int)) (held_load1 Try.underlying5 rfl one8 _ rfl gp k rfl _ _ (.int .u8 (x.toNat : Int)) (H.out.get 1 rfl) HCK.out) rfl ?_)
        | (with_reducible refine at_op (op := ⟨none, .store _ (.tmp 31) _, _, _, _, _⟩) ?_; (refine wpl_store1 (op := ⟨none, _, _, _, _, _⟩) one8 rfl (.tmp 31) (.tmp 30) rfl gp k (.int .u8 (z.toNat : Int)) curp.toList (curp.toList.set k (.int .u8 (z.toNat : Int))) rfl rfl rfl _ (H.out.get 1 rfl) (by have := HSP.out; have := hk6.out; omega) rfl ?_); intro W1 hB1 hF1; replace H := hide (H.out.store 1 rfl hF1 hB1); clear hB1 hF1)
        | (go_at_call 20; (with_reducible refine (hU.out _ _ ((H.out.get 1 rfl).mid 0 614 Q (by rw [hQ.out]; exact take_set_cells HTP.out k z) hQl.out) cp).mono ?_); rintro e Wc ⟨rfl, hbc⟩; replace H := hide (H.out.call hbc); clear hbc)
        | ((with_reducible refine wpl_alloca (op := ⟨some 9, _, _, _, _, _⟩) rfl _ rfl _ zeroP ?_); intro g9 W1 hB1 hg1 hF1)
        | ((with_reducible refine wpl_storea aggP rfl (.tmp 9) (.tmp 35) rfl g9 (CQ) rfl rfl _ _ hB1 h610q.out pkt0_len (hQo.out) ?_); intro W2 hB2 hF2; replace H := hide (H.out.var hg1 hF1 hF2 hB2); clear hB1 hg1 hF1 hB2 hF2)
        | (with_reducible refine at_op (op := ⟨some 46, _, _, _, _, _⟩) ?_; refine wpl_held (op := ⟨some 46, _, _, _, _, _⟩) (.int .u16 (qw : Int)) (held_load1 Try.underlying25 rfl one16w _ rfl g9 0 rfl _ _ (.int .u16 (qw : Int)) (H.out.get 2 rfl) hq0.out) rfl ?_)
        | (with_reducible refine at_op (op := ⟨some 48, _, _, _, _, _⟩) ?_; refine wpl_held (op := ⟨some 48, _, _, _, _, _⟩) (.int .u16 (qw : Int)) (held_load1 Try.underlying25 rfl one16w _ rfl g3 0 rfl _ _ (.int .u16 (qw : Int)) (H.out.get 0 rfl) hp0.out) rfl ?_)
        | (with_reducible refine at_op (op := ⟨some 59, _, _, _, _, _⟩) ?_; refine wpl_held (op := ⟨some 59, _, _, _, _, _⟩) (.int .u32 (qe : Int)) (held_load1 Try.underlying26 rfl one32 _ rfl g9 1 rfl _ _ (.int .u32 (qe : Int)) (H.out.get 2 rfl) hq1.out) rfl ?_)
        | (with_reducible refine at_op (op := ⟨some 61, _, _, _, _, _⟩) ?_; refine wpl_held (op := ⟨some 61, _, _, _, _, _⟩) (.int .u32 (qe : Int)) (held_load1 Try.underlying26 rfl one32 _ rfl g3 1 rfl _ _ (.int .u32 (qe : Int)) (H.out.get 0 rfl) hp1.out) rfl ?_)
        | (with_reducible refine at_op (op := ⟨some 76, _, _, _, _, _⟩) ?_; refine wpl_held (op := ⟨some 76, _, _, _, _, _⟩) (.agg (cellsB qnonce).toArray) (held_loada aggN _ rfl g9 2 rfl _ (CQ) (cellsB qnonce) (H.out.get 2 rfl) hq_nonce.out (by rw [h610q.out]; decide)) rfl ?_)
        | (with_reducible refine at_op (op := ⟨some 78, _, _, _, _, _⟩) ?_; refine wpl_held (op := ⟨some 78, _, _, _, _, _⟩) (.agg (cellsB pnonce).toArray) (held_loada aggN _ rfl g3 2 rfl _ (C) (cellsB pnonce) (H.out.get 0 rfl) hp_nonce.out (by rw [h610.out]; decide)) rfl ?_)
        | (with_reducible refine at_op (op := ⟨some 79, _, _, _, _, _⟩) ?_; refine wpl_held (op := ⟨some 79, _, _, _, _, _⟩) (.bool (!true)) (held_neq _ _ _ _ rfl (cellsB qnonce) (cellsB pnonce) rfl rfl (true) (he_nonce.out _) Try.eqGuardType28) rfl ?_)
        | (with_reducible refine at_op (op := ⟨some 93, _, _, _, _, _⟩) ?_; refine wpl_held (op := ⟨some 93, _, _, _, _, _⟩) (.agg (cellsB qmac).toArray) (held_loada aggM _ rfl g9 18 rfl _ (CQ) (cellsB qmac) (H.out.get 2 rfl) hq_mac.out (by rw [h610q.out]; decide)) rfl ?_)
        | (with_reducible refine at_op (op := ⟨some 95, _, _, _, _, _⟩) ?_; refine wpl_held (op := ⟨some 95, _, _, _, _, _⟩) (.agg (cellsB pmac).toArray) (held_loada aggM _ rfl g3 18 rfl _ (C) (cellsB pmac) (H.out.get 0 rfl) hp_mac.out (by rw [h610.out]; decide)) rfl ?_)
        | (with_reducible refine at_op (op := ⟨some 96, _, _, _, _, _⟩) ?_; refine wpl_held (op := ⟨some 96, _, _, _, _, _⟩) (.bool (!false)) (held_neq _ _ _ _ rfl (cellsB qmac) (cellsB pmac) rfl rfl (false) (he_mac.out _) Try.eqGuardType29) rfl ?_)
        | (with_reducible refine at_op (op := ⟨some 110, _, _, _, _, _⟩) ?_; refine wpl_held (op := ⟨some 110, _, _, _, _, _⟩) (.agg (cellsB qhead).toArray) (held_loada agg320 _ rfl g9 34 rfl _ (CQ) (cellsB qhead) (H.out.get 2 rfl) hq_head.out (by rw [h610q.out]; decide)) rfl ?_)
        | (with_reducible refine at_op (op := ⟨some 112, _, _, _, _, _⟩) ?_; refine wpl_held (op := ⟨some 112, _, _, _, _, _⟩) (.agg (cellsB phead).toArray) (held_loada agg320 _ rfl g3 34 rfl _ (C) (cellsB phead) (H.out.get 0 rfl) hp_head.out (by rw [h610.out]; decide)) rfl ?_)
        | (with_reducible refine at_op (op := ⟨some 113, _, _, _, _, _⟩) ?_; refine wpl_held (op := ⟨some 113, _, _, _, _, _⟩) (.bool (!true)) (held_neq _ _ _ _ rfl (cellsB qhead) (cellsB phead) rfl rfl (true) (he_head.out _) Try.eqGuardType47) rfl ?_)
        | (with_reducible refine at_op (op := ⟨some 127, _, _, _, _, _⟩) ?_; refine wpl_held (op := ⟨some 127, _, _, _, _, _⟩) (.agg (cellsB qbody).toArray) (held_loada agg256 _ rfl g9 354 rfl _ (CQ) (cellsB qbody) (H.out.get 2 rfl) hq_body.out (by rw [h610q.out]; decide)) rfl ?_)
        | (with_reducible refine at_op (op := ⟨some 129, _, _, _, _, _⟩) ?_; refine wpl_held (op := ⟨some 129, _, _, _, _, _⟩) (.agg (cellsB pbody).toArray) (held_loada agg256 _ rfl g3 354 rfl _ (C) (cellsB pbody) (H.out.get 0 rfl) hp_body.out (by rw [h610.out]; decide)) rfl ?_)
        | (with_reducible refine at_op (op := ⟨some 130, _, _, _, _, _⟩) ?_; refine wpl_held (op := ⟨some 130, _, _, _, _, _⟩) (.bool (!true)) (held_neq _ _ _ _ rfl (cellsB qbody) (cellsB pbody) rfl rfl (true) (he_body.out _) Try.eqGuardType48) rfl ?_))
      go_ret
      exact ⟨rfl, H.out.bel⟩
    · have hs_who : qw = wp := by rw [hqw, hwp, hQe, show (PK.set k z).take 2 = PK.take 2 from (by have h := cut_same PK k z 0 2 (by omega); rwa [List.drop_zero, List.drop_zero] at h)]
      subst hs_who
      have hs_epoch : qe = ep := by rw [hqe, hep, hQe, show ((PK.set k z).drop 2).take 4 = (PK.drop 2).take 4 from (cut_same PK k z 2 4 (by omega))]
      subst hs_epoch
      have hb_nonce : (qnonce == pnonce) = true := by rw [hqnonce, hpnonce, hQe, cut_same PK k z 6 16 (by omega)]; simp
      have he_nonce : Hid (∀ w, (Op.equalIn 10000 28 (.agg (cellsB qnonce).toArray) (.agg (cellsB pnonce).toArray)).run Try.prog w = .ok true w) := fun w => by rw [← hb_nonce]; exact eq_bytes 9998 underN _ _ hlq_nonce hlp_nonce w
      have hb_mac : (qmac == pmac) = true := by rw [hqmac, hpmac, hQe, cut_same PK k z 22 16 (by omega)]; simp
      have he_mac : Hid (∀ w, (Op.equalIn 10000 29 (.agg (cellsB qmac).toArray) (.agg (cellsB pmac).toArray)).run Try.prog w = .ok true w) := fun w => by rw [← hb_mac]; exact eq_bytes 9998 underM _ _ hlq_mac hlp_mac w
      have hb_head : (qhead == phead) = false := by rw [hqhead, hphead, hQe]; exact cut_diff PK k z 38 320 (by omega) (by omega) (by rw [hpl0.out]; omega) hzx
      have he_head : Hid (∀ w, (Op.equalIn 10000 47 (.agg (cellsB qhead).toArray) (.agg (cellsB phead).toArray)).run Try.prog w = .ok false w) := fun w => by rw [← hb_head]; exact eq_bytes 9998 under320 _ _ hlq_head hlp_head w
      have hb_body : (qbody == pbody) = true := by rw [hqbody, hpbody, hQe, cut_same PK k z 358 256 (by omega)]; simp
      have he_body : Hid (∀ w, (Op.equalIn 10000 48 (.agg (cellsB qbody).toArray) (.agg (cellsB pbody).toArray)).run Try.prog w = .ok true w) := fun w => by rw [← hb_body]; exact eq_bytes 9998 under256 _ _ hlq_body hlp_body w
      clear hb_nonce hb_mac hb_head hb_body
      clear hqw hwp hqe hep hqnonce hpnonce hqmac hpmac hqhead hphead hqbody hpbody hQe hlq_nonce hlp_nonce hlq_mac hlp_mac hlq_head hlp_head hlq_body hlp_body hzx
      have hlt2 : decide (k < 2) = false := decide_eq_false (by omega)
      have hge2 : decide (2 ≤ k) = true := decide_eq_true (by omega)
      have hlz2 : decide ((k : Int) < 2) = false := decide_eq_false (by omega)
      have hgz2 : decide ((2 : Int) ≤ (k : Int)) = true := decide_eq_true (by omega)
      have hli2 : ¬ (k : Int) < 2 := by omega
      have hgi2 : (2 : Int) ≤ (k : Int) := by omega
      have hlt6 : decide (k < 6) = false := decide_eq_false (by omega)
      have hge6 : decide (6 ≤ k) = true := decide_eq_true (by omega)
      have hlz6 : decide ((k : Int) < 6) = false := decide_eq_false (by omega)
      have hgz6 : decide ((6 : Int) ≤ (k : Int)) = true := decide_eq_true (by omega)
      have hli6 : ¬ (k : Int) < 6 := by omega
      have hgi6 : (6 : Int) ≤ (k : Int) := by omega
      have hlt22 : decide (k < 22) = false := decide_eq_false (by omega)
      have hge22 : decide (22 ≤ k) = true := decide_eq_true (by omega)
      have hlz22 : decide ((k : Int) < 22) = false := decide_eq_false (by omega)
      have hgz22 : decide ((22 : Int) ≤ (k : Int)) = true := decide_eq_true (by omega)
      have hli22 : ¬ (k : Int) < 22 := by omega
      have hgi22 : (22 : Int) ≤ (k : Int) := by omega
      have hlt38 : decide (k < 38) = false := decide_eq_false (by omega)
      have hge38 : decide (38 ≤ k) = true := decide_eq_true (by omega)
      have hlz38 : decide ((k : Int) < 38) = false := decide_eq_false (by omega)
      have hgz38 : decide ((38 : Int) ≤ (k : Int)) = true := decide_eq_true (by omega)
      have hli38 : ¬ (k : Int) < 38 := by omega
      have hgi38 : (38 : Int) ≤ (k : Int) := by omega
      have hlt358 : decide (k < 358) = true := decide_eq_true (by omega)
      have hge358 : decide (358 ≤ k) = false := decide_eq_false (by omega)
      have hlz358 : decide ((k : Int) < 358) = true := decide_eq_true (by omega)
      have hgz358 : decide ((358 : Int) ≤ (k : Int)) = false := decide_eq_false (by omega)
      have hli358 : (k : Int) < 358 := by omega
      have hgi358 : ¬ (358 : Int) ≤ (k : Int) := by omega
      have H := hide (At.start w)
      go_enter Try.func8, Try.ntmps8
      simp only [List.append_eq, List.cons_append, List.nil_append]
      go_wp2_with (first
        | (with_reducible refine at_op (op := ⟨some 3, _, _, _, _, _⟩) ?_; (refine wpl_boxa (op := ⟨some 3, _, _, _, _, _⟩) rfl _ _ rfl (C) rfl ?_); intro g3 W1 hB1 hg1 hF1; replace H := hide (H.out.box hg1 hF1 hB1); clear hB1 hg1 hF1)
        | (go_at_call 12; with_reducible refine (hsh.out _).mono ?_; rintro e Wc ⟨rfl, hbc⟩; replace H := hide (H.out.call hbc); clear hbc)
        | (with_reducible refine at_op (op := ⟨some 13, _, _, _, _, _⟩) ?_; refine wpl_held (op := ⟨some 13, _, _, _, _, _⟩) (.agg (C).toArray) (held_loadf aggP _ rfl g3 rfl _ (C) (H.out.get 0 rfl) h610.out) rfl ?_)
        | (go_at_call 19; (with_reducible refine (hP.out _).mono ?_); rintro e Wc ⟨Ap, cp, rfl, hop, hbc⟩; rw [hpl.out] at hop ⊢; obtain ⟨gp, curp, rfl, hgp, hbp, hsp, htp, hcp⟩ := own_block hop (by decide); rw [← Array.toArray_toList (xs := curp)] at hbp; replace H := hide (H.out.box hgp (Frm.of_below hbc) hbp); have HTP : Hid ((curp.toList.drop 0).take 614 = cellsB PK) := (by show _ = _; rw [List.drop_zero]; exact htp); have HSP : Hid (614 ≤ curp.toList.length) := (by show _ ≤ _; rw [Array.length_toList]; exact hsp); have HCK : Hid (curp.toList[k]? = some (.int .u8 (x.toNat : Int))) := (by show _ = _; have h := take_at htp k hk6.out (by rw [hpl0.out]; exact hk6.out); rw [hx.out] at h; exact h); clear hbc hop hgp hbp htp hcp hsp)
        | (with_reducible refine at_op (op := ⟨some 27, _, _, _, _, _⟩) ?_; rw [hk.out])
        | (with_reducible refine at_op (op := ⟨some 28, _, _, _, _, _⟩) ?_; refine wpl_held (op := ⟨some 28, _, _, _, _, _⟩) (.int .u8 (x.toNat : Int)) (held_load1 Try.underlying5 rfl one8 _ rfl gp k rfl _ _ (.int .u8 (x.toNat : Int)) (H.out.get 1 rfl) HCK.out) rfl ?_)
        | (with_reducible refine at_op (op := ⟨none, .store _ (.tmp 31) _, _, _, _, _⟩) ?_; (refine wpl_store1 (op := ⟨none, _, _, _, _, _⟩) one8 rfl (.tmp 31) (.tmp 30) rfl gp k (.int .u8 (z.toNat : Int)) curp.toList (curp.toList.set k (.int .u8 (z.toNat : Int))) rfl rfl rfl _ (H.out.get 1 rfl) (by have := HSP.out; have := hk6.out; omega) rfl ?_); intro W1 hB1 hF1; replace H := hide (H.out.store 1 rfl hF1 hB1); clear hB1 hF1)
        | (go_at_call 20; (with_reducible refine (hU.out _ _ ((H.out.get 1 rfl).mid 0 614 Q (by rw [hQ.out]; exact take_set_cells HTP.out k z) hQl.out) cp).mono ?_); rintro e Wc ⟨rfl, hbc⟩; replace H := hide (H.out.call hbc); clear hbc)
        | ((with_reducible refine wpl_alloca (op := ⟨some 9, _, _, _, _, _⟩) rfl _ rfl _ zeroP ?_); intro g9 W1 hB1 hg1 hF1)
        | ((with_reducible refine wpl_storea aggP rfl (.tmp 9) (.tmp 35) rfl g9 (CQ) rfl rfl _ _ hB1 h610q.out pkt0_len (hQo.out) ?_); intro W2 hB2 hF2; replace H := hide (H.out.var hg1 hF1 hF2 hB2); clear hB1 hg1 hF1 hB2 hF2)
        | (with_reducible refine at_op (op := ⟨some 46, _, _, _, _, _⟩) ?_; refine wpl_held (op := ⟨some 46, _, _, _, _, _⟩) (.int .u16 (qw : Int)) (held_load1 Try.underlying25 rfl one16w _ rfl g9 0 rfl _ _ (.int .u16 (qw : Int)) (H.out.get 2 rfl) hq0.out) rfl ?_)
        | (with_reducible refine at_op (op := ⟨some 48, _, _, _, _, _⟩) ?_; refine wpl_held (op := ⟨some 48, _, _, _, _, _⟩) (.int .u16 (qw : Int)) (held_load1 Try.underlying25 rfl one16w _ rfl g3 0 rfl _ _ (.int .u16 (qw : Int)) (H.out.get 0 rfl) hp0.out) rfl ?_)
        | (with_reducible refine at_op (op := ⟨some 59, _, _, _, _, _⟩) ?_; refine wpl_held (op := ⟨some 59, _, _, _, _, _⟩) (.int .u32 (qe : Int)) (held_load1 Try.underlying26 rfl one32 _ rfl g9 1 rfl _ _ (.int .u32 (qe : Int)) (H.out.get 2 rfl) hq1.out) rfl ?_)
        | (with_reducible refine at_op (op := ⟨some 61, _, _, _, _, _⟩) ?_; refine wpl_held (op := ⟨some 61, _, _, _, _, _⟩) (.int .u32 (qe : Int)) (held_load1 Try.underlying26 rfl one32 _ rfl g3 1 rfl _ _ (.int .u32 (qe : Int)) (H.out.get 0 rfl) hp1.out) rfl ?_)
        | (with_reducible refine at_op (op := ⟨some 76, _, _, _, _, _⟩) ?_; refine wpl_held (op := ⟨some 76, _, _, _, _, _⟩) (.agg (cellsB qnonce).toArray) (held_loada aggN _ rfl g9 2 rfl _ (CQ) (cellsB qnonce) (H.out.get 2 rfl) hq_nonce.out (by rw [h610q.out]; decide)) rfl ?_)
        | (with_reducible refine at_op (op := ⟨some 78, _, _, _, _, _⟩) ?_; refine wpl_held (op := ⟨some 78, _, _, _, _, _⟩) (.agg (cellsB pnonce).toArray) (held_loada aggN _ rfl g3 2 rfl _ (C) (cellsB pnonce) (H.out.get 0 rfl) hp_nonce.out (by rw [h610.out]; decide)) rfl ?_)
        | (with_reducible refine at_op (op := ⟨some 79, _, _, _, _, _⟩) ?_; refine wpl_held (op := ⟨some 79, _, _, _, _, _⟩) (.bool (!true)) (held_neq _ _ _ _ rfl (cellsB qnonce) (cellsB pnonce) rfl rfl (true) (he_nonce.out _) Try.eqGuardType28) rfl ?_)
        | (with_reducible refine at_op (op := ⟨some 93, _, _, _, _, _⟩) ?_; refine wpl_held (op := ⟨some 93, _, _, _, _, _⟩) (.agg (cellsB qmac).toArray) (held_loada aggM _ rfl g9 18 rfl _ (CQ) (cellsB qmac) (H.out.get 2 rfl) hq_mac.out (by rw [h610q.out]; decide)) rfl ?_)
        | (with_reducible refine at_op (op := ⟨some 95, _, _, _, _, _⟩) ?_; refine wpl_held (op := ⟨some 95, _, _, _, _, _⟩) (.agg (cellsB pmac).toArray) (held_loada aggM _ rfl g3 18 rfl _ (C) (cellsB pmac) (H.out.get 0 rfl) hp_mac.out (by rw [h610.out]; decide)) rfl ?_)
        | (with_reducible refine at_op (op := ⟨some 96, _, _, _, _, _⟩) ?_; refine wpl_held (op := ⟨some 96, _, _, _, _, _⟩) (.bool (!true)) (held_neq _ _ _ _ rfl (cellsB qmac) (cellsB pmac) rfl rfl (true) (he_mac.out _) Try.eqGuardType29) rfl ?_)
        | (with_reducible refine at_op (op := ⟨some 110, _, _, _, _, _⟩) ?_; refine wpl_held (op := ⟨some 110, _, _, _, _, _⟩) (.agg (cellsB qhead).toArray) (held_loada agg320 _ rfl g9 34 rfl _ (CQ) (cellsB qhead) (H.out.get 2 rfl) hq_head.out (by rw [h610q.out]; decide)) rfl ?_)
        | (with_reducible refine at_op (op := ⟨some 112, _, _, _, _, _⟩) ?_; refine wpl_held (op := ⟨some 112, _, _, _, _, _⟩) (.agg (cellsB phead).toArray) (held_loada agg320 _ rfl g3 34 rfl _ (C) (cellsB phead) (H.out.get 0 rfl) hp_head.out (by rw [h610.out]; decide)) rfl ?_)
        | (with_reducible refine at_op (op := ⟨some 113, _, _, _, _, _⟩) ?_; refine wpl_held (op := ⟨some 113, _, _, _, _, _⟩) (.bool (!false)) (held_neq _ _ _ _ rfl (cellsB qhead) (cellsB phead) rfl rfl (false) (he_head.out _) Try.eqGuardType47) rfl ?_)
        | (with_reducible refine at_op (op := ⟨some 127, _, _, _, _, _⟩) ?_; refine wpl_held (op := ⟨some 127, _, _, _, _, _⟩) (.agg (cellsB qbody).toArray) (held_loada agg256 _ rfl g9 354 rfl _ (CQ) (cellsB qbody) (H.out.get 2 rfl) hq_body.out (by rw [h610q.out]; decide)) rfl ?_)
        | (with_reducible refine at_op (op := ⟨some 129, _, _, _, _, _⟩) ?_; refine wpl_held (op := ⟨some 129, _, _, _, _, _⟩) (.agg (cellsB pbody).toArray) (held_loada agg256 _ rfl g3 354 rfl _ (C) (cellsB pbody) (H.out.get 0 rfl) hp_body.out (by rw [h610.out]; decide)) rfl ?_)
        | (with_reducible refine at_op (op := ⟨some 130, _, _, _, _, _⟩) ?_; refine wpl_held (op := ⟨some 130, _, _, _, _, _⟩) (.bool (!true)) (held_neq _ _ _ _ rfl (cellsB qbody) (cellsB pbody) rfl rfl (true) (he_body.out _) Try.eqGuardType48) rfl ?_))
      go_ret
      exact ⟨rfl, H.out.bel⟩
    · have hs_who : qw = wp := by rw [hqw, hwp, hQe, show (PK.set k z).take 2 = PK.take 2 from (by have h := cut_same PK k z 0 2 (by omega); rwa [List.drop_zero, List.drop_zero] at h)]
      subst hs_who
      have hs_epoch : qe = ep := by rw [hqe, hep, hQe, show ((PK.set k z).drop 2).take 4 = (PK.drop 2).take 4 from (cut_same PK k z 2 4 (by omega))]
      subst hs_epoch
      have hb_nonce : (qnonce == pnonce) = true := by rw [hqnonce, hpnonce, hQe, cut_same PK k z 6 16 (by omega)]; simp
      have he_nonce : Hid (∀ w, (Op.equalIn 10000 28 (.agg (cellsB qnonce).toArray) (.agg (cellsB pnonce).toArray)).run Try.prog w = .ok true w) := fun w => by rw [← hb_nonce]; exact eq_bytes 9998 underN _ _ hlq_nonce hlp_nonce w
      have hb_mac : (qmac == pmac) = true := by rw [hqmac, hpmac, hQe, cut_same PK k z 22 16 (by omega)]; simp
      have he_mac : Hid (∀ w, (Op.equalIn 10000 29 (.agg (cellsB qmac).toArray) (.agg (cellsB pmac).toArray)).run Try.prog w = .ok true w) := fun w => by rw [← hb_mac]; exact eq_bytes 9998 underM _ _ hlq_mac hlp_mac w
      have hb_head : (qhead == phead) = true := by rw [hqhead, hphead, hQe, cut_same PK k z 38 320 (by omega)]; simp
      have he_head : Hid (∀ w, (Op.equalIn 10000 47 (.agg (cellsB qhead).toArray) (.agg (cellsB phead).toArray)).run Try.prog w = .ok true w) := fun w => by rw [← hb_head]; exact eq_bytes 9998 under320 _ _ hlq_head hlp_head w
      have hb_body : (qbody == pbody) = false := by rw [hqbody, hpbody, hQe]; exact cut_diff PK k z 358 256 (by omega) (by omega) (by rw [hpl0.out]; omega) hzx
      have he_body : Hid (∀ w, (Op.equalIn 10000 48 (.agg (cellsB qbody).toArray) (.agg (cellsB pbody).toArray)).run Try.prog w = .ok false w) := fun w => by rw [← hb_body]; exact eq_bytes 9998 under256 _ _ hlq_body hlp_body w
      clear hb_nonce hb_mac hb_head hb_body
      clear hqw hwp hqe hep hqnonce hpnonce hqmac hpmac hqhead hphead hqbody hpbody hQe hlq_nonce hlp_nonce hlq_mac hlp_mac hlq_head hlp_head hlq_body hlp_body hzx
      have hlt2 : decide (k < 2) = false := decide_eq_false (by omega)
      have hge2 : decide (2 ≤ k) = true := decide_eq_true (by omega)
      have hlz2 : decide ((k : Int) < 2) = false := decide_eq_false (by omega)
      have hgz2 : decide ((2 : Int) ≤ (k : Int)) = true := decide_eq_true (by omega)
      have hli2 : ¬ (k : Int) < 2 := by omega
      have hgi2 : (2 : Int) ≤ (k : Int) := by omega
      have hlt6 : decide (k < 6) = false := decide_eq_false (by omega)
      have hge6 : decide (6 ≤ k) = true := decide_eq_true (by omega)
      have hlz6 : decide ((k : Int) < 6) = false := decide_eq_false (by omega)
      have hgz6 : decide ((6 : Int) ≤ (k : Int)) = true := decide_eq_true (by omega)
      have hli6 : ¬ (k : Int) < 6 := by omega
      have hgi6 : (6 : Int) ≤ (k : Int) := by omega
      have hlt22 : decide (k < 22) = false := decide_eq_false (by omega)
      have hge22 : decide (22 ≤ k) = true := decide_eq_true (by omega)
      have hlz22 : decide ((k : Int) < 22) = false := decide_eq_false (by omega)
      have hgz22 : decide ((22 : Int) ≤ (k : Int)) = true := decide_eq_true (by omega)
      have hli22 : ¬ (k : Int) < 22 := by omega
      have hgi22 : (22 : Int) ≤ (k : Int) := by omega
      have hlt38 : decide (k < 38) = false := decide_eq_false (by omega)
      have hge38 : decide (38 ≤ k) = true := decide_eq_true (by omega)
      have hlz38 : decide ((k : Int) < 38) = false := decide_eq_false (by omega)
      have hgz38 : decide ((38 : Int) ≤ (k : Int)) = true := decide_eq_true (by omega)
      have hli38 : ¬ (k : Int) < 38 := by omega
      have hgi38 : (38 : Int) ≤ (k : Int) := by omega
      have hlt358 : decide (k < 358) = false := decide_eq_false (by omega)
      have hge358 : decide (358 ≤ k) = true := decide_eq_true (by omega)
      have hlz358 : decide ((k : Int) < 358) = false := decide_eq_false (by omega)
      have hgz358 : decide ((358 : Int) ≤ (k : Int)) = true := decide_eq_true (by omega)
      have hli358 : ¬ (k : Int) < 358 := by omega
      have hgi358 : (358 : Int) ≤ (k : Int) := by omega
      have H := hide (At.start w)
      go_enter Try.func8, Try.ntmps8
      simp only [List.append_eq, List.cons_append, List.nil_append]
      go_wp2_with (first
        | (with_reducible refine at_op (op := ⟨some 3, _, _, _, _, _⟩) ?_; (refine wpl_boxa (op := ⟨some 3, _, _, _, _, _⟩) rfl _ _ rfl (C) rfl ?_); intro g3 W1 hB1 hg1 hF1; replace H := hide (H.out.box hg1 hF1 hB1); clear hB1 hg1 hF1)
        | (go_at_call 12; with_reducible refine (hsh.out _).mono ?_; rintro e Wc ⟨rfl, hbc⟩; replace H := hide (H.out.call hbc); clear hbc)
        | (with_reducible refine at_op (op := ⟨some 13, _, _, _, _, _⟩) ?_; refine wpl_held (op := ⟨some 13, _, _, _, _, _⟩) (.agg (C).toArray) (held_loadf aggP _ rfl g3 rfl _ (C) (H.out.get 0 rfl) h610.out) rfl ?_)
        | (go_at_call 19; (with_reducible refine (hP.out _).mono ?_); rintro e Wc ⟨Ap, cp, rfl, hop, hbc⟩; rw [hpl.out] at hop ⊢; obtain ⟨gp, curp, rfl, hgp, hbp, hsp, htp, hcp⟩ := own_block hop (by decide); rw [← Array.toArray_toList (xs := curp)] at hbp; replace H := hide (H.out.box hgp (Frm.of_below hbc) hbp); have HTP : Hid ((curp.toList.drop 0).take 614 = cellsB PK) := (by show _ = _; rw [List.drop_zero]; exact htp); have HSP : Hid (614 ≤ curp.toList.length) := (by show _ ≤ _; rw [Array.length_toList]; exact hsp); have HCK : Hid (curp.toList[k]? = some (.int .u8 (x.toNat : Int))) := (by show _ = _; have h := take_at htp k hk6.out (by rw [hpl0.out]; exact hk6.out); rw [hx.out] at h; exact h); clear hbc hop hgp hbp htp hcp hsp)
        | (with_reducible refine at_op (op := ⟨some 27, _, _, _, _, _⟩) ?_; rw [hk.out])
        | (with_reducible refine at_op (op := ⟨some 28, _, _, _, _, _⟩) ?_; refine wpl_held (op := ⟨some 28, _, _, _, _, _⟩) (.int .u8 (x.toNat : Int)) (held_load1 Try.underlying5 rfl one8 _ rfl gp k rfl _ _ (.int .u8 (x.toNat : Int)) (H.out.get 1 rfl) HCK.out) rfl ?_)
        | (with_reducible refine at_op (op := ⟨none, .store _ (.tmp 31) _, _, _, _, _⟩) ?_; (refine wpl_store1 (op := ⟨none, _, _, _, _, _⟩) one8 rfl (.tmp 31) (.tmp 30) rfl gp k (.int .u8 (z.toNat : Int)) curp.toList (curp.toList.set k (.int .u8 (z.toNat : Int))) rfl rfl rfl _ (H.out.get 1 rfl) (by have := HSP.out; have := hk6.out; omega) rfl ?_); intro W1 hB1 hF1; replace H := hide (H.out.store 1 rfl hF1 hB1); clear hB1 hF1)
        | (go_at_call 20; (with_reducible refine (hU.out _ _ ((H.out.get 1 rfl).mid 0 614 Q (by rw [hQ.out]; exact take_set_cells HTP.out k z) hQl.out) cp).mono ?_); rintro e Wc ⟨rfl, hbc⟩; replace H := hide (H.out.call hbc); clear hbc)
        | ((with_reducible refine wpl_alloca (op := ⟨some 9, _, _, _, _, _⟩) rfl _ rfl _ zeroP ?_); intro g9 W1 hB1 hg1 hF1)
        | ((with_reducible refine wpl_storea aggP rfl (.tmp 9) (.tmp 35) rfl g9 (CQ) rfl rfl _ _ hB1 h610q.out pkt0_len (hQo.out) ?_); intro W2 hB2 hF2; replace H := hide (H.out.var hg1 hF1 hF2 hB2); clear hB1 hg1 hF1 hB2 hF2)
        | (with_reducible refine at_op (op := ⟨some 46, _, _, _, _, _⟩) ?_; refine wpl_held (op := ⟨some 46, _, _, _, _, _⟩) (.int .u16 (qw : Int)) (held_load1 Try.underlying25 rfl one16w _ rfl g9 0 rfl _ _ (.int .u16 (qw : Int)) (H.out.get 2 rfl) hq0.out) rfl ?_)
        | (with_reducible refine at_op (op := ⟨some 48, _, _, _, _, _⟩) ?_; refine wpl_held (op := ⟨some 48, _, _, _, _, _⟩) (.int .u16 (qw : Int)) (held_load1 Try.underlying25 rfl one16w _ rfl g3 0 rfl _ _ (.int .u16 (qw : Int)) (H.out.get 0 rfl) hp0.out) rfl ?_)
        | (with_reducible refine at_op (op := ⟨some 59, _, _, _, _, _⟩) ?_; refine wpl_held (op := ⟨some 59, _, _, _, _, _⟩) (.int .u32 (qe : Int)) (held_load1 Try.underlying26 rfl one32 _ rfl g9 1 rfl _ _ (.int .u32 (qe : Int)) (H.out.get 2 rfl) hq1.out) rfl ?_)
        | (with_reducible refine at_op (op := ⟨some 61, _, _, _, _, _⟩) ?_; refine wpl_held (op := ⟨some 61, _, _, _, _, _⟩) (.int .u32 (qe : Int)) (held_load1 Try.underlying26 rfl one32 _ rfl g3 1 rfl _ _ (.int .u32 (qe : Int)) (H.out.get 0 rfl) hp1.out) rfl ?_)
        | (with_reducible refine at_op (op := ⟨some 76, _, _, _, _, _⟩) ?_; refine wpl_held (op := ⟨some 76, _, _, _, _, _⟩) (.agg (cellsB qnonce).toArray) (held_loada aggN _ rfl g9 2 rfl _ (CQ) (cellsB qnonce) (H.out.get 2 rfl) hq_nonce.out (by rw [h610q.out]; decide)) rfl ?_)
        | (with_reducible refine at_op (op := ⟨some 78, _, _, _, _, _⟩) ?_; refine wpl_held (op := ⟨some 78, _, _, _, _, _⟩) (.agg (cellsB pnonce).toArray) (held_loada aggN _ rfl g3 2 rfl _ (C) (cellsB pnonce) (H.out.get 0 rfl) hp_nonce.out (by rw [h610.out]; decide)) rfl ?_)
        | (with_reducible refine at_op (op := ⟨some 79, _, _, _, _, _⟩) ?_; refine wpl_held (op := ⟨some 79, _, _, _, _, _⟩) (.bool (!true)) (held_neq _ _ _ _ rfl (cellsB qnonce) (cellsB pnonce) rfl rfl (true) (he_nonce.out _) Try.eqGuardType28) rfl ?_)
        | (with_reducible refine at_op (op := ⟨some 93, _, _, _, _, _⟩) ?_; refine wpl_held (op := ⟨some 93, _, _, _, _, _⟩) (.agg (cellsB qmac).toArray) (held_loada aggM _ rfl g9 18 rfl _ (CQ) (cellsB qmac) (H.out.get 2 rfl) hq_mac.out (by rw [h610q.out]; decide)) rfl ?_)
        | (with_reducible refine at_op (op := ⟨some 95, _, _, _, _, _⟩) ?_; refine wpl_held (op := ⟨some 95, _, _, _, _, _⟩) (.agg (cellsB pmac).toArray) (held_loada aggM _ rfl g3 18 rfl _ (C) (cellsB pmac) (H.out.get 0 rfl) hp_mac.out (by rw [h610.out]; decide)) rfl ?_)
        | (with_reducible refine at_op (op := ⟨some 96, _, _, _, _, _⟩) ?_; refine wpl_held (op := ⟨some 96, _, _, _, _, _⟩) (.bool (!true)) (held_neq _ _ _ _ rfl (cellsB qmac) (cellsB pmac) rfl rfl (true) (he_mac.out _) Try.eqGuardType29) rfl ?_)
        | (with_reducible refine at_op (op := ⟨some 110, _, _, _, _, _⟩) ?_; refine wpl_held (op := ⟨some 110, _, _, _, _, _⟩) (.agg (cellsB qhead).toArray) (held_loada agg320 _ rfl g9 34 rfl _ (CQ) (cellsB qhead) (H.out.get 2 rfl) hq_head.out (by rw [h610q.out]; decide)) rfl ?_)
        | (with_reducible refine at_op (op := ⟨some 112, _, _, _, _, _⟩) ?_; refine wpl_held (op := ⟨some 112, _, _, _, _, _⟩) (.agg (cellsB phead).toArray) (held_loada agg320 _ rfl g3 34 rfl _ (C) (cellsB phead) (H.out.get 0 rfl) hp_head.out (by rw [h610.out]; decide)) rfl ?_)
        | (with_reducible refine at_op (op := ⟨some 113, _, _, _, _, _⟩) ?_; refine wpl_held (op := ⟨some 113, _, _, _, _, _⟩) (.bool (!true)) (held_neq _ _ _ _ rfl (cellsB qhead) (cellsB phead) rfl rfl (true) (he_head.out _) Try.eqGuardType47) rfl ?_)
        | (with_reducible refine at_op (op := ⟨some 127, _, _, _, _, _⟩) ?_; refine wpl_held (op := ⟨some 127, _, _, _, _, _⟩) (.agg (cellsB qbody).toArray) (held_loada agg256 _ rfl g9 354 rfl _ (CQ) (cellsB qbody) (H.out.get 2 rfl) hq_body.out (by rw [h610q.out]; decide)) rfl ?_)
        | (with_reducible refine at_op (op := ⟨some 129, _, _, _, _, _⟩) ?_; refine wpl_held (op := ⟨some 129, _, _, _, _, _⟩) (.agg (cellsB pbody).toArray) (held_loada agg256 _ rfl g3 354 rfl _ (C) (cellsB pbody) (H.out.get 0 rfl) hp_body.out (by rw [h610.out]; decide)) rfl ?_)
        | (with_reducible refine at_op (op := ⟨some 130, _, _, _, _, _⟩) ?_; refine wpl_held (op := ⟨some 130, _, _, _, _, _⟩) (.bool (!false)) (held_neq _ _ _ _ rfl (cellsB qbody) (cellsB pbody) rfl rfl (false) (he_body.out _) Try.eqGuardType48) rfl ?_))
      go_ret
      exact ⟨rfl, H.out.bel⟩
end Go.Proofs.Ytedodbejbkdplaa
