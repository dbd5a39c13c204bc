/-
  What the document's Build needs.
-/
import Derived.Test.YtoiiiflnnhkjbaaGreatDoorOnU4
namespace Go.Proofs.YtoiiiflnnhkjbaaGreatDoor
set_option linter.unusedVariables false
set_option linter.unusedSimpArgs false
open Go.RowKit

/-- One cell, seen at its place. -/
theorem held_loadc1 {P : Program} {ty : TypeId} {d : TypeDesc} (hu : P.underlying ty = some d) (hd : isAggD d = false) {o : Oper} {a : Act} {w : World} (x : Operand) (ho : o.op = .load ty x) (ad : Addr) (hx : a.eval x = .pointer (some ad)) (v : Value) (hc : w.cell? ad = some v) :
    (execOp a.eval o).run P w = .ok (.value v) w := by
  have hagg : (isAgg ty).run P w = .ok false w := by
    unfold isAgg
    rw [Sem.run_bind, run_underlying hu w]
    cases d <;> simp_all [isAggD]
  unfold execOp
  simp [ho, hx, Instr.loadAt, Instr.sureAddr, loadVar, hagg, run_load, hc]
theorem rhop0_len : rhop0.toArray.size = 23 := rfl
theorem XRow.hopAt {w : World} {g n : Nat} {hs : List HopL} (h : XRow w (some ⟨g, 0, none⟩) n hs) {k : Nat} (hk : k < n) {W : World} (hb : Below w.heap.size w W) : ∀ q u, (rhopC (hs.getD k hop0))[q]? = some u → W.cell? ((⟨g, k * 23, none⟩ : Addr).add q) = some u := by
  intro q u hu
  rw [addr_add]
  exact h.at0 hk hu hb
theorem XRow.nonce0 {w : World} {g n : Nat} {hs : List HopL} (h : XRow w (some ⟨g, 0, none⟩) n hs) {k : Nat} (hk : k < n) {W : World} (hb : Below w.heap.size w W) : ∀ q u, (cellsB (hs.getD k hop0).nonce)[q]? = some u → W.cell? ((⟨g, k * 23 + 4, none⟩ : Addr).add q) = some u := by
  intro q u hu
  obtain ⟨a, ha, hc⟩ := (h.rnonce hk hb).2 (by decide)
  injection ha with ha
  subst ha
  exact hc q u hu
/-- What the document's Build begins with. -/
def rp0 (body : List UInt8) : List Value := [.string ⟨#[]⟩, .string ⟨#[]⟩, .string ⟨#[]⟩, .string ⟨#[]⟩, .string ⟨#[]⟩, strV body]
theorem build_rp0 (s : ByteArray) (w : World) : Sem.run Tryz.prog (Instr.build 41 #[(5, .string s)]) w = .ok (.agg [.string ⟨#[]⟩, .string ⟨#[]⟩, .string ⟨#[]⟩, .string ⟨#[]⟩, .string ⟨#[]⟩, .string s].toArray) w := run_build w _ _ _ (by kernel_rfl)
theorem build_rp5 (s0 s1 s2 s4 s5 : ByteArray) (w : World) : Sem.run Tryz.prog (Instr.build 41 #[(0, .string s0), (1, .string s1), (2, .string s2), (4, .string s4), (5, .string s5)]) w = .ok (.agg [.string s0, .string s1, .string s2, .string ⟨#[]⟩, .string s4, .string s5].toArray) w := run_build w _ _ _ (by kernel_rfl)
theorem build_lhd (lo hi delay : Nat) (w : World) : Sem.run Tryz.prog (Instr.build 51 #[(7, .int .u64 (lo : Int)), (8, .int .u64 (hi : Int)), (9, .int .u32 (delay : Int))]) w = .ok (.agg (slotC ⟨false, 0, 0, 0, 0, Z16, Z16, lo, hi, delay⟩).toArray) w := run_build w _ _ _ (by kernel_rfl)
/-- The document's packet that has been made of the hops from the k-th on. -/
def rpc (hs : List HopL) (box : Nat) (body : List UInt8) (k : Nat) : List Value := if k = hs.length then rp0 body else rpktC (pktAt hs box body k)
theorem rpc_end (hs : List HopL) (box : Nat) (body : List UInt8) : rpc hs box body hs.length = rp0 body := if_pos rfl
theorem rpc_at (hs : List HopL) (box : Nat) (body : List UInt8) {k : Nat} (h : k < hs.length) : rpc hs box body k = rpktC (pktAt hs box body k) := if_neg (by omega)
theorem rpc_len (hs : List HopL) (box : Nat) (body : List UInt8) (k : Nat) : (rpc hs box body k).length = 6 := by
  unfold rpc
  split <;> rfl
theorem rpc_one (hs : List HopL) (box : Nat) (body : List UInt8) (k : Nat) : ∀ u ∈ rpc hs box body k, u.oneCell' = true := by
  unfold rpc
  split
  · intro u hu
    simp only [rp0, List.mem_cons, List.not_mem_nil, or_false] at hu
    rcases hu with rfl | rfl | rfl | rfl | rfl | rfl <;> rfl
  · exact rpktC_one _
theorem rpc_body (hs : List HopL) (box : Nat) (body : List UInt8) {k : Nat} (h : k ≤ hs.length) : (rpc hs box body k)[5]? = some (strV (pktAt hs box body k).body) := by
  unfold rpc
  split
  · rename_i hk
    rw [hk, pktAt_last]; rfl
  · rfl
/-- The slot that the last hop sees. -/
theorem slotAt_last (hs : List HopL) (box : Nat) (body : List UInt8) {j : Nat} (h : j + 1 = hs.length) : slotAt hs box body j = ⟨true, 0, box, 0, 0, Z16, Z16, (hs.getD j hop0).lo, (hs.getD j hop0).hi, (hs.getD j hop0).delay⟩ := by
  unfold slotAt
  rw [h, List.drop_length]
  rfl
/-- The slot that an inner hop sees. -/
theorem slotAt_inner (hs : List HopL) (box : Nat) (body : List UInt8) {j : Nat} (h : j + 1 < hs.length) : slotAt hs box body j = ⟨false, (hs.getD (j + 1) hop0).addr, 0, (hs.getD (j + 1) hop0).who, (hs.getD (j + 1) hop0).epoch, (hs.getD (j + 1) hop0).nonce, (pktAt hs box body (j + 1)).mac, (hs.getD j hop0).lo, (hs.getD j hop0).hi, (hs.getD j hop0).delay⟩ := by
  have e : (bldR (initB (leftH hs hs.length) body box) (hs.drop (j + 1))).2 = ofHop (hs.getD (j + 1) hop0) (bldR (initB (leftH hs hs.length) body box) (hs.drop (j + 1))).1.mac := by
    rw [getD_drop h]
    rfl
  unfold slotAt pktAt
  rw [e]
  rfl
theorem slotAt_right {hs : List HopL} (hok : ∀ x ∈ hs, x.lo ≤ x.hi) (box : Nat) (body : List UInt8) {j : Nat} (h : j < hs.length) : rightM (slotAt hs box body j) :=
  inSlot_right (hok _ (hop_mem h)) (bld_kind _ _ _ _).1
/-- What Build tells, of texts. -/
def rbuildC (hs : List HopL) (box : Nat) (body : List UInt8) : List Value := if rightH hs = true then rpktC (buildP hs box body) else rz
theorem rightH_of {hs : List HopL} (h1 : 1 ≤ hs.length) (h5 : hs.length ≤ 5) (h : ∀ j, j < hs.length → (hs.getD j hop0).lo ≤ (hs.getD j hop0).hi) : rightH hs = true := by
  unfold rightH
  rw [Bool.and_eq_true]
  refine ⟨decide_eq_true ⟨h1, h5⟩, ?_⟩
  rw [List.all_eq_true]
  intro x hx
  obtain ⟨j, hj, rfl⟩ := List.getElem_of_mem hx
  have := h j hj
  rw [List.getD_eq_getElem?_getD, List.getElem?_eq_getElem hj] at this
  exact decide_eq_true this
theorem rightH_not {hs : List HopL} {j : Nat} (hj : j < hs.length) (h : ¬ (hs.getD j hop0).lo ≤ (hs.getD j hop0).hi) : rightH hs = false := by
  rw [Bool.eq_false_iff]
  intro hr
  exact h ((rightH_iff hr).2.2 _ (hop_mem hj))
theorem rightH_size {hs : List HopL} (h : ¬ (1 ≤ hs.length ∧ hs.length ≤ 5)) : rightH hs = false := by
  rw [rightH, decide_eq_false h, Bool.false_and]
theorem wrapL_mac (h : HopL) (s : Slot) (p : Pkt) : wrapL h s p = { wrapP h s p with mac := macO h.key (wrapP h s p) } := rfl

set_option maxHeartbeats 16000000 in
set_option maxRecDepth 100000 in
theorem rmac11m_any (key : List UInt8) (p : Pkt) (m : List UInt8) (w : World) (hT : Tb w) (hk : key.length ≤ 100000) (hp : p.ok) :
    Calls Tryz.prog 14 #[.string ⟨key.toArray⟩, .agg (rpktC { p with mac := m }).toArray] w fun e w' => e = .returned (.string ⟨(macO key p).toArray⟩) ∧ Below w.heap.size w w' := by
  have H := hide (OAt.start hT)
  have hdk : (madeL key macT p.epoch p.nonce).length ≤ 100000 := by rw [madeL_length]; omega
  have hml : (((((be 2 p.who ++ be 4 p.epoch) ++ p.nonce) ++ p.head) ++ p.body)).length ≤ 50000 := by
    simp [be_length, hp.nonce, hp.head, hp.body]
  have HD0 := hide (fun (W : World) => rderive11_any key macT p.epoch p.nonce W hk (by decide) hp.nonce)
  have HM0 := hide (fun (W : World) => rmac_any (madeL key macT p.epoch p.nonce) ((((be 2 p.who ++ be 4 p.epoch) ++ p.nonce) ++ p.head) ++ p.body) W hdk hml)
  have hmo : macO key p = (macL (madeL key macT p.epoch p.nonce) ((((be 2 p.who ++ be 4 p.epoch) ++ p.nonce) ++ p.head) ++ p.body)).take 16 := by
    unfold macO
    simp [List.append_assoc]
  obtain ⟨sk, hsk⟩ : ∃ s : ByteArray, s = ⟨key.toArray⟩ := ⟨_, rfl⟩
  obtain ⟨sw, hsw⟩ : ∃ s : ByteArray, s = ⟨(be 2 p.who).toArray⟩ := ⟨_, rfl⟩
  obtain ⟨se, hse⟩ : ∃ s : ByteArray, s = ⟨(be 4 p.epoch).toArray⟩ := ⟨_, rfl⟩
  obtain ⟨sn, hsn⟩ : ∃ s : ByteArray, s = ⟨p.nonce.toArray⟩ := ⟨_, rfl⟩
  obtain ⟨sm, hsm⟩ : ∃ s : ByteArray, s = ⟨m.toArray⟩ := ⟨_, rfl⟩
  obtain ⟨sh, hsh⟩ : ∃ s : ByteArray, s = ⟨p.head.toArray⟩ := ⟨_, rfl⟩
  obtain ⟨sb, hsb⟩ : ∃ s : ByteArray, s = ⟨p.body.toArray⟩ := ⟨_, rfl⟩
  obtain ⟨sd, hsd⟩ : ∃ s : ByteArray, s = ⟨(madeL key macT p.epoch p.nonce).toArray⟩ := ⟨_, rfl⟩
  obtain ⟨sr, hsr⟩ : ∃ s : ByteArray, s = ⟨(macL (madeL key macT p.epoch p.nonce) ((((be 2 p.who ++ be 4 p.epoch) ++ p.nonce) ++ p.head) ++ p.body)).toArray⟩ := ⟨_, rfl⟩
  obtain ⟨so, hso⟩ : ∃ s : ByteArray, s = ⟨(macO key p).toArray⟩ := ⟨_, rfl⟩
  obtain ⟨s1, h1⟩ : ∃ s : ByteArray, s = ⟨(be 2 p.who ++ be 4 p.epoch).toArray⟩ := ⟨_, rfl⟩
  obtain ⟨s2, h2⟩ : ∃ s : ByteArray, s = ⟨((be 2 p.who ++ be 4 p.epoch) ++ p.nonce).toArray⟩ := ⟨_, rfl⟩
  obtain ⟨s3, h3⟩ : ∃ s : ByteArray, s = ⟨(((be 2 p.who ++ be 4 p.epoch) ++ p.nonce) ++ p.head).toArray⟩ := ⟨_, rfl⟩
  obtain ⟨s4, h4⟩ : ∃ s : ByteArray, s = ⟨((((be 2 p.who ++ be 4 p.epoch) ++ p.nonce) ++ p.head) ++ p.body).toArray⟩ := ⟨_, rfl⟩
  have a1 : sw ++ se = s1 := by rw [hsw, hse, h1, txt_append]
  have a2 : s1 ++ sn = s2 := by rw [h1, hsn, h2, txt_append]
  have a3 : s2 ++ sh = s3 := by rw [h2, hsh, h3, txt_append]
  have a4 : s3 ++ sb = s4 := by rw [h3, hsb, h4, txt_append]
  have zw : sw.size = 2 := by rw [hsw, txt_size, be_length]
  have ze : se.size = 4 := by rw [hse, txt_size, be_length]
  have zn : sn.size = 16 := by rw [hsn, txt_size, hp.nonce]
  have zh : sh.size = 320 := by rw [hsh, txt_size, hp.head]
  have zb : sb.size = 256 := by rw [hsb, txt_size, hp.body]
  have z1 : s1.size = 6 := by rw [h1, txt_size]; simp [be_length]
  have z2 : s2.size = 22 := by rw [h2, txt_size]; simp [be_length, hp.nonce]
  have z3 : s3.size = 342 := by rw [h3, txt_size]; simp [be_length, hp.nonce, hp.head]
  rw [← h4] at HM0
  have zr : sr.size = 32 := by rw [hsr, txt_size, macL_length]
  have exr : sr.extract 0 16 = so := by rw [hsr, hso, hmo, extract_mk, List.drop_zero]
  clear h1 h2 h3 h4
  rw [← hsk, ← hse, ← hsn, ← hsd] at HD0
  rw [← hsd, ← hsr] at HM0
  rw [← hsk, ← hso]
  obtain ⟨rc, hrc⟩ : ∃ c, c = rpktC { p with mac := m } := ⟨_, rfl⟩
  have hrc2 : rc = [.string sw, .string se, .string sn, .string sm, .string sh, .string sb] := by rw [hrc, hsw, hse, hsn, hsm, hsh, hsb]; rfl
  rw [← hrc]
  have c0 : Hid (rc[0]? = some (.string sw)) := by show _ = _; rw [hrc2]; rfl
  have c1 : Hid (rc[1]? = some (.string se)) := by show _ = _; rw [hrc2]; rfl
  have c2 : Hid (rc[2]? = some (.string sn)) := by show _ = _; rw [hrc2]; rfl
  have c4 : Hid (rc[4]? = some (.string sh)) := by show _ = _; rw [hrc2]; rfl
  have c5 : Hid (rc[5]? = some (.string sb)) := by show _ = _; rw [hrc2]; rfl
  clear hrc hrc2 hmo hsk hsw hse hsn hsm hsh hsb hsd hsr hso hdk hml hk hp hT
  go_enter Tryz.func14, Tryz.ntmps14
  go_wp2_with (first
    | (with_reducible refine at_op (op := ⟨some 3, _, _, _, _, _⟩) ?_; (refine wpl_boxa (op := ⟨some 3, _, _, _, _, _⟩) rfl _ _ rfl (rc) rfl ?_); intro g3 W1 hB1 hg1 hF1; replace H := hide (H.out.box hg1 hF1 hB1); clear hB1 hg1 hF1))
  obtain ⟨N, hN⟩ : ∃ N, N = W1.heap.size := ⟨_, rfl⟩
  have hq : Below N W1 W1 := hN ▸ Below.refl _ _
  have HA := hide (fun W' (h : Below N W1 W') => H.out.call (hN ▸ h))
  have HC := hide (fun W' (h : Below N W1 W') W'' (k : Below W'.heap.size W' W'') => h.trans (k.mono (by rw [hN]; exact h.size)))
  have hqd : ∀ W', Below N W1 W' → Calls Tryz.prog 38 #[.string sk, .string ⟨macT.toArray⟩, .string se, .string sn] W' (fun e w'' => e = .returned (.string sd) ∧ Below N W1 w'') := fun W' h => (HD0.out W').mono (fun e w'' ⟨he, hb⟩ => ⟨he, HC.out W' h w'' hb⟩)
  have hqm : ∀ W', Below N W1 W' → Calls Tryz.prog 39 #[.string sd, .string s4] W' (fun e w'' => e = .returned (.string sr) ∧ Below N W1 w'') := fun W' h => (HM0.out W').mono (fun e w'' ⟨he, hb⟩ => ⟨he, HC.out W' h w'' hb⟩)
  clear hN
  refine wp_region_class (fun W' => Below N W1 W') (by kernel_rfl) (by kernel_rfl) (below_drewN hq 1) ?_
  iterate 2 (with_reducible refine wpQuiet_step ?_; intro K hK; go_simp; first | (refine hK _ ?_; clear hK K) | (refine ⟨_, fun w' hw' => rfl, hK _ ?_⟩; clear hK K))
  with_reducible refine wpQuiet_step ?_
  intro K hK
  refine quiet_val (.string se) (fun w' hw' => held_load1 Tryz.underlying9 rfl oneStr _ rfl g3 1 rfl _ _ (.string se) ((HA.out w' hw').get 0 rfl) c1.out) ?_ rfl
  go_simp
  refine hK _ ?_
  clear hK K
  with_reducible refine wpQuiet_step ?_; intro K hK; go_simp; first | (refine hK _ ?_; clear hK K) | (refine ⟨_, fun w' hw' => rfl, hK _ ?_⟩; clear hK K)
  with_reducible refine wpQuiet_step ?_
  intro K hK
  refine quiet_val (.string sn) (fun w' hw' => held_load1 Tryz.underlying9 rfl oneStr _ rfl g3 2 rfl _ _ (.string sn) ((HA.out w' hw').get 0 rfl) c2.out) ?_ rfl
  go_simp
  refine hK _ ?_
  clear hK K
  with_reducible refine wpQuiet_step ?_
  intro K hK
  go_simp
  refine ⟨_, hqd, hK _ ?_⟩
  clear hK K
  with_reducible refine wpQuiet_step ?_; intro K hK; go_simp; first | (refine hK _ ?_; clear hK K) | (refine ⟨_, fun w' hw' => rfl, hK _ ?_⟩; clear hK K)
  with_reducible refine wpQuiet_step ?_
  intro K hK
  refine quiet_val (.string sw) (fun w' hw' => held_load1 Tryz.underlying9 rfl oneStr _ rfl g3 0 rfl _ _ (.string sw) ((HA.out w' hw').get 0 rfl) c0.out) ?_ rfl
  go_simp
  refine hK _ ?_
  clear hK K
  with_reducible refine wpQuiet_step ?_; intro K hK; go_simp; first | (refine hK _ ?_; clear hK K) | (refine ⟨_, fun w' hw' => rfl, hK _ ?_⟩; clear hK K)
  with_reducible refine wpQuiet_step ?_
  intro K hK
  refine quiet_val (.string se) (fun w' hw' => held_load1 Tryz.underlying9 rfl oneStr _ rfl g3 1 rfl _ _ (.string se) ((HA.out w' hw').get 0 rfl) c1.out) ?_ rfl
  go_simp
  refine hK _ ?_
  clear hK K
  iterate 2 (with_reducible refine wpQuiet_step ?_; intro K hK; go_simp; first | (refine hK _ ?_; clear hK K) | (refine ⟨_, fun w' hw' => rfl, hK _ ?_⟩; clear hK K))
  with_reducible refine wpQuiet_step ?_
  intro K hK
  refine quiet_val (.string sn) (fun w' hw' => held_load1 Tryz.underlying9 rfl oneStr _ rfl g3 2 rfl _ _ (.string sn) ((HA.out w' hw').get 0 rfl) c2.out) ?_ rfl
  go_simp
  refine hK _ ?_
  clear hK K
  iterate 2 (with_reducible refine wpQuiet_step ?_; intro K hK; go_simp; first | (refine hK _ ?_; clear hK K) | (refine ⟨_, fun w' hw' => rfl, hK _ ?_⟩; clear hK K))
  with_reducible refine wpQuiet_step ?_
  intro K hK
  refine quiet_val (.string sh) (fun w' hw' => held_load1 Tryz.underlying9 rfl oneStr _ rfl g3 4 rfl _ _ (.string sh) ((HA.out w' hw').get 0 rfl) c4.out) ?_ rfl
  go_simp
  refine hK _ ?_
  clear hK K
  iterate 2 (with_reducible refine wpQuiet_step ?_; intro K hK; go_simp; first | (refine hK _ ?_; clear hK K) | (refine ⟨_, fun w' hw' => rfl, hK _ ?_⟩; clear hK K))
  with_reducible refine wpQuiet_step ?_
  intro K hK
  refine quiet_val (.string sb) (fun w' hw' => held_load1 Tryz.underlying9 rfl oneStr _ rfl g3 5 rfl _ _ (.string sb) ((HA.out w' hw').get 0 rfl) c5.out) ?_ rfl
  go_simp
  refine hK _ ?_
  clear hK K
  with_reducible refine wpQuiet_step ?_; intro K hK; go_simp; first | (refine hK _ ?_; clear hK K) | (refine ⟨_, fun w' hw' => rfl, hK _ ?_⟩; clear hK K)
  with_reducible refine wpQuiet_step ?_
  intro K hK
  go_simp
  refine ⟨_, hqm, hK _ ?_⟩
  clear hK K
  iterate 2 (with_reducible refine wpQuiet_step ?_; intro K hK; go_simp; first | (refine hK _ ?_; clear hK K) | (refine ⟨_, fun w' hw' => rfl, hK _ ?_⟩; clear hK K))
  refine wpQuiet_nil ?_
  clear hq
  intro wq hwq
  replace H := hide (HA.out wq hwq)
  clear HA HC hwq
  go_wp2_with fail
  go_ret
  exact ⟨rfl, H.out.bel⟩
end Go.Proofs.YtoiiiflnnhkjbaaGreatDoor
