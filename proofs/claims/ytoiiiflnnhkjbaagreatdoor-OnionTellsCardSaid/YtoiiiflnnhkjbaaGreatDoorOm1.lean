/-
  The document's onion: Text, derive, MAC, Of.
-/
import Derived.Test.YtoiiiflnnhkjbaaGreatDoorORC
import Derived.Test.YtoiiiflnnhkjbaaGreatDoorOnT
namespace Go.Proofs.YtoiiiflnnhkjbaaGreatDoor
set_option linter.unusedVariables false
set_option linter.unusedSimpArgs false
open Go.RowKit

set_option maxHeartbeats 2000000 in
theorem text11_any (n : Nat) (s : Nat) (w : World) (hs : s ≤ 8) (hn : n < 18446744073709551616) :
    Calls Tryz.prog 19 #[.int .u64 (n : Int), .int .i64 (s : Int)] w fun e w' => e = .returned (.string ⟨(be s n).toArray⟩) ∧ Below w.heap.size w w' := by
  go_enter Tryz.func19, Tryz.ntmps19
  go_wp2_with fail
  go_loopw [0, 5, 6] (fun x t i wr => ∃ k : Nat, k ≤ s ∧ i = .int .i64 k ∧ x = .int .u64 ((n / 256 ^ k : Nat) : Int) ∧ t = .string ⟨(be k n).toArray⟩ ∧ Below w.heap.size w wr) (fun _ _ i _ => s - (intOf i).toNat)
  case atStart => exact ⟨0, by omega, rfl, by simp, rfl, Below.refl _ _⟩
  case round =>
    obtain ⟨k, hk, rfl, rfl, rfl, hbel⟩ := hrel
    by_cases hlt : k < s
    · have HY : Hid (n / 256 ^ (k + 1) = n / 256 ^ k / 256) := by unfold Hid; rw [Nat.pow_succ, Nat.div_div_eq_div_mul]
      have HB := hide (be_succ k n)
      have hyl : n / 256 ^ k < 18446744073709551616 := Nat.lt_of_le_of_lt (Nat.div_le_self _ _) hn
      generalize n / 256 ^ k = y at *
      have hcv : Sem.run Tryz.prog (convert 46 9 (.slice (some ⟨wr.heap.size, 0, none⟩) 1 1)) (wr.alloc (.cells #[.int .u8 ((y : Int) % 256)] 5)) = .ok (.string ⟨#[UInt8.ofNat y]⟩) (wr.alloc (.cells #[.int .u8 ((y : Int) % 256)] 5)) := by
        refine conv_rds _ _ _ 5 Tryz.underlying46 Tryz.underlying5 Tryz.underlying9 _ 1 1 [UInt8.ofNat y] ?_
        have e : cellsB [UInt8.ofNat y] = [.int .u8 ((y : Int) % 256)] := by
          simp only [cellsB, List.map_cons, List.map_nil, UInt8.toNat_ofNat']
          rfl
        rw [e]
        exact Rds.new1 _ _ _
      have hap : ((⟨#[UInt8.ofNat y]⟩ : ByteArray) ++ ⟨(be k n).toArray⟩) = ⟨(be (k + 1) n).toArray⟩ := by
        rw [HB.out]
        exact txt_append [UInt8.ofNat y] (be k n)
      have hbl : (be k n).length = k := be_length _ _
      go_wp2
      go_roundw
      case rel => exact ⟨k + 1, by omega, by go_num, by rw [HY.out]; simp, rfl, hbel.alloc hbel.size _⟩
      case measure => simp [intOf]; omega
    · obtain rfl : k = s := by omega
      go_wp2
      go_ret
      exact ⟨rfl, hbel⟩
/-- The document's packet. -/
def rpktC (p : Pkt) : List Value := [strV (be 2 p.who), strV (be 4 p.epoch), strV p.nonce, strV p.mac, strV p.head, strV p.body]
theorem oneStr : (Tryz.prog.info? 9).map (·.size) = some 1 := by kernel_rfl
theorem rds_two (w : World) (u v : Value) (t : TypeId) : Rds (w.alloc (.cells #[u, v] t)) (some ⟨w.heap.size, 0, none⟩) 2 [u, v] := by
  refine ⟨rfl, fun _ => ⟨_, rfl, fun j x hx => ?_⟩⟩
  rw [addr_add, Nat.zero_add, (Blk.new w t #[u, v]).cell]
  simpa using hx

set_option maxHeartbeats 4000000 in
set_option maxRecDepth 100000 in
theorem rderive11_any (key lab : List UInt8) (ep : Nat) (nonce : List UInt8) (w : World) (hk : key.length ≤ 100000) (hl : lab.length ≤ 100) (hn : nonce.length = 16) :
    Calls Tryz.prog 38 #[.string ⟨key.toArray⟩, .string ⟨lab.toArray⟩, .string ⟨(be 4 ep).toArray⟩, .string ⟨nonce.toArray⟩] w fun e w' => e = .returned (.string ⟨(madeL key lab ep nonce).toArray⟩) ∧ Below w.heap.size w w' := by
  have HD := hide (fun (W : World) (hr : Rds W (some ⟨w.heap.size, 0, none⟩) 2 [strV (be 4 ep), strV nonce]) => rderive_any key lab (some ⟨w.heap.size, 0, none⟩) 2 [be 4 ep, nonce] W hr hk (by
    simp [measured, be_length, hn]; omega))
  have hml : deriveL key lab [be 4 ep, nonce] = madeL key lab ep nonce := rfl
  rw [hml] at HD
  have hlen : ([be 4 ep, nonce] : List (List UInt8)).length = 2 := rfl
  rw [hlen] at HD
  clear hml hlen
  have HR := hide (rds_two w (strV (be 4 ep)) (strV nonce) 9)
  have HB : Hid (Below w.heap.size w (w.alloc (.cells #[strV (be 4 ep), strV nonce] 9))) := (Frm.alloc w _ (fun _ => False)).below (Nat.le_refl _) (fun _ h => h.elim)
  obtain ⟨sk, hsk⟩ : ∃ s : ByteArray, s = ⟨key.toArray⟩ := ⟨_, rfl⟩
  obtain ⟨sl, hsl⟩ : ∃ s : ByteArray, s = ⟨lab.toArray⟩ := ⟨_, rfl⟩
  obtain ⟨se, hse⟩ : ∃ s : ByteArray, s = ⟨(be 4 ep).toArray⟩ := ⟨_, rfl⟩
  obtain ⟨sn, hsn⟩ : ∃ s : ByteArray, s = ⟨nonce.toArray⟩ := ⟨_, rfl⟩
  obtain ⟨sm, hsm⟩ : ∃ s : ByteArray, s = ⟨(madeL key lab ep nonce).toArray⟩ := ⟨_, rfl⟩
  have e1 : strV (be 4 ep) = .string se := by rw [hse]; rfl
  have e2 : strV nonce = .string sn := by rw [hsn]; rfl
  rw [e1, e2] at HD HR HB
  rw [← hsk, ← hsl, ← hsm] at HD
  rw [← hsk, ← hsl, ← hse, ← hsn, ← hsm]
  clear hsk hsl hse hsn hsm e1 e2 hk hl hn
  go_enter Tryz.func38, Tryz.ntmps38
  go_wp2_with (go_at_call 58; refine (HD.out _ HR.out).mono ?_; rintro e w1 ⟨rfl, hb⟩; have HB2 := hide (HB.out.trans (hb.mono HB.out.size)); clear hb)
  go_ret
  exact ⟨rfl, HB2.out⟩


set_option maxHeartbeats 16000000 in
set_option maxRecDepth 100000 in
theorem rmac11_any (key : List UInt8) (p : Pkt) (w : World) (hT : Tb w) (hk : key.length ≤ 100000) (hp : p.ok) :
    Calls Tryz.prog 14 #[.string ⟨key.toArray⟩, .agg (rpktC p).toArray] w fun e w' => e = .returned (.string ⟨(macO key p).toArray⟩) ∧ Below w.heap.size w w' := by
  have H := hide (OAt.start hT)
  have hdk : (madeL key macT p.epoch p.nonce).length ≤ 100000 := by rw [madeL_length]; omega
  have hml : (((((be 2 p.who ++ be 4 p.epoch) ++ p.nonce) ++ p.head) ++ p.body)).length ≤ 50000 := by
    simp [be_length, hp.nonce, hp.head, hp.body]
  have HD0 := hide (fun (W : World) => rderive11_any key macT p.epoch p.nonce W hk (by decide) hp.nonce)
  have HM0 := hide (fun (W : World) => rmac_any (madeL key macT p.epoch p.nonce) ((((be 2 p.who ++ be 4 p.epoch) ++ p.nonce) ++ p.head) ++ p.body) W hdk hml)
  have hmo : macO key p = (macL (madeL key macT p.epoch p.nonce) ((((be 2 p.who ++ be 4 p.epoch) ++ p.nonce) ++ p.head) ++ p.body)).take 16 := by
    unfold macO
    simp [List.append_assoc]
  obtain ⟨sk, hsk⟩ : ∃ s : ByteArray, s = ⟨key.toArray⟩ := ⟨_, rfl⟩
  obtain ⟨sw, hsw⟩ : ∃ s : ByteArray, s = ⟨(be 2 p.who).toArray⟩ := ⟨_, rfl⟩
  obtain ⟨se, hse⟩ : ∃ s : ByteArray, s = ⟨(be 4 p.epoch).toArray⟩ := ⟨_, rfl⟩
  obtain ⟨sn, hsn⟩ : ∃ s : ByteArray, s = ⟨p.nonce.toArray⟩ := ⟨_, rfl⟩
  obtain ⟨sm, hsm⟩ : ∃ s : ByteArray, s = ⟨p.mac.toArray⟩ := ⟨_, rfl⟩
  obtain ⟨sh, hsh⟩ : ∃ s : ByteArray, s = ⟨p.head.toArray⟩ := ⟨_, rfl⟩
  obtain ⟨sb, hsb⟩ : ∃ s : ByteArray, s = ⟨p.body.toArray⟩ := ⟨_, rfl⟩
  obtain ⟨sd, hsd⟩ : ∃ s : ByteArray, s = ⟨(madeL key macT p.epoch p.nonce).toArray⟩ := ⟨_, rfl⟩
  obtain ⟨sr, hsr⟩ : ∃ s : ByteArray, s = ⟨(macL (madeL key macT p.epoch p.nonce) ((((be 2 p.who ++ be 4 p.epoch) ++ p.nonce) ++ p.head) ++ p.body)).toArray⟩ := ⟨_, rfl⟩
  obtain ⟨so, hso⟩ : ∃ s : ByteArray, s = ⟨(macO key p).toArray⟩ := ⟨_, rfl⟩
  obtain ⟨s1, h1⟩ : ∃ s : ByteArray, s = ⟨(be 2 p.who ++ be 4 p.epoch).toArray⟩ := ⟨_, rfl⟩
  obtain ⟨s2, h2⟩ : ∃ s : ByteArray, s = ⟨((be 2 p.who ++ be 4 p.epoch) ++ p.nonce).toArray⟩ := ⟨_, rfl⟩
  obtain ⟨s3, h3⟩ : ∃ s : ByteArray, s = ⟨(((be 2 p.who ++ be 4 p.epoch) ++ p.nonce) ++ p.head).toArray⟩ := ⟨_, rfl⟩
  obtain ⟨s4, h4⟩ : ∃ s : ByteArray, s = ⟨((((be 2 p.who ++ be 4 p.epoch) ++ p.nonce) ++ p.head) ++ p.body).toArray⟩ := ⟨_, rfl⟩
  have a1 : sw ++ se = s1 := by rw [hsw, hse, h1, txt_append]
  have a2 : s1 ++ sn = s2 := by rw [h1, hsn, h2, txt_append]
  have a3 : s2 ++ sh = s3 := by rw [h2, hsh, h3, txt_append]
  have a4 : s3 ++ sb = s4 := by rw [h3, hsb, h4, txt_append]
  have zw : sw.size = 2 := by rw [hsw, txt_size, be_length]
  have ze : se.size = 4 := by rw [hse, txt_size, be_length]
  have zn : sn.size = 16 := by rw [hsn, txt_size, hp.nonce]
  have zh : sh.size = 320 := by rw [hsh, txt_size, hp.head]
  have zb : sb.size = 256 := by rw [hsb, txt_size, hp.body]
  have z1 : s1.size = 6 := by rw [h1, txt_size]; simp [be_length]
  have z2 : s2.size = 22 := by rw [h2, txt_size]; simp [be_length, hp.nonce]
  have z3 : s3.size = 342 := by rw [h3, txt_size]; simp [be_length, hp.nonce, hp.head]
  rw [← h4] at HM0
  have zr : sr.size = 32 := by rw [hsr, txt_size, macL_length]
  have exr : sr.extract 0 16 = so := by rw [hsr, hso, hmo, extract_mk, List.drop_zero]
  clear h1 h2 h3 h4
  rw [← hsk, ← hse, ← hsn, ← hsd] at HD0
  rw [← hsd, ← hsr] at HM0
  rw [← hsk, ← hso]
  obtain ⟨rc, hrc⟩ : ∃ c, c = rpktC p := ⟨_, rfl⟩
  have hrc2 : rc = [.string sw, .string se, .string sn, .string sm, .string sh, .string sb] := by rw [hrc, hsw, hse, hsn, hsm, hsh, hsb]; rfl
  rw [← hrc]
  have c0 : Hid (rc[0]? = some (.string sw)) := by show _ = _; rw [hrc2]; rfl
  have c1 : Hid (rc[1]? = some (.string se)) := by show _ = _; rw [hrc2]; rfl
  have c2 : Hid (rc[2]? = some (.string sn)) := by show _ = _; rw [hrc2]; rfl
  have c4 : Hid (rc[4]? = some (.string sh)) := by show _ = _; rw [hrc2]; rfl
  have c5 : Hid (rc[5]? = some (.string sb)) := by show _ = _; rw [hrc2]; rfl
  clear hrc hrc2 hmo hsk hsw hse hsn hsm hsh hsb hsd hsr hso hdk hml hk hp hT
  go_enter Tryz.func14, Tryz.ntmps14
  go_wp2_with (first
    | (with_reducible refine at_op (op := ⟨some 3, _, _, _, _, _⟩) ?_; (refine wpl_boxa (op := ⟨some 3, _, _, _, _, _⟩) rfl _ _ rfl (rc) rfl ?_); intro g3 W1 hB1 hg1 hF1; replace H := hide (H.out.box hg1 hF1 hB1); clear hB1 hg1 hF1))
  obtain ⟨N, hN⟩ : ∃ N, N = W1.heap.size := ⟨_, rfl⟩
  have hq : Below N W1 W1 := hN ▸ Below.refl _ _
  have HA := hide (fun W' (h : Below N W1 W') => H.out.call (hN ▸ h))
  have HC := hide (fun W' (h : Below N W1 W') W'' (k : Below W'.heap.size W' W'') => h.trans (k.mono (by rw [hN]; exact h.size)))
  have hqd : ∀ W', Below N W1 W' → Calls Tryz.prog 38 #[.string sk, .string ⟨macT.toArray⟩, .string se, .string sn] W' (fun e w'' => e = .returned (.string sd) ∧ Below N W1 w'') := fun W' h => (HD0.out W').mono (fun e w'' ⟨he, hb⟩ => ⟨he, HC.out W' h w'' hb⟩)
  have hqm : ∀ W', Below N W1 W' → Calls Tryz.prog 39 #[.string sd, .string s4] W' (fun e w'' => e = .returned (.string sr) ∧ Below N W1 w'') := fun W' h => (HM0.out W').mono (fun e w'' ⟨he, hb⟩ => ⟨he, HC.out W' h w'' hb⟩)
  clear hN
  refine wp_region_class (fun W' => Below N W1 W') (by kernel_rfl) (by kernel_rfl) (below_drewN hq 1) ?_
  iterate 2 (with_reducible refine wpQuiet_step ?_; intro K hK; go_simp; first | (refine hK _ ?_; clear hK K) | (refine ⟨_, fun w' hw' => rfl, hK _ ?_⟩; clear hK K))
  with_reducible refine wpQuiet_step ?_
  intro K hK
  refine quiet_val (.string se) (fun w' hw' => held_load1 Tryz.underlying9 rfl oneStr _ rfl g3 1 rfl _ _ (.string se) ((HA.out w' hw').get 0 rfl) c1.out) ?_ rfl
  go_simp
  refine hK _ ?_
  clear hK K
  with_reducible refine wpQuiet_step ?_; intro K hK; go_simp; first | (refine hK _ ?_; clear hK K) | (refine ⟨_, fun w' hw' => rfl, hK _ ?_⟩; clear hK K)
  with_reducible refine wpQuiet_step ?_
  intro K hK
  refine quiet_val (.string sn) (fun w' hw' => held_load1 Tryz.underlying9 rfl oneStr _ rfl g3 2 rfl _ _ (.string sn) ((HA.out w' hw').get 0 rfl) c2.out) ?_ rfl
  go_simp
  refine hK _ ?_
  clear hK K
  with_reducible refine wpQuiet_step ?_
  intro K hK
  go_simp
  refine ⟨_, hqd, hK _ ?_⟩
  clear hK K
  with_reducible refine wpQuiet_step ?_; intro K hK; go_simp; first | (refine hK _ ?_; clear hK K) | (refine ⟨_, fun w' hw' => rfl, hK _ ?_⟩; clear hK K)
  with_reducible refine wpQuiet_step ?_
  intro K hK
  refine quiet_val (.string sw) (fun w' hw' => held_load1 Tryz.underlying9 rfl oneStr _ rfl g3 0 rfl _ _ (.string sw) ((HA.out w' hw').get 0 rfl) c0.out) ?_ rfl
  go_simp
  refine hK _ ?_
  clear hK K
  with_reducible refine wpQuiet_step ?_; intro K hK; go_simp; first | (refine hK _ ?_; clear hK K) | (refine ⟨_, fun w' hw' => rfl, hK _ ?_⟩; clear hK K)
  with_reducible refine wpQuiet_step ?_
  intro K hK
  refine quiet_val (.string se) (fun w' hw' => held_load1 Tryz.underlying9 rfl oneStr _ rfl g3 1 rfl _ _ (.string se) ((HA.out w' hw').get 0 rfl) c1.out) ?_ rfl
  go_simp
  refine hK _ ?_
  clear hK K
  iterate 2 (with_reducible refine wpQuiet_step ?_; intro K hK; go_simp; first | (refine hK _ ?_; clear hK K) | (refine ⟨_, fun w' hw' => rfl, hK _ ?_⟩; clear hK K))
  with_reducible refine wpQuiet_step ?_
  intro K hK
  refine quiet_val (.string sn) (fun w' hw' => held_load1 Tryz.underlying9 rfl oneStr _ rfl g3 2 rfl _ _ (.string sn) ((HA.out w' hw').get 0 rfl) c2.out) ?_ rfl
  go_simp
  refine hK _ ?_
  clear hK K
  iterate 2 (with_reducible refine wpQuiet_step ?_; intro K hK; go_simp; first | (refine hK _ ?_; clear hK K) | (refine ⟨_, fun w' hw' => rfl, hK _ ?_⟩; clear hK K))
  with_reducible refine wpQuiet_step ?_
  intro K hK
  refine quiet_val (.string sh) (fun w' hw' => held_load1 Tryz.underlying9 rfl oneStr _ rfl g3 4 rfl _ _ (.string sh) ((HA.out w' hw').get 0 rfl) c4.out) ?_ rfl
  go_simp
  refine hK _ ?_
  clear hK K
  iterate 2 (with_reducible refine wpQuiet_step ?_; intro K hK; go_simp; first | (refine hK _ ?_; clear hK K) | (refine ⟨_, fun w' hw' => rfl, hK _ ?_⟩; clear hK K))
  with_reducible refine wpQuiet_step ?_
  intro K hK
  refine quiet_val (.string sb) (fun w' hw' => held_load1 Tryz.underlying9 rfl oneStr _ rfl g3 5 rfl _ _ (.string sb) ((HA.out w' hw').get 0 rfl) c5.out) ?_ rfl
  go_simp
  refine hK _ ?_
  clear hK K
  with_reducible refine wpQuiet_step ?_; intro K hK; go_simp; first | (refine hK _ ?_; clear hK K) | (refine ⟨_, fun w' hw' => rfl, hK _ ?_⟩; clear hK K)
  with_reducible refine wpQuiet_step ?_
  intro K hK
  go_simp
  refine ⟨_, hqm, hK _ ?_⟩
  clear hK K
  iterate 2 (with_reducible refine wpQuiet_step ?_; intro K hK; go_simp; first | (refine hK _ ?_; clear hK K) | (refine ⟨_, fun w' hw' => rfl, hK _ ?_⟩; clear hK K))
  refine wpQuiet_nil ?_
  clear hq
  intro wq hwq
  replace H := hide (HA.out wq hwq)
  clear HA HC hwq
  go_wp2_with fail
  go_ret
  exact ⟨rfl, H.out.bel⟩
end Go.Proofs.YtoiiiflnnhkjbaaGreatDoor
