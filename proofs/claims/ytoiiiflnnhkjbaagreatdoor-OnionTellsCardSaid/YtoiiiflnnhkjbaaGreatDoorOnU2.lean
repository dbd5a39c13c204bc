/-
  The document's streams of a packet, and its Tag.
-/
import Derived.Test.YtoiiiflnnhkjbaaGreatDoorOnU
import Derived.Test.YtoiiiflnnhkjbaaGreatDoorOm1
import Derived.Test.YtoiiiflnnhkjbaaGreatDoorORD
namespace Go.Proofs.YtoiiiflnnhkjbaaGreatDoor
set_option linter.unusedVariables false
set_option linter.unusedSimpArgs false
open Go.RowKit


set_option maxHeartbeats 4000000 in
set_option maxRecDepth 100000 in
theorem rhead11_any (key : List UInt8) (ep : Nat) (nonce : List UInt8) (w : World) (hk : key.length ≤ 100000) (hn : nonce.length = 16) :
    Calls Tryz.prog 21 #[.string ⟨key.toArray⟩, .string ⟨(be 4 ep).toArray⟩, .string ⟨nonce.toArray⟩] w fun e w' => e = .returned (.string ⟨(headS key ep nonce).toArray⟩) ∧ Below w.heap.size w w' := by
  obtain ⟨sk, hsk⟩ : ∃ s : ByteArray, s = ⟨key.toArray⟩ := ⟨_, rfl⟩
  obtain ⟨se, hse⟩ : ∃ s : ByteArray, s = ⟨(be 4 ep).toArray⟩ := ⟨_, rfl⟩
  obtain ⟨sn, hsn⟩ : ∃ s : ByteArray, s = ⟨nonce.toArray⟩ := ⟨_, rfl⟩
  obtain ⟨sd, hsd⟩ : ∃ s : ByteArray, s = ⟨(madeL key headT ep nonce).toArray⟩ := ⟨_, rfl⟩
  obtain ⟨sz, hsz⟩ : ∃ s : ByteArray, s = ⟨(zeros 12).toArray⟩ := ⟨_, rfl⟩
  obtain ⟨so, hso⟩ : ∃ s : ByteArray, s = ⟨(headS key ep nonce).toArray⟩ := ⟨_, rfl⟩
  have HD : Hid (∀ W : World, Calls Tryz.prog 38 #[.string sk, .string ⟨#[104, 101, 97, 100]⟩, .string se, .string sn] W fun e w' => e = .returned (.string sd) ∧ Below W.heap.size W w') := fun W => by
    rw [hsk, hse, hsn, hsd]
    exact rderive11_any key headT ep nonce W hk (by decide) hn
  have HN : Hid (∀ W : World, Calls Tryz.prog 20 #[.int .i64 12] W fun e w' => e = .returned (.string sz) ∧ Below W.heap.size W w') := fun W => by
    rw [hsz]
    exact noughts_any 12 W (by decide) (by decide)
  have HS : Hid (∀ W : World, Calls Tryz.prog 45 #[.string sd, .string sz, .int .i64 384] W fun e w' => e = .returned (.string so) ∧ Below W.heap.size W w') := fun W => by
    rw [hsd, hsz, hso]
    exact rstream_any (madeL key headT ep nonce) (zeros 12) 384 W (madeL_length _ _ _ _) (zeros_length _) (by decide)
  rw [← hsk, ← hse, ← hsn, ← hso]
  clear hsk hse hsn hsd hsz hso hk hn
  go_enter Tryz.func21, Tryz.ntmps21
  go_wp2_with (first
    | (go_at_call 38; with_reducible refine (HD.out _).mono ?_; rintro e w1 ⟨rfl, hb1⟩; have HB1 := hide hb1; clear hb1)
    | (go_at_call 20; with_reducible refine (HN.out _).mono ?_; rintro e w2 ⟨rfl, hb2⟩; have HB2 := hide (HB1.out.trans (hb2.mono HB1.out.size)); clear hb2)
    | (go_at_call 45; with_reducible refine (HS.out _).mono ?_; rintro e w3 ⟨rfl, hb3⟩; have HB3 := hide (HB2.out.trans (hb3.mono HB2.out.size)); clear hb3))
  go_ret
  exact ⟨rfl, HB3.out⟩

set_option maxHeartbeats 4000000 in
set_option maxRecDepth 100000 in
theorem rbody11_any (key : List UInt8) (ep : Nat) (nonce : List UInt8) (w : World) (hk : key.length ≤ 100000) (hn : nonce.length = 16) :
    Calls Tryz.prog 25 #[.string ⟨key.toArray⟩, .string ⟨(be 4 ep).toArray⟩, .string ⟨nonce.toArray⟩] w fun e w' => e = .returned (.string ⟨(bodyS key ep nonce).toArray⟩) ∧ Below w.heap.size w w' := by
  obtain ⟨sk, hsk⟩ : ∃ s : ByteArray, s = ⟨key.toArray⟩ := ⟨_, rfl⟩
  obtain ⟨se, hse⟩ : ∃ s : ByteArray, s = ⟨(be 4 ep).toArray⟩ := ⟨_, rfl⟩
  obtain ⟨sn, hsn⟩ : ∃ s : ByteArray, s = ⟨nonce.toArray⟩ := ⟨_, rfl⟩
  obtain ⟨sd, hsd⟩ : ∃ s : ByteArray, s = ⟨(madeL key bodyT ep nonce).toArray⟩ := ⟨_, rfl⟩
  obtain ⟨sz, hsz⟩ : ∃ s : ByteArray, s = ⟨(zeros 12).toArray⟩ := ⟨_, rfl⟩
  obtain ⟨so, hso⟩ : ∃ s : ByteArray, s = ⟨(bodyS key ep nonce).toArray⟩ := ⟨_, rfl⟩
  have HD : Hid (∀ W : World, Calls Tryz.prog 38 #[.string sk, .string ⟨#[98, 111, 100, 121]⟩, .string se, .string sn] W fun e w' => e = .returned (.string sd) ∧ Below W.heap.size W w') := fun W => by
    rw [hsk, hse, hsn, hsd]
    exact rderive11_any key bodyT ep nonce W hk (by decide) hn
  have HN : Hid (∀ W : World, Calls Tryz.prog 20 #[.int .i64 12] W fun e w' => e = .returned (.string sz) ∧ Below W.heap.size W w') := fun W => by
    rw [hsz]
    exact noughts_any 12 W (by decide) (by decide)
  have HS : Hid (∀ W : World, Calls Tryz.prog 45 #[.string sd, .string sz, .int .i64 256] W fun e w' => e = .returned (.string so) ∧ Below W.heap.size W w') := fun W => by
    rw [hsd, hsz, hso]
    exact rstream_any (madeL key bodyT ep nonce) (zeros 12) 256 W (madeL_length _ _ _ _) (zeros_length _) (by decide)
  rw [← hsk, ← hse, ← hsn, ← hso]
  clear hsk hse hsn hsd hsz hso hk hn
  go_enter Tryz.func25, Tryz.ntmps25
  go_wp2_with (first
    | (go_at_call 38; with_reducible refine (HD.out _).mono ?_; rintro e w1 ⟨rfl, hb1⟩; have HB1 := hide hb1; clear hb1)
    | (go_at_call 20; with_reducible refine (HN.out _).mono ?_; rintro e w2 ⟨rfl, hb2⟩; have HB2 := hide (HB1.out.trans (hb2.mono HB1.out.size)); clear hb2)
    | (go_at_call 45; with_reducible refine (HS.out _).mono ?_; rintro e w3 ⟨rfl, hb3⟩; have HB3 := hide (HB2.out.trans (hb3.mono HB2.out.size)); clear hb3))
  go_ret
  exact ⟨rfl, HB3.out⟩

set_option maxHeartbeats 4000000 in
set_option maxRecDepth 100000 in
theorem rtag11_any (key : List UInt8) (ep : Nat) (nonce : List UInt8) (w : World) (hk : key.length ≤ 100000) (hn : nonce.length = 16) :
    Calls Tryz.prog 13 #[.string ⟨key.toArray⟩, .string ⟨(be 4 ep).toArray⟩, .string ⟨nonce.toArray⟩] w fun e w' => e = .returned (.string ⟨(tagO key ep nonce).toArray⟩) ∧ Below w.heap.size w w' := by
  obtain ⟨sk, hsk⟩ : ∃ s : ByteArray, s = ⟨key.toArray⟩ := ⟨_, rfl⟩
  obtain ⟨se, hse⟩ : ∃ s : ByteArray, s = ⟨(be 4 ep).toArray⟩ := ⟨_, rfl⟩
  obtain ⟨sn, hsn⟩ : ∃ s : ByteArray, s = ⟨nonce.toArray⟩ := ⟨_, rfl⟩
  obtain ⟨sd, hsd⟩ : ∃ s : ByteArray, s = ⟨(madeL key tagT ep nonce).toArray⟩ := ⟨_, rfl⟩
  obtain ⟨so, hso⟩ : ∃ s : ByteArray, s = ⟨(tagO key ep nonce).toArray⟩ := ⟨_, rfl⟩
  have HD : Hid (∀ W : World, Calls Tryz.prog 38 #[.string sk, .string ⟨#[116, 97, 103]⟩, .string se, .string sn] W fun e w' => e = .returned (.string sd) ∧ Below W.heap.size W w') := fun W => by
    rw [hsk, hse, hsn, hsd]
    exact rderive11_any key tagT ep nonce W hk (by decide) hn
  have zr : sd.size = 32 := by rw [hsd, txt_size, madeL_length]
  have exr : sd.extract 0 16 = so := by rw [hsd, hso, tagO, extract_mk, List.drop_zero]
  rw [← hsk, ← hse, ← hsn, ← hso]
  clear hsk hse hsn hsd hso hk hn
  go_enter Tryz.func13, Tryz.ntmps13
  go_wp2_with (first
    | (go_at_call 38; with_reducible refine (HD.out _).mono ?_; rintro e w1 ⟨rfl, hb1⟩; have HB1 := hide hb1; clear hb1))
  go_ret
  exact ⟨rfl, HB1.out⟩
end Go.Proofs.YtoiiiflnnhkjbaaGreatDoor
