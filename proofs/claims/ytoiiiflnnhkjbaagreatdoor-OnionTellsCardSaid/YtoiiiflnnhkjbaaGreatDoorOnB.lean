/-
  Keys of a packet's, its streams, its tag.
-/
import Derived.Test.YtoiiiflnnhkjbaaGreatDoorHp
import Derived.Test.YtoiiiflnnhkjbaaGreatDoorOnA
namespace Go.Proofs.YtoiiiflnnhkjbaaGreatDoor
set_option linter.unusedVariables false
set_option linter.unusedSimpArgs false
open Go.RowKit

/-- A row of bytes that a call told. -/
def Told (w : World) (l : List UInt8) (n : Nat) (e : Ending) (w' : World) : Prop := ∃ g c, e = .returned (.slice (some ⟨g, 0, none⟩) n c) ∧ Prt w' (.slice (some ⟨g, 0, none⟩) n c) l ∧ Below w.heap.size w w'

set_option maxHeartbeats 2000000 in
theorem epoch_any (n : Nat) (w : World) (hn : n < 4294967296) : Calls Tryz.prog 37 #[.int .u32 (n : Int)] w (Told w (be 4 n) 4) := by
  go_enter Tryz.func37, Tryz.ntmps37
  go_wp2_with ((with_reducible refine wpl_alloca (op := ⟨some 3, _, _, _, _, _⟩) rfl _ rfl _ zeroW ?_); intro g w1 hB1 hs1 hF1)
  have hW1 : Wr w1 g none [] := ⟨.slice none 0 0, hB1, ⟨rfl, .inl ⟨rfl, rfl⟩⟩, .inl rfl⟩
  refine (wu32_any g none [] (n : Int) w1 hW1 (by simp) (by omega) (by omega)).mono ?_
  rintro e w2 ⟨rfl, d2, hW2, _, hF2⟩
  rw [List.nil_append, Int.toNat_natCast] at hW2
  go_wp2_with fail
  refine (wdone_any g d2 (be 4 n) w2 hW2 (by rw [be_length]; omega)).mono ?_
  rintro e w3 ⟨A3, c3, rfl, hown3, hb3⟩
  have hl : (cellsB (be 4 n)).length = 4 := cl (be_length 4 n)
  rw [hl] at hown3 ⊢
  obtain ⟨g3, cur, rfl, _⟩ := own_block hown3 (by omega)
  go_wp2_with fail
  go_ret
  refine ⟨g3, c3, rfl, prt_own (B := w2.heap.size) (by rw [be_length]; exact hown3), ?_⟩
  have h1 := hF1.below (Nat.le_refl _) (fun _ h => h.elim)
  have h2 := below_frm h1 hF2 h1.size (fun k hk => by rcases hk with rfl | hk; exact hs1; cases hk)
  exact h2.trans (hb3.mono h2.size)

set_option maxHeartbeats 4000000 in
set_option maxRecDepth 100000 in
theorem made_any (key lab : List UInt8) (ep : Nat) (nonce : List UInt8) (hk : key.length = 32) (hn : nonce.length = 16) (he : ep < 4294967296) (hlab : lab.length ≤ 100) (w : World) (hT : Tb w) :
    Calls Tryz.prog 33 #[.agg (cellsB key).toArray, .string ⟨lab.toArray⟩, .int .u32 (ep : Int), .agg (cellsB nonce).toArray] w fun e w' => e = .returned (.agg (cellsB (madeL key lab ep nonce)).toArray) ∧ Below w.heap.size w w' := by
  have H := hide (OAt.start hT)
  have HK := hide (cl hk)
  have HN := hide (ctake hn)
  have HM := hide (cl (madeL_length key lab ep nonce))
  have hsn := slN
  have hep := fun w => epoch_any ep w he
  have HD := hide (fun (W : World) (hR : Run w W) (vs : List Value) (hA : All2 W vs [be 4 ep, nonce]) => derive_row w W key lab hk vs [be 4 ep, nonce] hA hR (by omega) (fun k => by
    rcases k with _ | _ | k
    · show (be 4 ep).length ≤ _; rw [be_length]; omega
    · show nonce.length ≤ _; omega
    · simp) (by simp [be_length, hn]) (by simp))
  have HEP := hide hep
  clear hk he hep hT
  go_enter Tryz.func33, Tryz.ntmps33
  go_wp2_with (first
    | (with_reducible refine at_op (op := ⟨some 4, _, _, _, _, _⟩) ?_; (refine wpl_boxa (op := ⟨some 4, _, _, _, _, _⟩) rfl _ _ rfl (cellsB key) rfl ?_); intro g4 W4 hB1 hg1 hF1; replace H := hide (H.out.box hg1 hF1 hB1); clear hB1 hg1 hF1)
    | (with_reducible refine at_op (op := ⟨some 7, _, _, _, _, _⟩) ?_; (refine wpl_boxa (op := ⟨some 7, _, _, _, _, _⟩) rfl _ _ rfl (cellsB nonce) rfl ?_); intro g7 W7 hB1 hg1 hF1; replace H := hide (H.out.box hg1 hF1 hB1); clear hB1 hg1 hF1)
    | (with_reducible refine at_op (op := ⟨some 8, _, _, _, _, _⟩) ?_; (with_reducible refine wpl_alloca (op := ⟨some 8, _, _, _, _, _⟩) rfl _ rfl _ zeroK ?_); intro g8 W8 hB1 hg1 hF1; replace H := hide (H.out.box hg1 hF1 hB1); clear hB1 hg1 hF1))
  refine wp_region_held_drew (S := fun W' => Blk W' g4 26 (cellsB key).toArray ∧ Blk W' g7 30 (cellsB nonce).toArray) (by kernel_rfl) (⟨H.out.drew.get 0 rfl, H.out.drew.get 1 rfl⟩) ?_
  intro hHeld
  obtain ⟨W9, hW9⟩ : ∃ W9, W9 = W8.drew := ⟨_, rfl⟩
  replace H := hide (by rw [hW9]; exact H.out.drew : OAt w _ W9)
  rw [← hW9] at hHeld ⊢
  clear hW9
  refine tkH 0 (v := ?v1) rfl ?hy1 ?rest1
  case hy1 => (intro w hSw; refine held_loadf aggK (.tmp 4) ?_ g4 ?_ _ (cellsB key) hSw.1 HK.out <;> rfl)
  try simp only [Act.put, PTs]
  refine tkH 1 (v := ?v2) rfl ?hy2 ?rest2
  case hy2 => (intro w hSw; (try go_simp); try with_reducible rfl)
  try simp only [Act.put, PTs]
  refine tkH 2 (v := ?v3) rfl ?hy3 ?rest3
  case hy3 => (intro w hSw; (try go_simp); try with_reducible rfl)
  try simp only [Act.put, PTs]
  refine tkH 4 (v := ?v4) rfl ?hy4 ?rest4
  case hy4 => (intro w hSw; (try go_simp); try with_reducible rfl)
  try simp only [Act.put, PTs]
  refine rdH 3 rfl (by kernel_rfl) (fun K hK => ?_)
  go_simp
  refine (HEP.out W9).mono ?_
  rintro e W10 ⟨g, c, rfl, hp, hbc⟩
  replace H := hide (H.out.call hbc)
  have HP := hide hp
  clear hbc hp
  refine hK.out _ _ (⟨H.out.get 0 rfl, H.out.get 1 rfl⟩) (fun hHeld => ?_)
  clear hK K
  refine rdH 5 rfl (by kernel_rfl) (fun K hK => ?_)
  go_simp
  refine hK.out _ _ (⟨(H.out.get 0 rfl).al _, (H.out.get 1 rfl).al _⟩) (fun hHeld => ?_)
  clear hK K
  refine rdH 6 rfl (by kernel_rfl) (fun K hK => ?_)
  go_simp
  refine (HD.out W10 H.out.run [.slice (some ⟨g, 0, none⟩) 4 c, .slice (some ⟨g7, 0, none⟩) 16 16] (.cons HP.out (.cons ((H.out.get 1 rfl).prt hn) .nil))).mono ?_
  rintro e W11 ⟨rfl, hf, _⟩
  replace H := hide (H.out.frm hf)
  clear hf
  refine hK.out _ _ (⟨H.out.get 0 rfl, H.out.get 1 rfl⟩) (fun hHeld => ?_)
  clear hK K
  refine rdH 7 rfl (by kernel_rfl) (fun K hK => ?_)
  refine step_storem aggK rfl (.tmp 8) (.tmp 15) rfl g8 0 (cellsB (madeL key lab ep nonce)) _ (cellsB (madeL key lab ep nonce)) rfl rfl _ (H.out.get 2 rfl) HM.out (Nat.le_of_eq (by rw [Nat.zero_add]; exact rfl)) (splice_all _ _ (by rw [HM.out]; rfl)) (cellsB_one _) ?_
  intro W12 hB12 hF12
  replace H := hide (H.out.store 2 rfl hF12 hB12)
  clear hB12 hF12
  refine hK.out _ _ (⟨H.out.get 0 rfl, H.out.get 1 rfl⟩) (fun hHeld => ?_)
  clear hK K
  refine wpAnyH_done (by kernel_rfl) ?_ _
  clear hHeld
  go_wp2_with fail
  exact ret_agg aggK rfl rfl g8 _ _ rfl (H.out.get 2 rfl) HM.out ⟨rfl, H.out.bel⟩

end Go.Proofs.YtoiiiflnnhkjbaaGreatDoor
