/-
  The document's stream of ChaCha20.
-/
import Derived.Test.YtjdffceeinflcaaDoorCT3
namespace Go.Proofs.YtjdffceeinflcaaDoor
set_option linter.unusedVariables false
open Go.RowKit

theorem blocks_cut (key nonce : List UInt8) (k M : Nat) (h : M ≤ 64 * k) (h2 : k = 0 ∨ 64 * (k - 1) < M) : (blocksL key nonce k).take M = streamL key nonce M := by
  rw [streamL]
  by_cases h0 : M = 0
  · subst h0
    simp
  · have : (M + 63) / 64 = k := by omega
    rw [this]

set_option maxHeartbeats 4000000 in
theorem rstream_any (key nonce : List UInt8) (n : Int) (w : World) (hk : key.length = 32) (hno : nonce.length = 12) (hn : n ≤ 1000) :
    Calls Tryd.prog 14 #[.string ⟨key.toArray⟩, .string ⟨nonce.toArray⟩, .int .i64 n] w fun e w' => e = .returned (.string ⟨(streamL key nonce n.toNat).toArray⟩) ∧ Below w.heap.size w w' := by
  have HRB := hide (fun ctr W hc => rblock_any key nonce ctr W hk hno hc)
  obtain ⟨BL, hBL⟩ : ∃ BL, BL = blocksL key nonce := ⟨_, rfl⟩
  obtain ⟨CH, hCH⟩ : ∃ CH : Nat → List UInt8, CH = fun i => chaL key i nonce := ⟨_, rfl⟩
  have HB0 : Hid (BL 0 = []) := by rw [hBL]; rfl
  have HBS : Hid (∀ k, BL (k + 1) = BL k ++ CH k) := by rw [hBL, hCH]; intro k; rw [blocksL]
  have HBL : Hid (∀ k, (BL k).length = 64 * k) := by rw [hBL]; exact fun k => blocksL_length _ _ _
  have HCL : Hid (∀ k, (CH k).length = 64) := by rw [hCH]; exact fun k => chaL_length _ _ _
  have HRB2 : Hid (∀ (ctr : Nat) (W : World), ctr < 4294967296 → Calls Tryd.prog 12 #[.string ⟨key.toArray⟩, .int .u32 (ctr : Int), .string ⟨nonce.toArray⟩] W fun e w' => e = .returned (.string ⟨(CH ctr).toArray⟩) ∧ Below W.heap.size W w') := by rw [hCH]; exact HRB.out
  have HCT : Hid (∀ k, n.toNat ≤ 64 * k → (k = 0 ∨ 64 * (k - 1) < n.toNat) → (BL k).take n.toNat = streamL key nonce n.toNat) := by rw [hBL]; exact fun k h1 h2 => blocks_cut key nonce k _ h1 h2
  obtain ⟨T, hT⟩ : ∃ T, T = streamL key nonce n.toNat := ⟨_, rfl⟩
  rw [← hT] at HCT ⊢
  obtain ⟨N, hN⟩ : ∃ N, N = n.toNat := ⟨_, rfl⟩
  rw [← hN] at HCT
  have HMX : Hid ((N : Int) = if (0 : Int) > n then 0 else n) := by show _ = _; rw [hN]; split <;> omega
  have hN1 : N ≤ 1000 := by omega
  have hNn : ∀ z : Nat, ¬ ((z : Int) < n) → N ≤ z := fun z h => by omega
  have hNp : ∀ z : Nat, (z : Int) < n → z < N := fun z h => by omega
  have HNn := hide hNn
  have HNp := hide hNp
  clear hBL hCH HRB hT hN hk hno hNn hNp
  generalize (⟨key.toArray⟩ : ByteArray) = sk at *
  generalize (⟨nonce.toArray⟩ : ByteArray) = sn at *
  have hs0 : (⟨#[]⟩ : ByteArray) = ⟨(BL 0).toArray⟩ := by rw [HB0.out]
  go_enter Tryd.func14, Tryd.ntmps14
  go_wp2_with fail
  go_loopw [7, 8] (fun v i wr => ∃ k : Nat, k ≤ 16 ∧ i = .int .i64 (k : Int) ∧ v = .string ⟨(BL k).toArray⟩ ∧ (k = 0 ∨ 64 * (k - 1) < N) ∧ Below w.heap.size w wr) (fun _ i _ => 16 - (intOf i).toNat)
  case atStart => exact ⟨0, by omega, rfl, by rw [HB0.out], .inl rfl, Below.refl _ _⟩
  case round =>
    obtain ⟨k, hk, rfl, rfl, hk1, hbel⟩ := hrel
    obtain ⟨z, hz⟩ : ∃ z, z = 64 * k := ⟨_, rfl⟩
    have hsz : (⟨(BL k).toArray⟩ : ByteArray).size = z := by rw [txt_size, HBL.out, hz]
    by_cases hlt : (z : Int) < n
    · have hzN := HNp.out z hlt
      have hu : IntKind.u32.wrap (k : Int) = (k : Int) := by rw [IntKind.wrap_u32']; omega
      have HRK := hide (fun W => HRB2.out k W (by omega))
      have hadd : (⟨(BL k).toArray⟩ ++ ⟨(CH k).toArray⟩ : ByteArray) = ⟨(BL (k + 1)).toArray⟩ := by rw [HBS.out]; exact txt_append _ _
      have hs2 : (⟨(CH k).toArray⟩ : ByteArray).size = 64 := by rw [txt_size, HCL.out]
      obtain ⟨st, hst⟩ : ∃ st, st = (⟨(BL (k + 1)).toArray⟩ : ByteArray) := ⟨_, rfl⟩
      rw [← hst] at hadd
      have HST := hide hst
      generalize (⟨(BL k).toArray⟩ : ByteArray) = so at *
      generalize (⟨(CH k).toArray⟩ : ByteArray) = sc at *
      have HBE := hide hbel
      have hz1 : z ≤ 100000 := by omega
      have hk15 : k + 1 ≤ 16 := by omega
      have hk2 : k + 1 = 0 ∨ 64 * (k + 1 - 1) < N := by omega
      clear hbel hst hz hk1
      go_wp2_with fail
      refine (HRK.out wr).mono ?_
      rintro e w2 ⟨rfl, hb2⟩
      have HB2 := hide (HBE.out.trans (hb2.mono HBE.out.size))
      clear hb2 HRK HBE
      go_wp2_with fail
      go_roundw
      case rel => first | exact ⟨k + 1, hk15, by go_num, by rw [HST.out], hk2, HB2.out⟩ | ((repeat apply Exists.intro); exact ⟨⟨k + 1, hk15, by go_num, by rw [HST.out], hk2, HB2.out⟩, rfl⟩)
      case measure => simp [intOf]; omega
    · have hzN := HNn.out z (by omega)
      have hct := HCT.out k (by omega) hk1
      have hsl : ∀ w, Sem.run Tryd.prog (Instr.sliceAt 9 (.string ⟨(BL k).toArray⟩) none (some (.int .i64 (N : Int))) none) w = .ok (.string ⟨T.toArray⟩) w := fun w => by
        have := str_to (BL k) N (by rw [HBL.out]; omega) w
        rwa [hct] at this
      generalize (⟨(BL k).toArray⟩ : ByteArray) = so at *
      have HBE := hide hbel
      clear hbel hct
      go_wp2_with (with_reducible refine wpl_max (op := ⟨some 24, _, _, _, _, _⟩) rfl _ _ _ _ rfl _ _ _ (N : Int) rfl rfl HMX.out ?_)
      go_ret
      exact ⟨rfl, HBE.out⟩
end Go.Proofs.YtjdffceeinflcaaDoor
