/-
  What stands behind: the document's.
-/
import Derived.Test.YtoiiiflnnhkjbaaGreatDoorOnU3
import Derived.Test.YtoiiiflnnhkjbaaGreatDoorOnX
import Derived.Test.YtoiiiflnnhkjbaaGreatDoorOnV
namespace Go.Proofs.YtoiiiflnnhkjbaaGreatDoor
set_option linter.unusedVariables false
set_option linter.unusedSimpArgs false
open Go.RowKit

theorem slice_textFrom (l : List UInt8) (j : Nat) (hj : j ≤ l.length) (w : World) : Sem.run Tryz.prog (Instr.sliceAt 9 (.string ⟨l.toArray⟩) (some (.int .i64 (j : Int))) none none) w = .ok (.string ⟨(l.drop j).toArray⟩) w := by
  have h4 : (⟨l.toArray⟩ : ByteArray).size = l.length := by show l.toArray.size = l.length; simp
  have h5 : (l.drop j).take (l.length - j) = l.drop j := List.take_of_length_le (by rw [List.length_drop]; exact Nat.le_refl _)
  simp only [Instr.sliceAt, Instr.slice, run_underlying under9, Sem.run_bind, Result.andThen_ok, Instr.sliceBounds, Instr.sliceBound, asIntOf, h4]
  simp [hj, extract_mk, h5]
theorem XRow.at0 {w : World} {g n : Nat} {hs : List HopL} (h : XRow w (some ⟨g, 0, none⟩) n hs) {k : Nat} (hk : k < n) {q : Nat} {u : Value} (hu : (rhopC (hs.getD k hop0))[q]? = some u) {W : World} (hb : Below w.heap.size w W) : W.cell? ⟨g, k * 23 + q, none⟩ = some u := by
  have := (h.below hb).cell hk q u hu
  rwa [addr_add, addr_add, Nat.zero_add] at this
theorem XRow.rnonce {w : World} {g n : Nat} {hs : List HopL} (h : XRow w (some ⟨g, 0, none⟩) n hs) {k : Nat} (hk : k < n) {W : World} (hb : Below w.heap.size w W) : Rds W (some ⟨g, k * 23 + 4, none⟩) 16 (cellsB (hs.getD k hop0).nonce) := by
  have ho := h.hop hk
  refine ⟨by rw [cellsB_length]; exact ho.nonce, fun _ => ⟨_, rfl, fun j u hu => ?_⟩⟩
  rw [addr_add, Nat.add_assoc]
  refine h.at0 hk ?_ hb
  have h1 := rhopC_nonce ho
  have hj : j < 16 := by have := (List.getElem?_eq_some_iff.1 hu).1; rwa [cellsB_length, ho.nonce] at this
  rw [← h1, List.getElem?_take, if_pos hj, List.getElem?_drop] at hu
  exact hu

set_option maxHeartbeats 8000000 in
set_option maxRecDepth 100000 in
theorem rbehind_any (g n c : Nat) (hs : List HopL) (i : Nat) (w : World) (hT : Tb w) (hR : XRow w (some ⟨g, 0, none⟩) n hs) (hi : i ≤ n) (h5 : i ≤ 5) :
    Calls Tryz.prog 24 #[.slice (some ⟨g, 0, none⟩) n c, .int .i64 (i : Int)] w fun e w' => e = .returned (.string ⟨(behindL hs i).toArray⟩) ∧ Below w.heap.size w w' := by
  have H := hide (OAt.start hT)
  have HR := hide hR
  have HBL := hide (fun k (hk : k ≤ 5) => behindL_length hs k hk)
  have HBS : Hid (∀ k, behindL hs (k + 1) = xorB (behindL hs k ++ zeros 64) ((hopS (hs.getD k hop0)).drop (384 - (behindL hs k).length - 64))) := fun _ => rfl
  obtain ⟨BL, hBL⟩ : ∃ BL, BL = behindL hs := ⟨_, rfl⟩
  have HB0 : Hid (BL 0 = []) := by rw [hBL]; rfl
  rw [← hBL] at HBL HBS ⊢
  clear hBL hR hT
  go_enter Tryz.func24, Tryz.ntmps24
  go_wp2_with fail
  have H0 := H
  clear H
  go_loopw [5, 6] (fun s v wr => ∃ k : Nat, k ≤ i ∧ v = .int .i64 (k : Int) ∧ s = .string ⟨(BL k).toArray⟩ ∧ OAt w [] wr) (fun _ v _ => i - (intOf v).toNat)
  case atStart => exact ⟨0, by omega, rfl, by rw [HB0.out], H0.out⟩
  case round =>
    clear H0
    obtain ⟨k, hk, rfl, rfl, hat⟩ := hrel
    have H := hide hat
    clear hat
    by_cases hlt : k < i
    · have hkn : k < n := by omega
      have hki : (k : Int) < (i : Int) := by omega
      have hkn2 : (k : Int) < (n : Int) := by omega
      have HO := hide (HR.out.hop hkn)
      have HRN := hide (fun (W : World) (h : Below w.heap.size w W) => HR.out.rnonce hkn h)
      have HCK := hide (fun (W : World) (h : Below w.heap.size w W) => HR.out.at0 hkn (rhopC_key _) h)
      have HCE := hide (fun (W : World) (h : Below w.heap.size w W) => HR.out.at0 hkn (rhopC_epoch _) h)
      have HSK := hide (HBS.out k)
      obtain ⟨h, hh⟩ : ∃ h, h = hs.getD k hop0 := ⟨_, rfl⟩
      rw [← hh] at HO HRN HCK HCE HSK
      clear hh
      obtain ⟨z, hz⟩ : ∃ z, z = (BL k).length := ⟨_, rfl⟩
      have hzk : z = 64 * k := by rw [hz]; exact HBL.out k (by omega)
      rw [← hz] at HSK
      obtain ⟨d, hd⟩ : ∃ d, d = 384 - z := ⟨_, rfl⟩
      obtain ⟨j, hj⟩ : ∃ j, j = 384 - z - 64 := ⟨_, rfl⟩
      rw [← hj] at HSK
      have x1 : (384 : Int) - (z : Int) = (d : Int) := by omega
      have x2 : (d : Int) - 64 = (j : Int) := by omega
      have y1 : IntKind.i64.wrap (384 - (z : Int)) = (d : Int) := by rw [IntKind.wrap_i64] <;> omega
      have y2 : IntKind.i64.wrap ((d : Int) - 64) = (j : Int) := by rw [IntKind.wrap_i64] <;> omega
      have y3 : IntKind.i64.wrap (d : Int) = (d : Int) := by rw [IntKind.wrap_i64] <;> omega
      have y4 : IntKind.i64.wrap (j : Int) = (j : Int) := by rw [IntKind.wrap_i64] <;> omega
      have hj1 : (j : Int) ≤ 384 := by omega
      have hj2 : j ≤ 384 := by omega
      obtain ⟨sk, hsk⟩ : ∃ s : ByteArray, s = ⟨h.key.toArray⟩ := ⟨_, rfl⟩
      obtain ⟨se, hse⟩ : ∃ s : ByteArray, s = ⟨(be 4 h.epoch).toArray⟩ := ⟨_, rfl⟩
      obtain ⟨ss, hss⟩ : ∃ s : ByteArray, s = ⟨(hopS h).toArray⟩ := ⟨_, rfl⟩
      obtain ⟨so, hso⟩ : ∃ s : ByteArray, s = ⟨(BL k).toArray⟩ := ⟨_, rfl⟩
      obtain ⟨sz, hsz⟩ : ∃ s : ByteArray, s = ⟨(zeros 64).toArray⟩ := ⟨_, rfl⟩
      obtain ⟨s1, hs1⟩ : ∃ s : ByteArray, s = ⟨(BL k ++ zeros 64).toArray⟩ := ⟨_, rfl⟩
      obtain ⟨sx, hsx⟩ : ∃ s : ByteArray, s = ⟨((hopS h).drop j).toArray⟩ := ⟨_, rfl⟩
      obtain ⟨sr, hsr⟩ : ∃ s : ByteArray, s = ⟨(BL (k + 1)).toArray⟩ := ⟨_, rfl⟩
      have HSR := hide hsr
      have hstr : strV h.key = .string sk := by rw [hsk]; rfl
      rw [hstr] at HCK
      have HTE : Hid (∀ W : World, Tb W → Calls Tryz.prog 19 #[.int .u64 (h.epoch : Int), .int .i64 4] W fun e w' => e = .returned (.string se) ∧ Below W.heap.size W w') := fun W _ => by
        rw [hse]
        exact text11_any h.epoch 4 W (by decide) (by have := HO.out.epoch; omega)
      have HHS : Hid (∀ W : World, Tb W → Calls Tryz.prog 21 #[.string sk, .string se, .string ⟨h.nonce.toArray⟩] W fun e w' => e = .returned (.string ss) ∧ Below W.heap.size W w') := fun W _ => by
        rw [hsk, hse, hss]
        exact rhead11_any h.key h.epoch h.nonce W (by rw [HO.out.key]; decide) HO.out.nonce
      have HN64 : Hid (∀ W : World, Tb W → Calls Tryz.prog 20 #[.int .i64 64] W fun e w' => e = .returned (.string sz) ∧ Below W.heap.size W w') := fun W _ => by
        rw [hsz]
        exact noughts_any 64 W (by decide) (by decide)
      have hfit : (BL k ++ zeros 64).length ≤ ((hopS h).drop j).length := by rw [List.length_append, ← hz, zeros_length, List.length_drop, hopS_length]; omega
      have HX1 : Hid (∀ W : World, Tb W → Calls Tryz.prog 22 #[.string s1, .string sx] W fun e w' => e = .returned (.string sr) ∧ Below W.heap.size W w') := fun W _ => by
        rw [hs1, hsx, hsr, HSK.out]
        exact rxor11_any (BL k ++ zeros 64) ((hopS h).drop j) W (by rw [List.length_append, ← hz, zeros_length]; omega) hfit
      have a1 : so ++ sz = s1 := by rw [hso, hsz, hs1, txt_append]
      have zo : so.size = z := by rw [hso, txt_size, hz]
      have zz : sz.size = 64 := by rw [hsz, txt_size, zeros_length]
      have zs : ss.size = 384 := by rw [hss, txt_size, hopS_length]
      have ex : ss.extract j 384 = sx := by rw [hss, hsx, extract_mk, List.take_of_length_le (by rw [List.length_drop, hopS_length]; exact Nat.le_refl _)]
      have hsl : ∀ W, Sem.run Tryz.prog (Instr.sliceAt 9 (.string ss) (some (.int .i64 (j : Int))) none none) W = .ok (.string sx) W := fun W => by
        rw [hss, hsx]
        exact slice_textFrom _ j (by rw [hopS_length]; omega) W
      have hz6 : z ≤ 320 := by omega
      have hq1 : ¬ 9223372036854775807 < z + 64 := by omega
      have hei : (0 : Int) ≤ (h.epoch : Int) ∧ (h.epoch : Int) < 4294967296 := by have := HO.out.epoch; omega
      have hwe : IntKind.u64.wrap (h.epoch : Int) = (h.epoch : Int) := by rw [IntKind.wrap_u64] <;> omega
      rw [← hso]
      have hN := slN
      clear hstr hsk hse hss hso hsz hs1 hsx hsr hfit hz hzk hd hj HBS HBL HSK
      go_wp2_with fail
      obtain ⟨N, hN⟩ : ∃ N, N = wr.heap.size := ⟨_, rfl⟩
      have hq : Below N wr wr := hN ▸ Below.refl _ _
      have HA := hide (fun W' (h : Below N wr W') => H.out.call (hN ▸ h))
      have HC := hide (fun W' (h : Below N wr W') W'' (k : Below W'.heap.size W' W'') => h.trans (k.mono (by rw [hN]; exact h.size)))
      have hqt : ∀ W', Below N wr W' → Calls Tryz.prog 19 #[.int .u64 (h.epoch : Int), .int .i64 4] W' (fun e w'' => e = .returned (.string se) ∧ Below N wr w'') := fun W' h => (HTE.out W' (HA.out W' h).tb).mono (fun e w'' ⟨he, hb⟩ => ⟨he, HC.out W' h w'' hb⟩)
      have hqh : ∀ W', Below N wr W' → Calls Tryz.prog 21 #[.string sk, .string se, .string ⟨h.nonce.toArray⟩] W' (fun e w'' => e = .returned (.string ss) ∧ Below N wr w'') := fun W' h => (HHS.out W' (HA.out W' h).tb).mono (fun e w'' ⟨he, hb⟩ => ⟨he, HC.out W' h w'' hb⟩)
      clear hN
      refine wp_region_class (fun W' => Below N wr W') (by kernel_rfl) (by kernel_rfl) (below_drewN hq 1) ?_
      iterate 4 (with_reducible refine wpQuiet_step ?_; intro K hK; go_simp; first | (refine hK _ ?_; clear hK K) | (refine ⟨_, fun w' hw' => rfl, hK _ ?_⟩; clear hK K))
      with_reducible refine wpQuiet_step ?_
      intro K hK
      go_simp
      refine ⟨.string sk, fun w' hw' => ?_, hK _ ?_⟩
      · have hcell0 := (fun w' hw' => HCK.out w' ((HA.out w' hw').bel)) w' hw'
        go_simp
      clear hK K
      iterate 4 (with_reducible refine wpQuiet_step ?_; intro K hK; go_simp; first | (refine hK _ ?_; clear hK K) | (refine ⟨_, fun w' hw' => rfl, hK _ ?_⟩; clear hK K))
      with_reducible refine wpQuiet_step ?_
      intro K hK
      go_simp
      refine ⟨.int .u32 (h.epoch : Int), fun w' hw' => ?_, hK _ ?_⟩
      · have hcell0 := (fun w' hw' => HCE.out w' ((HA.out w' hw').bel)) w' hw'
        go_simp
      clear hK K
      with_reducible refine wpQuiet_step ?_; intro K hK; go_simp; first | (refine hK _ ?_; clear hK K) | (refine ⟨_, fun w' hw' => rfl, hK _ ?_⟩; clear hK K)
      with_reducible refine wpQuiet_step ?_
      intro K hK
      go_simp
      refine ⟨_, hqt, hK _ ?_⟩
      clear hK K
      iterate 5 (with_reducible refine wpQuiet_step ?_; intro K hK; go_simp; first | (refine hK _ ?_; clear hK K) | (refine ⟨_, fun w' hw' => rfl, hK _ ?_⟩; clear hK K))
      with_reducible refine wpQuiet_step ?_
      intro K hK
      refine quiet_val (.string ⟨(h.nonce).toArray⟩) (fun w' hw' => held_convR _ rfl (some ⟨g, k * 23 + 4, none⟩) 16 16 rfl h.nonce (HRN.out w' ((HA.out w' hw').bel))) ?_ rfl
      go_simp
      refine hK _ ?_
      clear hK K
      with_reducible refine wpQuiet_step ?_
      intro K hK
      go_simp
      refine ⟨_, hqh, hK _ ?_⟩
      clear hK K
      with_reducible refine wpQuiet_step ?_; intro K hK; go_simp; first | (refine hK _ ?_; clear hK K) | (refine ⟨_, fun w' hw' => rfl, hK _ ?_⟩; clear hK K)
      refine wpQuiet_nil ?_
      clear hq
      intro wq hwq
      replace H := hide (HA.out wq hwq)
      clear HA HC hwq
      go_wp2_with fail
      obtain ⟨WQ, hWQ⟩ : ∃ W, W = wq := ⟨_, rfl⟩
      rw [← hWQ] at H ⊢
      clear hWQ
      obtain ⟨N, hN⟩ : ∃ N, N = WQ.heap.size := ⟨_, rfl⟩
      have hq : Below N WQ WQ := hN ▸ Below.refl _ _
      have HA := hide (fun W' (h : Below N WQ W') => H.out.call (hN ▸ h))
      have HC := hide (fun W' (h : Below N WQ W') W'' (k : Below W'.heap.size W' W'') => h.trans (k.mono (by rw [hN]; exact h.size)))
      have hqn : ∀ W', Below N WQ W' → Calls Tryz.prog 20 #[.int .i64 64] W' (fun e w'' => e = .returned (.string sz) ∧ Below N WQ w'') := fun W' h => (HN64.out W' (HA.out W' h).tb).mono (fun e w'' ⟨he, hb⟩ => ⟨he, HC.out W' h w'' hb⟩)
      have hqx : ∀ W', Below N WQ W' → Calls Tryz.prog 22 #[.string s1, .string sx] W' (fun e w'' => e = .returned (.string sr) ∧ Below N WQ w'') := fun W' h => (HX1.out W' (HA.out W' h).tb).mono (fun e w'' ⟨he, hb⟩ => ⟨he, HC.out W' h w'' hb⟩)
      clear hN
      refine wp_region_class (fun W' => Below N WQ W') (by kernel_rfl) (by kernel_rfl) (below_drewN hq 1) ?_
      with_reducible refine wpQuiet_step ?_; intro K hK; go_simp; first | (refine hK _ ?_; clear hK K) | (refine ⟨_, fun w' hw' => rfl, hK _ ?_⟩; clear hK K)
      with_reducible refine wpQuiet_step ?_
      intro K hK
      go_simp
      refine ⟨_, hqn, hK _ ?_⟩
      clear hK K
      iterate 7 (with_reducible refine wpQuiet_step ?_; intro K hK; go_simp; first | (refine hK _ ?_; clear hK K) | (refine ⟨_, fun w' hw' => rfl, hK _ ?_⟩; clear hK K))
      with_reducible refine wpQuiet_step ?_
      intro K hK
      go_simp
      refine ⟨_, hqx, hK _ ?_⟩
      clear hK K
      with_reducible refine wpQuiet_step ?_; intro K hK; go_simp; first | (refine hK _ ?_; clear hK K) | (refine ⟨_, fun w' hw' => rfl, hK _ ?_⟩; clear hK K)
      refine wpQuiet_nil ?_
      clear hq
      intro wq hwq
      replace H := hide (HA.out wq hwq)
      clear HA HC hwq
      go_wp2_with fail
      go_roundw
      case rel => exact ⟨k + 1, by omega, by go_num, by rw [HSR.out], H.out⟩
      case measure => simp [intOf]; omega
    · obtain rfl : k = i := by omega
      go_wp2_with fail
      go_ret
      exact ⟨rfl, H.out.bel⟩
end Go.Proofs.YtoiiiflnnhkjbaaGreatDoor
