/-
  Load.
-/
import Derived.Test.YtjicnfkodieaaaaDoorDr8
import Derived.StillTactics
namespace Go.Proofs.YtjicnfkodieaaaaDoor
set_option linter.unusedVariables false
set_option linter.unusedSimpArgs false
open Go.RowKit

instance (r : Rec) : Decidable r.ok := decidable_of_iff (r.a < 16 ∧ r.f ≤ r.t ∧ r.t < 4294967296 ∧ r.l < 4294967296) ⟨fun h => ⟨h.1, h.2.1, h.2.2.1, h.2.2.2⟩, fun h => ⟨h.a, h.ft, h.t, h.l⟩⟩
instance (x y : Rec) : Decidable (x.ahead y) := inferInstanceAs (Decidable (_ ∨ _))
instance (D : List Rec) : Decidable (DirOk D) := decidable_of_iff (D.Pairwise Rec.ahead ∧ (∀ r ∈ D, r.ok) ∧ D.length ≤ 64) ⟨fun h => ⟨h.1, h.2.1, h.2.2⟩, fun h => ⟨h.apart, h.ok, h.len⟩⟩
/-- All but the sum. -/
def ownB (b : List UInt8) : List UInt8 := b.take (b.length - 32)
def recsB (b : List UInt8) : List Rec := recsL (ownB b) ((b.length - 32) / 14)
/-- Why bytes are no directory's: the first that applies. -/
def errB (b : List UInt8) : Nat :=
  if b.length < 32 then 2 else if ¬ shaL (ownB b) = b.drop (b.length - 32) then 4 else if (ownB b).length % 14 = 0 ∧ DirOk (recsB b) then 0 else 3
def LoadB (b : List UInt8) (w : World) (e : Ending) (w' : World) : Prop :=
  ∃ p, e = .returned (.tuple #[.pointer p, .int .i64 (errB b : Nat)]) ∧ Frm (fun _ => False) w w' ∧ (errB b = 0 → ∃ g bm, p = some ⟨g, 0, none⟩ ∧ Dir w' g bm (recsB b) ∧ w.heap.size ≤ g ∧ w.heap.size ≤ bm) ∧ (errB b ≠ 0 → p = none)

theorem dcut0 (A : Option Addr) (n c j : Nat) (hj : j ≤ c) (w : World) : (Instr.sliceAt 50 (.slice A n c) none (some (.int .i64 (j : Int))) none).run Tryd.prog w = .ok (.slice A j c) w := by
  have h0 : A.map (·.add 0) = A := by cases A <;> simp [Addr.add]
  obtain ⟨i, hi, _, hs, _⟩ := one_u8.info
  simp [Instr.sliceAt, Instr.slice, run_underlying one_u8.slice, Instr.sliceBounds, Instr.sliceBound, asIntOf, sizeOf, typeInfo, hi, hj, h0]
theorem dcut1 (A : Option Addr) (n c i : Nat) (hi : i ≤ n) (w : World) : (Instr.sliceAt 50 (.slice A n c) (some (.int .i64 (i : Int))) none none).run Tryd.prog w = .ok (.slice (if c = i then A else A.map (·.add i)) (n - i) (c - i)) w := by
  obtain ⟨d, hq, _, hs, _⟩ := one_u8.info
  simp [Instr.sliceAt, Instr.slice, run_underlying one_u8.slice, Instr.sliceBounds, Instr.sliceBound, asIntOf, sizeOf, typeInfo, hq, hs, hi]

set_option maxHeartbeats 1000000 in
theorem bequal_any (A B : Option Addr) (n m c d : Nat) (a b : List UInt8) (w : World) (ha : Rds w A n (cellsB a)) (hb : Rds w B m (cellsB b)) :
    Calls Tryd.prog 40 #[.slice A n c, .slice B m d] w fun e w' => e = .returned (.bool (decide (a = b))) ∧ w' = w := by
  have h1 := conv_rds (P := Tryd.prog) w 50 9 5 Tryd.underlying50 Tryd.underlying5 Tryd.underlying9 A n c a ha
  have h2 := conv_rds (P := Tryd.prog) w 50 9 5 Tryd.underlying50 Tryd.underlying5 Tryd.underlying9 B m d b hb
  clear ha hb
  obtain ⟨x, hx⟩ : ∃ x, x = (⟨a.toArray⟩ : ByteArray) := ⟨_, rfl⟩
  obtain ⟨y, hy⟩ : ∃ y, y = (⟨b.toArray⟩ : ByteArray) := ⟨_, rfl⟩
  rw [← hx] at h1
  rw [← hy] at h2
  have hxy : decide (a = b) = (x.toList == y.toList) := by
    rw [hx, hy, ByteArray.toList_eq, ByteArray.toList_eq, Bool.eq_iff_iff]
    simp
  rw [hxy]
  clear hx hy hxy
  go_enter Tryd.func40, Tryd.ntmps40
  go_wp2
  go_ret
  exact ⟨rfl, rfl⟩

theorem errB_short {b : List UInt8} (h : b.length < 32) : errB b = 2 := by unfold errB; rw [if_pos h]
theorem errB_mac {b : List UInt8} (h : ¬ b.length < 32) (h1 : ¬ shaL (ownB b) = b.drop (b.length - 32)) : errB b = 4 := by unfold errB; rw [if_neg h, if_pos h1]
theorem errB_form {b : List UInt8} (h : ¬ b.length < 32) (h1 : shaL (ownB b) = b.drop (b.length - 32)) (h2 : ¬ ((ownB b).length % 14 = 0 ∧ DirOk (recsB b))) : errB b = 3 := by unfold errB; rw [if_neg h, if_neg (by simp [h1]), if_neg h2]
theorem errB_ok {b : List UInt8} (h : ¬ b.length < 32) (h1 : shaL (ownB b) = b.drop (b.length - 32)) (h2 : (ownB b).length % 14 = 0 ∧ DirOk (recsB b)) : errB b = 0 := by unfold errB; rw [if_neg h, if_neg (by simp [h1]), if_pos h2]

set_option maxHeartbeats 4000000 in
set_option maxRecDepth 100000 in
theorem load_any (A : Option Addr) (n c : Nat) (b : List UInt8) (w : World) (hr : Rds w A n (cellsB b)) (hn : n ≤ 10000) (hc : n ≤ c) (hG : Gl w) (hg0 : 2 ≤ w.heap.size) :
    Calls Tryd.prog 25 #[.slice A n c] w (LoadB b w) := by
  have hbn : b.length = n := by have := hr.1; rwa [cellsB_length] at this
  have HBN := hide hbn
  have HRR := hide hr
  have HG := hide hG
  clear hr hbn hG
  by_cases h32 : n < 32
  · have hw1 : IntKind.i64.wrap ((n : Int) - 32) = (n : Int) - 32 := IntWalk.i64_in _ (by omega)
    have hw2 : (n : Int) - 32 < 0 := by omega
    have HE := hide (errB_short (b := b) (by rw [HBN.out]; exact h32))
    go_enter Tryd.func25, Tryd.ntmps25
    go_wp2_with fail
    go_ret2
    exact ⟨none, by rw [HE.out]; rfl, Frm.refl _ _, fun h => absurd h (by rw [HE.out]; decide), fun _ => rfl⟩
  · obtain ⟨m, hm⟩ : ∃ m, n = m + 32 := ⟨n - 32, by omega⟩
    subst hm
    have hw1 : IntKind.i64.wrap (((m + 32 : Nat) : Int) - 32) = (m : Int) := by rw [IntWalk.i64_in _ (by omega)]; omega
    have hw2 : ¬ (m : Int) < 0 := by omega
    go_enter Tryd.func25, Tryd.ntmps25
    go_wp2_with fail
    have HLO : Hid ((ownB b).length = m) := by show _ = _; unfold ownB; rw [List.length_take, HBN.out]; omega
    have hF1 : Frm (fun _ => False) w (w.alloc (.cells #[.slice A m c] 50)) := Frm.alloc _ _ _
    have hro : Rds w A m (cellsB (ownB b)) := by
      have h := HRR.out.take m (by omega)
      rw [cellsB_take] at h
      have e : b.take m = ownB b := by unfold ownB; rw [HBN.out]; congr 1
      rwa [e] at h
    have HRO := hide hro
    have hP1 : Prt (w.alloc (.cells #[.slice A m c] 50)) (.slice A m c) (ownB b) := ⟨A, c, by rw [HLO.out], by rw [HLO.out]; omega, by rw [HLO.out]; exact hro.frm0x hF1⟩
    have hsum := sums_now w (w.alloc (.cells #[.slice A m c] 50)) (some ⟨w.heap.size, 0, none⟩) 1 1 [.slice A m c] [ownB b] (ownB b) (Rds.new1 _ _ _) (.cons hP1 .nil) (by simp) ⟨HG.out.frm hF1 (fun h => h) (fun h => h), hF1.below (Nat.le_refl _) (fun _ h => h.elim), hg0⟩ (by rw [HLO.out]; omega) (by simp)
    obtain ⟨S, hS⟩ : ∃ S, S = shaL (ownB b) := ⟨_, rfl⟩
    rw [← hS] at hsum
    have HS := hide hS
    have HSL : Hid (S.length = 32) := by show _ = _; rw [hS, shaL_length]
    have HSC : Hid ((cellsB S).length = 32) := by show _ = _; rw [cellsB_length]; exact HSL.out
    clear hro hP1 hS
    refine hsum.mono ?_
    rintro e w2 ⟨rfl, hF2, hR2⟩
    have HR2 := hide hR2
    have HF2 := hide (frm_false_trans hF1 hF2)
    have hsl : ∀ (g : Nat) (w : World), Sem.run Tryd.prog (Instr.sliceAt 84 (.pointer (some ⟨g, 0, none⟩)) none none none) w = .ok (.slice (some ⟨g, 0, none⟩) 32 32) w := fun g w => run_slice_arr0 (P := Tryd.prog) (t := 84) (e := 5) (N := 32) under25 size8 g 0 (by omega) w
    clear hsum hF1 hF2 hR2
    go_wp2_with (first
      | ((with_reducible refine wpl_alloca (op := ⟨some 5, _, _, _, _, _⟩) rfl _ rfl _ zero32 ?_); intro g5 w3 hB3 hs3 hF3)
      | ((with_reducible refine wpl_storea agg32 rfl (.tmp 5) (.tmp 17) rfl g5 (cellsB S) rfl rfl _ _ hB3 HSC.out zero32_size (cellsB_one _) ?_); intro w4 hB4 hF4))
    have hF34 := frm_join w2 hF3 hF4 (fun i hi => by omega)
    have HF4 := hide (frm_false_trans HF2.out hF34.out)
    have HG4 := hide ((HR2.out.frm hF34.out (fun _ h => h.elim)).gl)
    obtain ⟨A', hA'⟩ : ∃ A', A' = (if c = m then A else A.map (·.add m)) := ⟨_, rfl⟩
    have hcut : ∀ w, (Instr.sliceAt 50 (.slice A (m + 32) c) (some (.int .i64 (m : Int))) none none).run Tryd.prog w = .ok (.slice A' 32 (c - m)) w := fun w => by
      have h := dcut1 A (m + 32) c m (by omega) w
      rw [Nat.add_sub_cancel_left, ← hA'] at h
      exact h
    have hrt : Rds w4.drew A' 32 (cellsB (b.drop m)) := by
      have h := (HRR.out.frm0x HF4.out).cut c m (by omega) hc
      rw [cellsB_drop, Nat.add_sub_cancel_left, ← hA'] at h
      exact h
    have hrs : Rds w4.drew (some ⟨g5, 0, none⟩) 32 (cellsB S) := by have h := hB4.rds; rw [HSC.out] at h; exact h
    have heq := bequal_any (some ⟨g5, 0, none⟩) A' 32 32 32 (c - m) S (b.drop m) w4.drew hrs hrt
    have HRO4 := hide ((HRO.out.frm0x HF4.out))
    clear hF34 hrt hrs hB3 hF3 hF4 hB4 hs3 hA'
    obtain ⟨q, hq⟩ : ∃ q, q = decide (S = b.drop m) := ⟨_, rfl⟩
    rw [← hq] at heq
    have HQ := hide hq
    clear hq
    refine wp_region_still_lit (by kernel_rfl) (by kernel_rfl) ?_
    change wpStill _ _ w4.drew (fun a' => _) _ _
    iterate 4 still_step
    still_call heq
    still_step
    refine wpStill_nil ?_
    obtain ⟨w5, hw5⟩ : ∃ w5, w5 = w4.drew := ⟨_, rfl⟩
    have HF5 : Hid (Frm (fun _ => False) w w5) := by rw [hw5]; exact HF4.out.drew
    have HRO5 : Hid (Rds w5 A m (cellsB (ownB b))) := by rw [hw5]; exact HRO4.out
    have HLR := hide (loadRecs_any A m c (ownB b) (recsB b) w5 HRO5.out (by omega) (by unfold recsB; rw [HBN.out, Nat.add_sub_cancel]))
    have hbn32 : ¬ b.length < 32 := by rw [HBN.out]; omega
    have HB32 := hide hbn32
    have HDR : Hid (b.drop (b.length - 32) = b.drop m) := by show _ = _; rw [HBN.out, Nat.add_sub_cancel]
    change (fun _ => _) _
    change Exit.then _ _ _ _ w4.drew
    rw [← hw5]
    clear hw5 HF4 HRO4 HG4 heq hsl hcut hbn32
    rcases Bool.eq_false_or_eq_true q with rfl | rfl
    · have hSb : S = b.drop m := by have := HQ.out; exact of_decide_eq_true this.symm
      have HSB : Hid (shaL (ownB b) = b.drop (b.length - 32)) := by show _ = _; rw [← HS.out, HDR.out]; exact hSb
      clear hSb
      go_wp2_with fail
      refine HLR.out.mono ?_
      rintro e w6 ⟨pp, q, rfl, hf6, hh⟩
      have HF6 := hide (frm_false_trans HF5.out hf6)
      have hsz := HF5.out.size
      rcases hh with ⟨rfl, h1, g, bm, rfl, hd, hg1, hb1⟩ | ⟨rfl, h1, rfl⟩
      · have HE := hide (errB_ok HB32.out HSB.out h1)
        have HD := hide hd
        have HGB : Hid (w.heap.size ≤ g ∧ w.heap.size ≤ bm) := ⟨by omega, by omega⟩
        clear hf6 h1 hd hg1 hb1 HLR
        go_wp2_with fail
        go_ret2
        exact ⟨some ⟨g, 0, none⟩, by rw [HE.out]; rfl, HF6.out, fun _ => ⟨g, bm, rfl, HD.out, HGB.out.1, HGB.out.2⟩, fun h => absurd HE.out h⟩
      · have HE := hide (errB_form HB32.out HSB.out h1)
        clear hf6 h1 HLR
        go_wp2_with fail
        go_ret2
        exact ⟨none, by rw [HE.out]; rfl, HF6.out, fun h => absurd h (by rw [HE.out]; decide), fun _ => rfl⟩
    · have HSB : Hid (¬ shaL (ownB b) = b.drop (b.length - 32)) := by show ¬ _ = _; rw [← HS.out, HDR.out]; exact of_decide_eq_false HQ.out.symm
      have HE := hide (errB_mac HB32.out HSB.out)
      go_wp2_with fail
      go_ret2
      exact ⟨none, by rw [HE.out]; rfl, HF5.out, fun h => absurd h (by rw [HE.out]; decide), fun _ => rfl⟩
end Go.Proofs.YtjicnfkodieaaaaDoor
