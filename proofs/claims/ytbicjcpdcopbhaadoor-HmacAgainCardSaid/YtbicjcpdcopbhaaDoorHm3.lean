/-
  Keys padded; rows compared.
-/
import Derived.Test.YtbicjcpdcopbhaaDoorHm2
namespace Go.Proofs.YtbicjcpdcopbhaaDoor
set_option linter.unusedVariables false
open Go.RowKit

theorem pad_splice (x : List UInt8) (h : x.length ≤ 64) : splice (cellsB (List.replicate 64 0)) 0 (cellsB (x.take x.length)) = cellsB (x ++ List.replicate (64 - x.length) 0) := by
  have h1 : x.take x.length = x := List.take_of_length_le (Nat.le_refl _)
  have h2 : (List.replicate 64 (0 : UInt8)).drop x.length = List.replicate (64 - x.length) 0 := List.drop_replicate ..
  rw [h1, splice, List.take_zero, List.nil_append, Nat.zero_add, cellsB_length, cellsB_drop, h2, cellsB_append]

set_option maxHeartbeats 4000000 in
theorem padded_any (A : Option Addr) (n c : Nat) (key : List UInt8) (w : World) (hG : Gl w) (hg0 : 2 ≤ w.heap.size) (hr : Rds w A n (cellsB key)) (hc : n ≤ c) (hn : n ≤ 1000000) :
    Calls Tryd.prog 47 #[.slice A n c] w fun e w' => e = .returned (.agg (cellsB (padK key)).toArray) ∧ Below w.heap.size w w' := by
  have hkl : key.length = n := by have := hr.1; rwa [cellsB_length] at this
  have HL : Hid ((cellsB (padK key)).length = 64) := by show _ = _; rw [cellsB_length, padK_length]
  have HX2 : Hid (((cellsB (padK key)).drop 0).take 64 = cellsB (padK key)) := by show _ = _; rw [List.drop_zero, List.take_of_length_le (by rw [HL.out]; exact Nat.le_refl _)]
  have HXl : Hid (0 + 64 ≤ (cellsB (padK key)).length) := by show _ ≤ _; rw [HL.out]; exact Nat.le_refl _
  have hsl : ∀ g w, Sem.run Tryd.prog (Instr.sliceAt 31 (.pointer (some ⟨g, 0, none⟩)) none none none) w = .ok (.slice (some ⟨g, 0, none⟩) 64 64) w := fun g w => run_slice_arr0 (P := Tryd.prog) (t := 31) (e := 5) (N := 64) under64b size8 g 0 (by omega) w
  have hsl3 : ∀ g w, Sem.run Tryd.prog (Instr.sliceAt 25 (.pointer (some ⟨g, 0, none⟩)) none none none) w = .ok (.slice (some ⟨g, 0, none⟩) 32 32) w := fun g w => run_slice_arr0 (P := Tryd.prog) (t := 25) (e := 5) (N := 32) under25 size8 g 0 (by omega) w
  have HK := hide hkl
  have HR := hide hr
  clear hr hkl
  go_enter Tryd.func47, Tryd.ntmps47
  by_cases h64 : 64 < n
  · have hki : (64 : Int) < (n : Int) := by omega
    have Hkey : Hid (keyL key = shaL key) := by show _ = _; unfold keyL; rw [if_pos (by rw [HK.out]; exact h64)]
    go_wp2_with ((with_reducible refine wpl_alloca (op := ⟨some 2, _, _, _, _, _⟩) rfl _ rfl _ zero64b ?_); intro g1 w1 hB1 hs1 hF1)
    have hp1 : Prt w1 (.slice A n c) key := ⟨A, c, by rw [HK.out], by rw [HK.out]; exact hc, by rw [HK.out]; exact HR.out.frm hF1 (fun _ _ _ h => h)⟩
    refine (sums_row w1 [.slice A n c] [key] (.cons hp1 .nil) (hG.frm hF1 (fun h => h) (fun h => h)) (by have := hF1.size; omega) (by simp; have := HK.out; omega) (by simp)).mono ?_
    rintro e w2 ⟨rfl, hb2⟩
    have hfl : [key].flatten = key := by simp
    rw [hfl]
    have hF2 : Frm (fun _ => False) w1 w2 := Frm.of_below hb2
    have HLs : Hid ((cellsB (shaL key)).length = 32) := shaC_length _
    have hb1 := hB1.frm hF2 (fun h => h)
    have hbl2 : Below w.heap.size w w2 := (hF1.trans hF2 (fun _ _ h => h)).below (Nat.le_refl _) (fun _ h => h.elim)
    have HMN : Hid (32 = Nat.min 32 64) := rfl
    have HSP : Hid (splice (cellsB (List.replicate 64 0)) 0 (cellsB ((shaL key).take 32)) = cellsB (padK key)) := by
      show _ = _
      have := pad_splice (shaL key) (by rw [shaL_length]; omega)
      rw [shaL_length] at this
      rw [this, padK, Hkey.out, shaL_length]
    have hg1 : g1 < w2.heap.size := hb1.lt
    clear hp1 hb2 hF2 hB1 hF1 hfl hG HK HR Hkey
    generalize shaL key = x at *
    go_wp2_with (first
      | ((with_reducible refine wpl_alloca (op := ⟨some 3, _, _, _, _, _⟩) rfl _ rfl _ zero32 ?_); intro g3 w3 hB3 hs3 hF3)
      | ((with_reducible refine wpl_storea agg32 rfl (.tmp 3) (.tmp 10) rfl g3 (cellsB x) rfl rfl _ _ hB3 HLs.out zero32_size (cellsB_one _) ?_); intro w4 hB4 hF4; have hne : g1 ≠ g3 := (by omega); have hBr := (hb1.frm hF3 (fun h => h)).frm hF4 hne; have hrd := hB4.rds; rw [HLs.out] at hrd; have hbl := below_frm (below_frm hbl2 hF3 hbl2.size (fun _ h => h.elim)) hF4 (by have := hbl2.size; have := hF3.size; omega) (fun k hk => by have := hbl2.size; omega))
      | ((with_reducible refine wpl_alloca (op := ⟨some 4, _, _, _, _, _⟩) rfl _ rfl _ zero64b ?_); intro g4 w5 hB5 hs5 hF5; have hr5 := hrd.frm hF5 (fun _ _ _ h => h))
      | ((with_reducible refine wpl_copyR rfl (.tmp 12) (.tmp 13) rfl g4 0 64 64 (some ⟨g3, 0, none⟩) 32 32 32 rfl rfl (cellsB (List.replicate 64 0)) _ hB5 x hr5 HMN.out (by decide) ?_); intro w6 hB6 hF6; rw [HSP.out] at hB6; have hb16 := (hBr.frm hF5 (fun h => h)).frm hF6 (by have := hBr.lt; omega))
      | (with_reducible refine wpl_loada (op := ⟨some 15, _, _, _, _, _⟩) agg64b rfl _ rfl g4 0 rfl _ _ _ hB6 HX2.out HXl.out ?_)
      | ((with_reducible refine wpl_storea agg64b rfl (.tmp 2) (.tmp 15) rfl g1 (cellsB (padK key)) rfl rfl _ _ hb16 HL.out rfl (cellsB_one _) ?_); intro w10 hB10 hF10))
    have FF : Frm (fun k => k = g4 ∨ k = g1) w4 w10 := ((hF5.mono (T := fun k => k = g4 ∨ k = g1) (fun _ _ h => h.elim)).trans hF6 (fun _ _ h => .inl h)).trans hF10 (fun _ _ h => .inr h)
    exact ret_agg agg64b rfl rfl g1 _ _ rfl hB10 HL.out ⟨rfl, below_frm hbl FF hbl.size (fun k hk => by have := hbl.size; omega)⟩
  · have hki : ¬ ((64 : Int) < (n : Int)) := by omega
    obtain ⟨x, hx⟩ : ∃ x, x = keyL key := ⟨_, rfl⟩
    have Hkey : Hid (keyL key = key) := by show _ = _; unfold keyL; rw [if_neg (by rw [HK.out]; exact h64)]
    rw [Hkey.out] at hx
    subst hx
    have HMN : Hid (n = Nat.min n 64) := (Nat.min_eq_left (by omega)).symm
    have HSP : Hid (splice (cellsB (List.replicate 64 0)) 0 (cellsB (x.take n)) = cellsB (padK x)) := by
      show _ = _
      have := pad_splice x (by rw [HK.out]; omega)
      rw [HK.out] at this
      rw [this, padK, Hkey.out, HK.out]
    go_wp2_with (first
      | ((with_reducible refine wpl_alloca (op := ⟨some 2, _, _, _, _, _⟩) rfl _ rfl _ zero64b ?_); intro g1 w1 hBr hs1 hF1; have hrd := HR.out.frm hF1 (fun _ _ _ h => h); have hbl := hF1.below (Nat.le_refl _) (fun _ h => h.elim))
      | ((with_reducible refine wpl_alloca (op := ⟨some 4, _, _, _, _, _⟩) rfl _ rfl _ zero64b ?_); intro g4 w5 hB5 hs5 hF5; have hr5 := hrd.frm hF5 (fun _ _ _ h => h))
      | ((with_reducible refine wpl_copyR rfl (.tmp 12) (.tmp 13) rfl g4 0 64 64 A n c n rfl rfl (cellsB (List.replicate 64 0)) _ hB5 x hr5 HMN.out (by decide) ?_); intro w6 hB6 hF6; rw [HSP.out] at hB6; have hb16 := (hBr.frm hF5 (fun h => h)).frm hF6 (by have := hBr.lt; omega))
      | (with_reducible refine wpl_loada (op := ⟨some 15, _, _, _, _, _⟩) agg64b rfl _ rfl g4 0 rfl _ _ _ hB6 HX2.out HXl.out ?_)
      | ((with_reducible refine wpl_storea agg64b rfl (.tmp 2) (.tmp 15) rfl g1 (cellsB (padK x)) rfl rfl _ _ hb16 HL.out rfl (cellsB_one _) ?_); intro w10 hB10 hF10))
    have FF : Frm (fun k => k = g4 ∨ k = g1) w1 w10 := ((hF5.mono (T := fun k => k = g4 ∨ k = g1) (fun _ _ h => h.elim)).trans hF6 (fun _ _ h => .inl h)).trans hF10 (fun _ _ h => .inr h)
    exact ret_agg agg64b rfl rfl g1 _ _ rfl hB10 HL.out ⟨rfl, below_frm hbl FF hbl.size (fun k hk => by have := hbl.size; omega)⟩
end Go.Proofs.YtbicjcpdcopbhaaDoor
