/-
  HeapFull's walk: whatever comes in, the law returns true, and what lay lies as it lay.
-/
import Derived.Test.YtjpmicjlbkdcbaaHqSh
import Derived.Test.YtjpmicjlbkdcbaaHqU4
namespace Go.Proofs.Ytjpmicjlbkdcbaa
set_option linter.unusedVariables false
set_option linter.unusedSimpArgs false
open Go.RowKit hU

/-- What a heap of room K has behind k pushes. -/
structure FullI (K k : Nat) (q : Qu) : Prop where
  most : q.most = (K : Int)
  num : q.num = Nat.min k K
  len : q.S.length = Nat.min k K
  same : ∀ y ∈ q.S, y.x = (y.t : Int)
theorem FullI.ok {K k t : Nat} {q : Qu} (h : FullI K k q) (hk : k < K) : FullI K (k + 1) ⟨q.most, q.num + 1, insT ⟨t, q.num, t⟩ q.S⟩ := by
  obtain ⟨h1, h2, h3, h4⟩ := h
  have e1 : Nat.min k K = k := Nat.min_eq_left (by omega)
  have e2 : Nat.min (k + 1) K = k + 1 := Nat.min_eq_left (by omega)
  rw [e1] at h2 h3
  refine ⟨h1, by rw [e2, h2], by rw [e2, insT_length, h3], fun y hy => ?_⟩
  rcases insT_mem.1 hy with rfl | hy
  · rfl
  · exact h4 y hy
theorem FullI.full {K k : Nat} {q : Qu} (h : FullI K k q) (hk : K ≤ k) : FullI K (k + 1) q := by
  obtain ⟨h1, h2, h3, h4⟩ := h
  have e1 : Nat.min k K = K := Nat.min_eq_right hk
  have e2 : Nat.min (k + 1) K = K := Nat.min_eq_right (by omega)
  rw [e1] at h2 h3
  exact ⟨h1, by rw [e2, h2], by rw [e2, h3], h4⟩

set_option maxHeartbeats 8000000 in
set_option maxRecDepth 100000 in
theorem full_walk (m : Int) (A : Option Addr) (len cap : Nat) (l : List Nat) (w : World) (h : Rds w A len (cellsI .u64 l)) (hu : ∀ n ∈ l, n < 18446744073709551616) (hlc : len ≤ cap) (hcm : cap ≤ 9223372036854775807) :
    Calls Try.prog 6 #[.int .i64 m, .slice A len cap] w fun e w' => e = .returned (.bool true) ∧ Below w.heap.size w w' := by
  have H0 := hide h
  have HU := hide hu
  clear h hu
  obtain ⟨k0, hk0, _⟩ := mask_nat m
  obtain ⟨K, hK⟩ : ∃ K : Nat, K = 1 + k0 % 50 := ⟨_, rfl⟩
  have hK1 : 1 ≤ K := by omega
  have hK50 : K ≤ 50 := by omega
  have e1 : 1 + (k0 : Int) % 50 = (K : Int) := by omega
  have HKK := hide hK
  clear hK
  have HBel : Hid (∀ W, Below w.heap.size w W → Below w.heap.size w W) := fun _ h => h
  have HSH := hide (fun W (h : Below w.heap.size w W) => shown_from (w0 := w) (w := W) h)
  go_enter Try.func6, Try.ntmps6
  go_wp2_with (first
    | (go_at_call 9; refine (HSH.out _ (Below.refl _ w)).mono ?_; rintro e w1 ⟨rfl, hb1⟩; have HB1 := hide hb1; clear hb1)
    | (go_at_call 19; refine (LH.new HB1.out (K : Int)).mono ?_; rintro e w2 ⟨g, rfl, h2⟩; have HH0 := hide h2; clear h2 HB1))
  go_loopw [7, 8, 9, 10] (fun n i _ _ wr => ∃ (k : Nat) (q : Qu), k ≤ Nat.min len 100 ∧ i = .int .i64 (k : Int) ∧ n = .int .i64 (Nat.min k K : Nat) ∧ LH w wr g q ∧ FullI K k q) (fun _ i _ _ _ => 100 - (intOf i).toNat)
  case atStart => exact ⟨0, _, by omega, rfl, (by rw [show Nat.min 0 K = 0 from Nat.zero_min K]; rfl), HH0.out, ⟨by show (if _ then _ else _) = _; rw [if_neg (by omega)], by rw [show Nat.min 0 K = 0 from Nat.zero_min K]; rfl, by rw [show Nat.min 0 K = 0 from Nat.zero_min K]; rfl, fun y hy => by cases hy⟩⟩
  case round =>
    clear HH0
    obtain ⟨k, q, hk, rfl, rfl, hH, hF⟩ := hrel
    have HH := hide hH
    have HF := hide hF
    have hmn : Nat.min len 100 ≤ len := Nat.min_le_left _ _
    have hmx : Nat.min len 100 ≤ 100 := Nat.min_le_right _ _
    clear hH hF
    by_cases hkn : k < Nat.min len 100
    · have hkl : (k : Int) < (len : Int) := by omega
      have hk1 : (k : Int) < 100 := by omega
      obtain ⟨a, rfl, hkl2, hcx⟩ := H0.out.num (show k < len by omega)
      obtain ⟨x, hx⟩ : ∃ x, x = l.getD k 0 := ⟨_, rfl⟩
      have hx64 : x < 18446744073709551616 := by rw [hx]; exact HU.out _ (getD_mem hkl2)
      rw [← hx] at hcx
      have HX := hide hx
      clear hx
      have ew : IntKind.u64.wrap (k : Int) = (k : Int) := by rw [IntKind.wrap_u64]; omega
      by_cases hkK : k < K
      · have hkK' : (k : Int) < (K : Int) := by omega
        have em : Nat.min k K = k := Nat.min_eq_left (by omega)
        have em2 : Nat.min (k + 1) K = k + 1 := Nat.min_eq_left (by omega)
        have HROOM : Hid ((q.S.length : Int) < q.most) := by show _ < _; rw [HF.out.len, HF.out.most, em]; exact hkK'
        have HNEXT := hide (HF.out.ok (t := x) hkK)
        have hlen : q.S.length ≤ 50000 := by rw [HF.out.len, em]; omega
        have hnum : q.num = k := by rw [HF.out.num, em]
        have hnum2 : q.num ≤ 50000 := by omega
        have HEM := hide em
        have HEM2 := hide em2
        simp only [em]
        rw [hnum] at HNEXT
        have HNUM := hide hnum
        clear em em2 hnum
        go_wp2_with fail
        refine wp_region_held_drew (S := fun W => W.cell? (a.add k) = some (.int .u64 (x : Int))) (by kernel_rfl) (cell_below (HBel.out wr HH.out.2) hcx) ?_
        intro hHeld
        refine wpAnyH_take (i := 0) (v := ?v1) rfl (by kernel_rfl) (by kernel_rfl) (by kernel_rfl) (fun _ _ _ h => h) (Or.inl ⟨by rfl, ?hy1⟩) (by assumption) ?rest1
        case hy1 => (intro w hSw; (try dsimp only at hSw); go_simp; try with_reducible rfl)
        try simp only [Act.put, List.getElem_toArray, List.getElem_cons_zero, List.setIfInBounds_toArray, List.set_cons_zero, List.set_cons_succ]
        refine wpAnyH_take (i := 1) (v := ?v2) rfl (by kernel_rfl) (by kernel_rfl) (by kernel_rfl) (fun _ _ _ h => h) (Or.inl ⟨by rfl, ?hy2⟩) (by assumption) ?rest2
        case hy2 => (intro w hSw; (try dsimp only at hSw); go_simp; try with_reducible rfl)
        try simp only [Act.put, List.getElem_toArray, List.getElem_cons_zero, List.getElem_cons_succ, List.setIfInBounds_toArray, List.set_cons_zero, List.set_cons_succ]
        refine wpAnyH_take (i := 2) (v := ?v3) rfl (by kernel_rfl) (by kernel_rfl) (by kernel_rfl) (fun _ _ _ h => h) (Or.inl ⟨by rfl, ?hy3⟩) (by assumption) ?rest3
        case hy3 => (intro w hSw; (try dsimp only at hSw); go_simp; try with_reducible rfl)
        try simp only [Act.put, List.getElem_toArray, List.getElem_cons_zero, List.getElem_cons_succ, List.setIfInBounds_toArray, List.set_cons_zero, List.set_cons_succ]
        refine wpAnyH_take (i := 3) (v := ?v4) rfl (by kernel_rfl) (by kernel_rfl) (by kernel_rfl) (fun _ _ _ h => h) (Or.inl ⟨by rfl, ?hy4⟩) (by assumption) ?rest4
        case hy4 => (intro w hSw; (try dsimp only at hSw); go_simp; try with_reducible rfl)
        try simp only [Act.put, List.getElem_toArray, List.getElem_cons_zero, List.getElem_cons_succ, List.setIfInBounds_toArray, List.set_cons_zero, List.set_cons_succ]
        refine wpAnyH_take (i := 4) (v := ?v5) rfl (by kernel_rfl) (by kernel_rfl) (by kernel_rfl) (fun _ _ _ h => h) (Or.inl ⟨by rfl, ?hy5⟩) (by assumption) ?rest5
        case hy5 => (intro w hSw; (try dsimp only at hSw); go_simp; try with_reducible rfl)
        try simp only [Act.put, List.getElem_toArray, List.getElem_cons_zero, List.getElem_cons_succ, List.setIfInBounds_toArray, List.set_cons_zero, List.set_cons_succ]
        refine wpAnyH_take (i := 5) (v := ?v6) rfl (by kernel_rfl) (by kernel_rfl) (by kernel_rfl) (fun _ _ _ h => h) (Or.inl ⟨by rfl, ?hy6⟩) (by assumption) ?rest6
        case hy6 => (intro w hSw; (try dsimp only at hSw); go_simp; try with_reducible rfl)
        try simp only [Act.put, List.getElem_toArray, List.getElem_cons_zero, List.getElem_cons_succ, List.setIfInBounds_toArray, List.set_cons_zero, List.set_cons_succ]
        refine wpAnyH_take (i := 6) (v := ?v7) rfl (by kernel_rfl) (by kernel_rfl) (by kernel_rfl) (fun _ _ _ h => h) (Or.inl ⟨by rfl, ?hy7⟩) (by assumption) ?rest7
        case hy7 => (intro w hSw; (try dsimp only at hSw); go_simp; try with_reducible rfl)
        try simp only [Act.put, List.getElem_toArray, List.getElem_cons_zero, List.getElem_cons_succ, List.setIfInBounds_toArray, List.set_cons_zero, List.set_cons_succ]
        refine wpAnyH_take (i := 7) (v := ?v8) rfl (by kernel_rfl) (by kernel_rfl) (by kernel_rfl) (fun _ _ _ h => h) (Or.inl ⟨by rfl, ?hy8⟩) (by assumption) ?rest8
        case hy8 => (intro w hSw; (try dsimp only at hSw); go_simp; try with_reducible rfl)
        try simp only [Act.put, List.getElem_toArray, List.getElem_cons_zero, List.getElem_cons_succ, List.setIfInBounds_toArray, List.set_cons_zero, List.set_cons_succ]
        refine wpAnyH_take (i := 8) (v := ?v9) rfl (by kernel_rfl) (by kernel_rfl) (by kernel_rfl) (fun _ _ _ h => h) (Or.inl ⟨by rfl, ?hy9⟩) (by assumption) ?rest9
        case hy9 => (intro w hSw; (try dsimp only at hSw); go_simp; try with_reducible rfl)
        try simp only [Act.put, List.getElem_toArray, List.getElem_cons_zero, List.getElem_cons_succ, List.setIfInBounds_toArray, List.set_cons_zero, List.set_cons_succ]
        refine wpAnyH_ready (rs := [9]) (by kernel_rfl) (by simp) ?_
        refine AllReadyH.cons rfl (fun K hK => ?_) AllReadyH.nil
        go_simp
        refine (LH.push (LH.frm0 HH.out ((Frm.refl _ _).drew)) x x hx64 (by omega) (by omega)).mono ?_
        rintro e w2 ⟨he, h2⟩
        rw [pushV_ok HROOM.out, HNUM.out] at he
        subst he
        rw [Qu.push_ok _ _ HROOM.out, HNUM.out] at h2
        refine hK.out _ _ (cell_below (HBel.out w2 h2.2) hcx) (fun hHeld => ?_)
        clear hK K
        refine wpAnyH_take (i := 10) (v := ?v10) rfl (by kernel_rfl) (by kernel_rfl) (by kernel_rfl) (fun _ _ _ h => h) (Or.inl ⟨by rfl, ?hy10⟩) (by assumption) ?rest10
        case hy10 => (intro w hSw; (try dsimp only at hSw); go_simp; try with_reducible rfl)
        try simp only [Act.put, List.getElem_toArray, List.getElem_cons_zero, List.getElem_cons_succ, List.setIfInBounds_toArray, List.set_cons_zero, List.set_cons_succ]
        refine wpAnyH_take (i := 11) (v := ?v11) rfl (by kernel_rfl) (by kernel_rfl) (by kernel_rfl) (fun _ _ _ h => h) (Or.inl ⟨by rfl, ?hy11⟩) (by assumption) ?rest11
        case hy11 => (intro w hSw; (try dsimp only at hSw); go_simp; try with_reducible rfl)
        try simp only [Act.put, List.getElem_toArray, List.getElem_cons_zero, List.getElem_cons_succ, List.setIfInBounds_toArray, List.set_cons_zero, List.set_cons_succ]
        refine wpAnyH_take (i := 12) (v := ?v12) rfl (by kernel_rfl) (by kernel_rfl) (by kernel_rfl) (fun _ _ _ h => h) (Or.inl ⟨by rfl, ?hy12⟩) (by assumption) ?rest12
        case hy12 => (intro w hSw; (try dsimp only at hSw); go_simp; try with_reducible rfl)
        try simp only [Act.put, List.getElem_toArray, List.getElem_cons_zero, List.getElem_cons_succ, List.setIfInBounds_toArray, List.set_cons_zero, List.set_cons_succ]
        refine wpAnyH_take (i := 13) (v := ?v13) rfl (by kernel_rfl) (by kernel_rfl) (by kernel_rfl) (fun _ _ _ h => h) (Or.inl ⟨by rfl, ?hy13⟩) (by assumption) ?rest13
        case hy13 => (intro w hSw; (try dsimp only at hSw); go_simp; try with_reducible rfl)
        try simp only [Act.put, List.getElem_toArray, List.getElem_cons_zero, List.getElem_cons_succ, List.setIfInBounds_toArray, List.set_cons_zero, List.set_cons_succ]
        refine wpAnyH_take (i := 14) (v := ?v14) rfl (by kernel_rfl) (by kernel_rfl) (by kernel_rfl) (fun _ _ _ h => h) (Or.inl ⟨by rfl, ?hy14⟩) (by assumption) ?rest14
        case hy14 => (intro w hSw; (try dsimp only at hSw); go_simp; try with_reducible rfl)
        try simp only [Act.put, List.getElem_toArray, List.getElem_cons_zero, List.getElem_cons_succ, List.setIfInBounds_toArray, List.set_cons_zero, List.set_cons_succ]
        refine wpAnyH_done (by kernel_rfl) ?_ _
        have HH2 := hide h2
        clear h2 hHeld
        go_wp2_with fail
        go_roundw
        case rel => exact ⟨k + 1, _, by omega, by go_num, (by rw [HEM2.out]; try go_num), HH2.out, HNEXT.out⟩
        case measure => simp [intOf]; omega

      · have hkK' : ¬ (k : Int) < (K : Int) := by omega
        have em : Nat.min k K = K := Nat.min_eq_right (by omega)
        have em2 : Nat.min (k + 1) K = K := Nat.min_eq_right (by omega)
        have HROOM : Hid (q.most ≤ (q.S.length : Int)) := by show _ ≤ _; rw [HF.out.len, HF.out.most, em]; omega
        have HNEXT := hide (HF.out.full (by omega))
        have hlen : q.S.length ≤ 50000 := by rw [HF.out.len, em]; omega
        have hnum2 : q.num ≤ 50000 := by rw [HF.out.num, em]; omega
        have HEM := hide em
        have HEM2 := hide em2
        simp only [em]
        clear em em2
        go_wp2_with fail
        refine wp_region_held_drew (S := fun W => W.cell? (a.add k) = some (.int .u64 (x : Int))) (by kernel_rfl) (cell_below (HBel.out wr HH.out.2) hcx) ?_
        intro hHeld
        refine wpAnyH_take (i := 0) (v := ?v15) rfl (by kernel_rfl) (by kernel_rfl) (by kernel_rfl) (fun _ _ _ h => h) (Or.inl ⟨by rfl, ?hy15⟩) (by assumption) ?rest15
        case hy15 => (intro w hSw; (try dsimp only at hSw); go_simp; try with_reducible rfl)
        try simp only [Act.put, List.getElem_toArray, List.getElem_cons_zero, List.setIfInBounds_toArray, List.set_cons_zero, List.set_cons_succ]
        refine wpAnyH_take (i := 1) (v := ?v16) rfl (by kernel_rfl) (by kernel_rfl) (by kernel_rfl) (fun _ _ _ h => h) (Or.inl ⟨by rfl, ?hy16⟩) (by assumption) ?rest16
        case hy16 => (intro w hSw; (try dsimp only at hSw); go_simp; try with_reducible rfl)
        try simp only [Act.put, List.getElem_toArray, List.getElem_cons_zero, List.getElem_cons_succ, List.setIfInBounds_toArray, List.set_cons_zero, List.set_cons_succ]
        refine wpAnyH_take (i := 2) (v := ?v17) rfl (by kernel_rfl) (by kernel_rfl) (by kernel_rfl) (fun _ _ _ h => h) (Or.inl ⟨by rfl, ?hy17⟩) (by assumption) ?rest17
        case hy17 => (intro w hSw; (try dsimp only at hSw); go_simp; try with_reducible rfl)
        try simp only [Act.put, List.getElem_toArray, List.getElem_cons_zero, List.getElem_cons_succ, List.setIfInBounds_toArray, List.set_cons_zero, List.set_cons_succ]
        refine wpAnyH_take (i := 3) (v := ?v18) rfl (by kernel_rfl) (by kernel_rfl) (by kernel_rfl) (fun _ _ _ h => h) (Or.inl ⟨by rfl, ?hy18⟩) (by assumption) ?rest18
        case hy18 => (intro w hSw; (try dsimp only at hSw); go_simp; try with_reducible rfl)
        try simp only [Act.put, List.getElem_toArray, List.getElem_cons_zero, List.getElem_cons_succ, List.setIfInBounds_toArray, List.set_cons_zero, List.set_cons_succ]
        refine wpAnyH_take (i := 4) (v := ?v19) rfl (by kernel_rfl) (by kernel_rfl) (by kernel_rfl) (fun _ _ _ h => h) (Or.inl ⟨by rfl, ?hy19⟩) (by assumption) ?rest19
        case hy19 => (intro w hSw; (try dsimp only at hSw); go_simp; try with_reducible rfl)
        try simp only [Act.put, List.getElem_toArray, List.getElem_cons_zero, List.getElem_cons_succ, List.setIfInBounds_toArray, List.set_cons_zero, List.set_cons_succ]
        refine wpAnyH_take (i := 5) (v := ?v20) rfl (by kernel_rfl) (by kernel_rfl) (by kernel_rfl) (fun _ _ _ h => h) (Or.inl ⟨by rfl, ?hy20⟩) (by assumption) ?rest20
        case hy20 => (intro w hSw; (try dsimp only at hSw); go_simp; try with_reducible rfl)
        try simp only [Act.put, List.getElem_toArray, List.getElem_cons_zero, List.getElem_cons_succ, List.setIfInBounds_toArray, List.set_cons_zero, List.set_cons_succ]
        refine wpAnyH_take (i := 6) (v := ?v21) rfl (by kernel_rfl) (by kernel_rfl) (by kernel_rfl) (fun _ _ _ h => h) (Or.inl ⟨by rfl, ?hy21⟩) (by assumption) ?rest21
        case hy21 => (intro w hSw; (try dsimp only at hSw); go_simp; try with_reducible rfl)
        try simp only [Act.put, List.getElem_toArray, List.getElem_cons_zero, List.getElem_cons_succ, List.setIfInBounds_toArray, List.set_cons_zero, List.set_cons_succ]
        refine wpAnyH_take (i := 7) (v := ?v22) rfl (by kernel_rfl) (by kernel_rfl) (by kernel_rfl) (fun _ _ _ h => h) (Or.inl ⟨by rfl, ?hy22⟩) (by assumption) ?rest22
        case hy22 => (intro w hSw; (try dsimp only at hSw); go_simp; try with_reducible rfl)
        try simp only [Act.put, List.getElem_toArray, List.getElem_cons_zero, List.getElem_cons_succ, List.setIfInBounds_toArray, List.set_cons_zero, List.set_cons_succ]
        refine wpAnyH_take (i := 8) (v := ?v23) rfl (by kernel_rfl) (by kernel_rfl) (by kernel_rfl) (fun _ _ _ h => h) (Or.inl ⟨by rfl, ?hy23⟩) (by assumption) ?rest23
        case hy23 => (intro w hSw; (try dsimp only at hSw); go_simp; try with_reducible rfl)
        try simp only [Act.put, List.getElem_toArray, List.getElem_cons_zero, List.getElem_cons_succ, List.setIfInBounds_toArray, List.set_cons_zero, List.set_cons_succ]
        refine wpAnyH_ready (rs := [9]) (by kernel_rfl) (by simp) ?_
        refine AllReadyH.cons rfl (fun K hK => ?_) AllReadyH.nil
        go_simp
        refine (LH.push (LH.frm0 HH.out ((Frm.refl _ _).drew)) x x hx64 (by omega) (by omega)).mono ?_
        rintro e w2 ⟨he, h2⟩
        rw [pushV_full HROOM.out] at he
        subst he
        rw [Qu.push_full _ _ HROOM.out] at h2
        refine hK.out _ _ (cell_below (HBel.out w2 h2.2) hcx) (fun hHeld => ?_)
        clear hK K
        refine wpAnyH_take (i := 10) (v := ?v24) rfl (by kernel_rfl) (by kernel_rfl) (by kernel_rfl) (fun _ _ _ h => h) (Or.inl ⟨by rfl, ?hy24⟩) (by assumption) ?rest24
        case hy24 => (intro w hSw; (try dsimp only at hSw); go_simp; try with_reducible rfl)
        try simp only [Act.put, List.getElem_toArray, List.getElem_cons_zero, List.getElem_cons_succ, List.setIfInBounds_toArray, List.set_cons_zero, List.set_cons_succ]
        refine wpAnyH_take (i := 11) (v := ?v25) rfl (by kernel_rfl) (by kernel_rfl) (by kernel_rfl) (fun _ _ _ h => h) (Or.inl ⟨by rfl, ?hy25⟩) (by assumption) ?rest25
        case hy25 => (intro w hSw; (try dsimp only at hSw); go_simp; try with_reducible rfl)
        try simp only [Act.put, List.getElem_toArray, List.getElem_cons_zero, List.getElem_cons_succ, List.setIfInBounds_toArray, List.set_cons_zero, List.set_cons_succ]
        refine wpAnyH_take (i := 12) (v := ?v26) rfl (by kernel_rfl) (by kernel_rfl) (by kernel_rfl) (fun _ _ _ h => h) (Or.inl ⟨by rfl, ?hy26⟩) (by assumption) ?rest26
        case hy26 => (intro w hSw; (try dsimp only at hSw); go_simp; try with_reducible rfl)
        try simp only [Act.put, List.getElem_toArray, List.getElem_cons_zero, List.getElem_cons_succ, List.setIfInBounds_toArray, List.set_cons_zero, List.set_cons_succ]
        refine wpAnyH_take (i := 13) (v := ?v27) rfl (by kernel_rfl) (by kernel_rfl) (by kernel_rfl) (fun _ _ _ h => h) (Or.inl ⟨by rfl, ?hy27⟩) (by assumption) ?rest27
        case hy27 => (intro w hSw; (try dsimp only at hSw); go_simp; try with_reducible rfl)
        try simp only [Act.put, List.getElem_toArray, List.getElem_cons_zero, List.getElem_cons_succ, List.setIfInBounds_toArray, List.set_cons_zero, List.set_cons_succ]
        refine wpAnyH_take (i := 14) (v := ?v28) rfl (by kernel_rfl) (by kernel_rfl) (by kernel_rfl) (fun _ _ _ h => h) (Or.inl ⟨by rfl, ?hy28⟩) (by assumption) ?rest28
        case hy28 => (intro w hSw; (try dsimp only at hSw); go_simp; try with_reducible rfl)
        try simp only [Act.put, List.getElem_toArray, List.getElem_cons_zero, List.getElem_cons_succ, List.setIfInBounds_toArray, List.set_cons_zero, List.set_cons_succ]
        refine wpAnyH_done (by kernel_rfl) ?_ _
        have HH2 := hide h2
        clear h2 hHeld
        go_wp2_with fail
        go_roundw
        case rel => exact ⟨k + 1, _, by omega, by go_num, (by rw [HEM2.out]; try go_num), HH2.out, HNEXT.out⟩
        case measure => simp [intOf]; omega

    · have hex : (¬ (k : Int) < (len : Int)) ∨ ((k : Int) < (len : Int) ∧ ¬ (k : Int) < 100) := by
        by_cases h1 : k < len
        · right
          have : Nat.min len 100 = min len 100 := rfl
          omega
        · exact .inl (by omega)
      obtain ⟨n, hn⟩ : ∃ n, n = Nat.min k K := ⟨_, rfl⟩
      have hlen : q.S.length = n := by rw [HF.out.len, hn]
      have HSAME := hide HF.out.same
      have hn50 : n ≤ 50 := by rw [hn]; exact Nat.le_trans (Nat.min_le_right _ _) hK50
      rw [← hn]
      clear hn HF hk hkn hmn hmx
      have HLEN := hide hlen
      clear hlen
      rcases hex with hex | ⟨hex, hex2⟩
      all_goals
        go_wp2_with (go_at_call 21; refine (LH.len HH.out).mono ?_; rintro e w3 ⟨rfl, hw3⟩; replace hw3 := hw3.symm; subst hw3; rw [HLEN.out])
        go_loopw [11, 12, 13, 14] (fun i _ _ _ wr => ∃ (j : Nat) (q : Qu), j ≤ n ∧ i = .int .i64 (j : Int) ∧ LH w wr g q ∧ q.S.length = n - j ∧ ∀ y ∈ q.S, y.x = (y.t : Int)) (fun i _ _ _ _ => n - (intOf i).toNat)
        case atStart => exact ⟨0, q, by omega, rfl, HH.out, HLEN.out, HSAME.out⟩
        case round =>
          clear HH HLEN HSAME hex
          try clear hex2
          obtain ⟨j, q2, hj, rfl, hH2, hl2, hs2⟩ := hrel
          have HH2 := hide hH2
          by_cases hjn : j < n
          · have hjn' : (j : Int) < (n : Int) := by omega
            obtain ⟨s, S, hS⟩ : ∃ s S, q2.S = s :: S := by
              cases h : q2.S with
              | nil => rw [h] at hl2; simp at hl2; omega
              | cons s S => exact ⟨s, S, rfl⟩
            have hst : s.t ≤ 18446744073709551615 := by have := hH2.ok.ticks s (by rw [hS]; exact List.mem_cons_self ..); omega
            have hsx := hs2 s (by rw [hS]; exact List.mem_cons_self ..)
            have HL2 : Hid (S.length = n - (j + 1)) := by show _ = _; rw [hS] at hl2; simp at hl2; omega
            have HS2 : Hid (∀ y ∈ S, y.x = (y.t : Int)) := fun y hy => hs2 y (by rw [hS]; exact List.mem_cons_of_mem _ hy)
            have HPV := hide (hU.popV_some hS hst)
            have HPQ := hide (Qu.pop_some hS hst)
            rw [hsx] at HPV
            have hl50 : q2.S.length ≤ 50000 := by omega
            clear hH2 hl2 hs2 hS hsx
            go_wp2_with (go_at_call 22; refine (LH.pop HH2.out 18446744073709551615 hl50).mono ?_; rintro e w4 ⟨he, h4⟩; rw [HPV.out] at he; rw [HPQ.out] at h4; subst he; have HH4 := hide h4; clear h4)
            go_roundw
            case rel => exact ⟨j + 1, _, by omega, by go_num, HH4.out, HL2.out, HS2.out⟩
            case measure => simp [intOf]; omega
          · have hjn' : ¬ (j : Int) < (n : Int) := by omega
            have hl0 : q2.S.length = 0 := by omega
            have HL0 := hide hl0
            clear hl0 hl2 hs2 hH2
            go_wp2_with (go_at_call 21; refine (LH.len HH2.out).mono ?_; rintro e w3 ⟨rfl, hw3⟩; replace hw3 := hw3.symm; subst hw3; rw [HL0.out])
            go_ret
            exact ⟨rfl, HH2.out.2⟩
end Go.Proofs.Ytjpmicjlbkdcbaa
