/-
  window.Windows by a contract: ErrArg, ErrOver, or each hop's window, in a row of its own. What lay when the call began lies as it lay.
-/
import Derived.Test.YtcnnekdeakfjeaaWnA
import Derived.Test.YtcnnekdeakfjeaaWnM
namespace Go.Proofs.Ytcnnekdeakfjeaa
set_option linter.unusedVariables false
open Go.RowKit

theorem two_win : Two Try.prog 25 35 (.agg #[.int .u64 0, .int .u64 0]) 16 := Two.of (by kernel_rfl) (by kernel_rfl) rfl

theorem u64wrap (n : Int) : IntKind.u64.wrap n = n % 18446744073709551616 := by simp [IntKind.wrap, IntKind.bits, IntKind.signed]

/-- What Windows tells. -/
def Wins (w : World) (B : Nat) (e : TypeId) (s : Nat) (d : List Nat) (L K n : Nat) (en : Ending) (w' : World) : Prop :=
  ∃ A c, en = .returned (.tuple #[.slice A n c, .int .i64 0]) ∧ POwn w' B e A n c (winTo s d L K n) ∧ Below w.heap.size w w'
def NoWins (w : World) (err : Int) (en : Ending) (w' : World) : Prop := en = .returned (.tuple #[.slice none 0 0, .int .i64 err]) ∧ Below w.heap.size w w'

set_option maxHeartbeats 400000 in
theorem win_arg (s : Nat) (A : Option Addr) (n c : Nat) (L K : Nat) (w : World) (h : n = 0 ∨ 5 < n) :
    Calls Try.prog 10 #[.int .u64 (s : Int), .slice A n c, .int .u64 (L : Int), .int .u64 (K : Int)] w (NoWins w 1) := by
  rcases h with rfl | h
  · go_enter Try.func10, Try.ntmps10
    go_wp2_with fail
    go_ret2
    exact ⟨rfl, Below.refl _ _⟩
  · have h1 : ¬ ((n : Int) < 1) := by omega
    have h2 : 5 < (n : Int) := by omega
    go_enter Try.func10, Try.ntmps10
    go_wp2_with fail
    go_ret2
    exact ⟨rfl, Below.refl _ _⟩

theorem less_still (a b : Int) (w : World) (v : Int) (ha : 0 ≤ a) (ha1 : a < 18446744073709551616) (hb : 0 ≤ b) (hb1 : b < 18446744073709551616) (hv : subV a b = v) :
    Calls Try.prog 17 #[.int .u64 a, .int .u64 b] w fun e w' => e = .returned (.int .u64 v) ∧ w' = w :=
  (less_any a b w ha ha1 hb hb1).mono fun e w' ⟨he, hw⟩ => ⟨by rw [he, hv], hw.symm⟩

/-- What holds at any place of a round. -/
structure WSt (w : World) (gE gS : Nat) (aE : Int) (oE : Bool) (aS : Int) (oS : Bool) (A : Option Addr) (k c : Nat) (l : List (Nat × Nat)) (wr : World) : Prop where
  own : POwn wr w.heap.size 35 A k c l
  bE : Blk wr gE 49 #[.int .u64 aE, .bool oE]
  bS : Blk wr gS 49 #[.int .u64 aS, .bool oS]
  below : Below w.heap.size w wr
  lE : w.heap.size ≤ gE
  lS : w.heap.size ≤ gS
  ne : gE ≠ gS
section
variable {w wr w1 : World} {gE gS : Nat} {aE : Int} {oE : Bool} {aS : Int} {oS : Bool} {A : Option Addr} {k c : Nat} {l : List (Nat × Nat)}
theorem WSt.call (h : WSt w gE gS aE oE aS oS A k c l wr) (hb : Below wr.heap.size wr w1) : WSt w gE gS aE oE aS oS A k c l w1 := by
  have f : Frm (fun _ => False) wr w1 := Frm.of_below hb
  exact ⟨h.own.frm f (fun _ _ h => h), h.bE.frm f id, h.bS.frm f id, below_frm h.below f h.below.size (fun _ h => h.elim), h.lE, h.lS, h.ne⟩
theorem WSt.setS {a : Int} {o : Bool} (h : WSt w gE gS aE oE aS oS A k c l wr) (hb : Blk w1 gS 49 #[.int .u64 a, .bool o]) (f : Frm (fun k => k = gS) wr w1) : WSt w gE gS aE oE a o A k c l w1 :=
  ⟨h.own.frm f (fun k hk e => by subst e; exact h.own.ne h.bS (by decide) hk), h.bE.frm f h.ne, hb, below_frm h.below f h.below.size (fun k e => by have := h.lS; omega), h.lE, h.lS, h.ne⟩
theorem WSt.setE {a : Int} {o : Bool} (h : WSt w gE gS aE oE aS oS A k c l wr) (hb : Blk w1 gE 49 #[.int .u64 a, .bool o]) (f : Frm (fun k => k = gE) wr w1) : WSt w gE gS a o aS oS A k c l w1 :=
  ⟨h.own.frm f (fun k hk e => by subst e; exact h.own.ne h.bE (by decide) hk), hb, h.bS.frm f h.ne.symm, below_frm h.below f h.below.size (fun k e => by have := h.lE; omega), h.lE, h.lS, h.ne⟩
theorem WSt.app {A' : Option Addr} {k' c' : Nat} {l' : List (Nat × Nat)} (h : WSt w gE gS aE oE aS oS A k c l wr) (ho : POwn w1 w.heap.size 35 A' k' c' l') (f : Frm (fun j => some j = (Value.slice A k c).ownBlock) wr w1) : WSt w gE gS aE oE aS oS A' k' c' l' w1 :=
  ⟨ho, h.bE.frm f (fun e => h.own.ne h.bE (by decide) e.symm), h.bS.frm f (fun e => h.own.ne h.bS (by decide) e.symm), below_frm h.below f h.below.size (fun k e => (h.own.ge k e.symm).1), h.lE, h.lS, h.ne⟩
theorem WSt.drewN (h : WSt w gE gS aE oE aS oS A k c l wr) (q : Nat) : WSt w gE gS aE oE aS oS A k c l (wr.drewN q) := ⟨h.own, h.bE, h.bS, below_drewN h.below q, h.lE, h.lS, h.ne⟩
end
theorem sum_one (a : Int) (o : Bool) : ∀ v ∈ [Value.int .u64 a, Value.bool o], v.oneCell' = true := by
  intro v hv
  rcases List.mem_cons.1 hv with rfl | hv
  · rfl
  · rcases List.mem_cons.1 hv with rfl | hv
    · rfl
    · cases hv
/-- What holds ahead of hop k. -/
def WInv (w : World) (gE gS : Nat) (s : Nat) (d : List Nat) (L K k : Nat) (A : Option Addr) (c : Nat) (wr : World) : Prop :=
  ∃ aE oE aS oS, WSt w gE gS aE oE aS oS A k c (winTo s d L K k) wr ∧ SumR aE oE (earl s d k) ∧ SumR aS oS (earl s d k + k * L)

set_option maxHeartbeats 2000000 in
theorem win_any (s : Nat) (A : Option Addr) (n c : Nat) (d : List Nat) (L K : Nat) (w : World) (hs : s < 18446744073709551616) (hL : L < 18446744073709551616) (hK : K < 18446744073709551616) (hd : ∀ x ∈ d, x < 4294967296)
    (hA : Rds w A n (cellsI .u32 d)) (h1 : 1 ≤ n) (h5 : n ≤ 5) :
    Calls Try.prog 10 #[.int .u64 (s : Int), .slice A n c, .int .u64 (L : Int), .int .u64 (K : Int)] w (fun en w' => (FitTo s d L K n ∧ Wins w w.heap.size 35 s d L K n en w') ∨ (¬ FitTo s d L K n ∧ NoWins w 9 en w')) := by
  have hal : d.length = n := by have := hA.1; rwa [cellsI_length] at this
  have HAL := hide hal
  have HA := hide hA
  have HD := hide hd
  have hn1 : ¬ ((n : Int) < 1) := by omega
  have hn5 : ¬ (5 < (n : Int)) := by omega
  have HS := hide hs
  have HL := hide hL
  have HK := hide hK
  clear hA hal hd hs hL hK
  go_enter Try.func10, Try.ntmps10
  go_wp2_with (refine wpl_makeP two_win rfl (.const (.int .i64 0)) (.tmp 25) rfl (n : Int) n rfl rfl rfl (by omega) (by decide) ?_; intro A0 w0 hO0 hF0)
  have HI0 : Hid (WInv w w0.heap.size (w0.heap.size + 1) s d L K 0 A0 n ((w0.alloc (.cells #[.int .u64 (s : Int), .bool false] 49)).alloc (.cells #[.int .u64 (s : Int), .bool false] 49))) := by
    refine ⟨_, _, _, _, ⟨hO0.frm (Frm.of_below (S := fun _ => False) (below2 _ _ _)) (fun _ _ h => h), (Blk.new _ _ _).frm (Frm.alloc _ _ (fun _ => False)) id, Blk.new2 _ _ _ _, (hF0.trans (Frm.of_below (S := fun _ => False) (below2 _ _ _)) (fun _ _ h => h)).below (Nat.le_refl _) (fun _ h => h.elim), hF0.size, Nat.le_succ_of_le hF0.size, by omega⟩, ?_, ?_⟩
    · rw [earl_zero]; exact SumR.start s HS.out
    · rw [earl_zero]; simpa using SumR.start s HS.out
  clear hO0 hF0
  go_loopw [10, 32] (fun v i wr => ∃ (k : Nat) (A1 : Option Addr) (c1 : Nat), k ≤ n ∧ i = .int .i64 k ∧ v = .slice A1 k c1 ∧ FitTo s d L K k ∧ WInv w w0.heap.size (w0.heap.size + 1) s d L K k A1 c1 wr) (fun _ i _ => n - (intOf i).toNat)
  case atStart => exact ⟨0, A0, n, by omega, rfl, rfl, (fun i hi => by omega), HI0.out⟩
  case round =>
    obtain ⟨k, A1, c1, hk, rfl, rfl, hfit, aE, oE, aS, oS, ht, hsE, hsS⟩ := hrel
    have HT := hide ht
    have HF := hide hfit
    have HSE := hide hsE
    have HSS := hide hsS
    clear ht hfit HI0 hsE hsS
    by_cases hlt : k < n
    · have hki : (k : Int) < (n : Int) := by omega
      obtain ⟨pa, rfl, hca⟩ := HA.out.2 (by omega)
      have ca0 := hca k _ (cellsI_at d k (by rw [HAL.out]; exact hlt))
      have ca : wr.cell? (pa.add k) = some (.int .u32 ((d.getD k 0 : Nat) : Int)) := by
        rw [HT.out.below.cell (World.block_lt_of_cell? _ _ ca0)]
        exact ca0
      have HX : Hid (d.getD k 0 < 4294967296) := by
        have hkl : k < d.length := by rw [HAL.out]; exact hlt
        show d.getD k 0 < _
        rw [List.getD_eq_getElem?_getD, List.getElem?_eq_getElem hkl]
        exact HD.out _ (List.getElem_mem hkl)
      have HES := hide (earl_succ s d k (by rw [HAL.out]; exact hlt))
      clear ca0 hca
      generalize d.getD k 0 = x at *
      go_wp2_with (refine wpl_loada agg_sum rfl (.tmp 12) rfl (w0.heap.size + 1) 0 rfl _ [.int .u64 aS, .bool oS] [.int .u64 aS, .bool oS] HT.out.bS rfl (by simp) ?_)
      refine (and_any aS oS _ L _ HSS.out HL.out).mono ?_
      rintro e w1 ⟨⟨a1, o1, rfl, h1⟩, hb1⟩
      have HT1 := hide (HT.out.call hb1)
      have HS1 : Hid (SumR a1 o1 (earl s d k + (k + 1) * L)) := by rw [Nat.add_mul, Nat.one_mul, ← Nat.add_assoc]; exact h1
      clear h1 hb1 ca HT
      go_wp2_with (first | (refine wpl_storea agg_sum rfl (.tmp 12) (.tmp 38) rfl (w0.heap.size + 1) [.int .u64 a1, .bool o1] rfl rfl _ _ HT1.out.bS rfl rfl (sum_one _ _) ?_; intro w2 hb2 hf2; have HT2 := hide (HT1.out.setS hb2 hf2); clear hb2 hf2) | (refine wpl_loada agg_sum rfl (.tmp 12) rfl (w0.heap.size + 1) 0 rfl _ [.int .u64 a1, .bool o1] [.int .u64 a1, .bool o1] HT2.out.bS rfl (by simp) ?_))
      refine (and_any a1 o1 _ K _ HS1.out HK.out).mono ?_
      rintro e w3 ⟨⟨a2, o2, rfl, h2⟩, hb3⟩
      have HT3 := hide (HT2.out.call hb3)
      have HS2 : Hid (SumR a2 o2 (hiN s d L K k)) := h2
      clear h2 hb3 HT1 HT2
      have HT4 := hide (HT3.out.call (below1 w3 (.cells #[.int .u64 a2, .bool o2] 49)))
      have HN4 := hide (Blk.new w3 49 #[.int .u64 a2, .bool o2])
      rcases HS2.out.2.2 with ⟨rfl, h2, h3⟩ | ⟨rfl, h2⟩
      · have HV := hide h2
        have HH := hide h3
        clear h2 h3
        obtain ⟨ho, haE, hle⟩ : oE = false ∧ aE = (earl s d k : Int) ∧ earl s d k < 18446744073709551616 := by
          rcases HSE.out.2.2 with h | ⟨_, h⟩
          · exact h
          · have := earl_le s d L K k
            have := HH.out
            omega
        obtain ⟨lo, hlo⟩ : ∃ lo : Nat, lo = earl s d k - K := ⟨_, rfl⟩
        obtain ⟨hi, hhi⟩ : ∃ hi : Nat, hi = hiN s d L K k := ⟨_, rfl⟩
        have HP : Hid (winTo s d L K (k + 1) = winTo s d L K k ++ [(lo, hi)]) := by rw [hlo, hhi]; rfl
        have ha2 : a2 = (hi : Int) := by rw [hhi]; exact HV.out
        have HFN := hide (FitTo.succ HF.out HH.out)
        have HLV : Hid (subV aE (K : Int) = (lo : Int)) := by
          show subV aE (K : Int) = (lo : Int)
          rw [haE, hlo]
          unfold subV
          split <;> omega
        have HB1 : Hid (0 ≤ aE ∧ aE < 18446744073709551616) := ⟨by omega, by omega⟩
        have HB2 : Hid (0 ≤ (K : Int) ∧ (K : Int) < 18446744073709551616) := by have := HK.out; exact ⟨by omega, by omega⟩
        subst ha2
        clear hlo hhi haE ho hle HV HH HF HS2 HT3 HSS
        go_wp2_with fail
        generalize w3.alloc (.cells #[.int .u64 (hi : Int), .bool false] 49) = w4 at *
        generalize w3.heap.size = gH at *
        -- region 13
        refine wp_region_held_drew (S := fun w' => w'.cell? ⟨w0.heap.size, 0, none⟩ = some (.int .u64 aE) ∧ w'.cell? ⟨gH, 0, none⟩ = some (.int .u64 (hi : Int))) (by kernel_rfl) (⟨HT4.out.bE.cell 0, HN4.out.cell 0⟩) ?_
        intro hHeld
        refine wpAnyH_take (i := 0) (v := ?v1) rfl (by kernel_rfl) (by kernel_rfl) (by kernel_rfl) (fun _ _ _ h => h) (Or.inl ⟨by rfl, ?hy1⟩) (by assumption) ?rest1
        case hy1 => (intro w hSw; (try dsimp only at hSw); go_simp; try with_reducible rfl)
        try simp only [Act.put, List.getElem_toArray, List.getElem_cons_zero, List.setIfInBounds_toArray, List.set_cons_zero, List.set_cons_succ]
        refine wpAnyH_take (i := 1) (v := ?v2) rfl (by kernel_rfl) (by kernel_rfl) (by kernel_rfl) (fun _ _ _ h => h) (Or.inl ⟨by rfl, ?hy2⟩) (by assumption) ?rest2
        case hy2 => (intro w hSw; (try dsimp only at hSw); go_simp; try with_reducible rfl)
        try simp only [Act.put, List.getElem_toArray, List.getElem_cons_zero, List.getElem_cons_succ, List.setIfInBounds_toArray, List.set_cons_zero, List.set_cons_succ]
        refine wpAnyH_take (i := 2) (v := ?v3) rfl (by kernel_rfl) (by kernel_rfl) (by kernel_rfl) (fun _ _ _ h => h) (Or.inl ⟨by rfl, ?hy3⟩) (by assumption) ?rest3
        case hy3 => (intro w hSw; (try dsimp only at hSw); obtain ⟨hS1, hS2⟩ := hSw; go_simp; try with_reducible rfl)
        try simp only [Act.put, List.getElem_toArray, List.getElem_cons_zero, List.getElem_cons_succ, List.setIfInBounds_toArray, List.set_cons_zero, List.set_cons_succ]
        refine wpAnyH_take (i := 3) (v := ?v4) rfl (by kernel_rfl) (by kernel_rfl) (by kernel_rfl) (fun _ _ _ h => h) (Or.inl ⟨by rfl, ?hy4⟩) (by assumption) ?rest4
        case hy4 => (intro w hSw; (try dsimp only at hSw); go_simp; try with_reducible rfl)
        try simp only [Act.put, List.getElem_toArray, List.getElem_cons_zero, List.getElem_cons_succ, List.setIfInBounds_toArray, List.set_cons_zero, List.set_cons_succ]
        refine wpAnyH_take (i := 5) (v := ?v5) rfl (by kernel_rfl) (by kernel_rfl) (by kernel_rfl) (fun _ _ _ h => h) (Or.inl ⟨by rfl, ?hy5⟩) (by assumption) ?rest5
        case hy5 => (intro w hSw; (try dsimp only at hSw); go_simp; try with_reducible rfl)
        try simp only [Act.put, List.getElem_toArray, List.getElem_cons_zero, List.getElem_cons_succ, List.setIfInBounds_toArray, List.set_cons_zero, List.set_cons_succ]
        refine wpAnyH_take (i := 6) (v := ?v6) rfl (by kernel_rfl) (by kernel_rfl) (by kernel_rfl) (fun _ _ _ h => h) (Or.inl ⟨by rfl, ?hy6⟩) (by assumption) ?rest6
        case hy6 => (intro w hSw; (try dsimp only at hSw); obtain ⟨hS1, hS2⟩ := hSw; go_simp; try with_reducible rfl)
        try simp only [Act.put, List.getElem_toArray, List.getElem_cons_zero, List.getElem_cons_succ, List.setIfInBounds_toArray, List.set_cons_zero, List.set_cons_succ]
        refine wpAnyH_ready (rs := [4]) (by kernel_rfl) (by simp) ?_
        refine AllReadyH.cons rfl (fun K hK => ?_) AllReadyH.nil
        go_simp
        refine (less_still aE _ _ lo HB1.out.1 HB1.out.2 HB2.out.1 HB2.out.2 HLV.out).mono ?_
        rintro e w5 ⟨rfl, rfl⟩
        refine hK.out _ _ (⟨HT4.out.bE.cell 0, HN4.out.cell 0⟩) (fun hHeld => ?_)
        clear hK K
        refine wpAnyH_take (i := 7) (v := ?v7) rfl (by kernel_rfl) (by kernel_rfl) (by kernel_rfl) (fun _ _ _ h => h) (Or.inl ⟨by rfl, ?hy7⟩) (by assumption) ?rest7
        case hy7 => (intro w hSw; (try dsimp only at hSw); go_simp; try with_reducible rfl)
        try simp only [Act.put, List.getElem_toArray, List.getElem_cons_zero, List.getElem_cons_succ, List.setIfInBounds_toArray, List.set_cons_zero, List.set_cons_succ]
        have HT5 := hide ((HT4.out.drewN 1).call (below1 _ (.cells #[.int .u64 (lo : Int), .int .u64 (hi : Int)] 35)))
        have HH5 := hide (HN4.out.frm ((Frm.refl (fun _ => False) _).drewN 1) id |>.frm (Frm.alloc _ (.cells #[.int .u64 (lo : Int), .int .u64 (hi : Int)] 35) (fun _ => False)) id)
        refine wpAnyH_ready (rs := [8]) (by kernel_rfl) (by simp) ?_
        refine AllReadyH.cons rfl (fun K hK => ?_) AllReadyH.nil
        go_simp
        refine hK.out _ _ (⟨HT5.out.bE.cell 0, HH5.out.cell 0⟩) (fun hHeld => ?_)
        clear hK K
        refine wpAnyH_ready (rs := [9]) (by kernel_rfl) (by simp) ?_
        refine AllReadyH.cons rfl (fun K hK => ?_) AllReadyH.nil
        refine step_appP two_win rfl (.tmp 44) (.tmp 52) rfl _ w.heap.size A1 k c1 _ rfl HT5.out.own w4.heap.size (lo, hi) rfl (Blk.new (w4.drewN 1) _ _) (by decide) (k + 1) rfl (by omega) HT5.out.below.size ?_
        intro A2 c2 w6 ho6 hf6
        have HT6 := hide (HT5.out.app ho6 hf6)
        have HH6 := hide (HH5.out.frm hf6 (fun e => HT5.out.own.ne HH5.out (by decide) e.symm))
        refine hK.out _ _ (⟨HT6.out.bE.cell 0, HH6.out.cell 0⟩) (fun hHeld => ?_)
        clear hK K
        refine wpAnyH_take (i := 10) (v := ?v8) rfl (by kernel_rfl) (by kernel_rfl) (by kernel_rfl) (fun _ _ _ h => h) (Or.inl ⟨by rfl, ?hy8⟩) (by assumption) ?rest8
        case hy8 => (intro w hSw; (try dsimp only at hSw); go_simp; try with_reducible rfl)
        try simp only [Act.put, List.getElem_toArray, List.getElem_cons_zero, List.getElem_cons_succ, List.setIfInBounds_toArray, List.set_cons_zero, List.set_cons_succ]
        refine wpAnyH_done (by kernel_rfl) ?_ _
        -- behind region 13
        clear hHeld HT4 HN4 HT5 HH5 HH6
        rw [← HP.out] at HT6
        clear HP HLV HB1 HB2
        have hxw : IntKind.u64.wrap (x : Int) = (x : Int) := by rw [u64wrap]; have := HX.out; omega
        go_wp2_with (refine wpl_loada agg_sum rfl (.tmp 11) rfl w0.heap.size 0 rfl _ [.int .u64 aE, .bool oE] [.int .u64 aE, .bool oE] HT6.out.bE rfl (by simp) ?_)
        refine (and_any aE oE _ x _ HSE.out (by have := HX.out; omega)).mono ?_
        rintro e w7 ⟨⟨a3, o3, rfl, h3⟩, hb7⟩
        have HT7 := hide (HT6.out.call hb7)
        have HS3 : Hid (SumR a3 o3 (earl s d (k + 1))) := by show SumR _ _ _; rw [HES.out]; exact h3
        clear h3 hb7 HT6 HSE
        go_wp2_with (first | (refine wpl_storea agg_sum rfl (.tmp 11) (.tmp 57) rfl w0.heap.size [.int .u64 a3, .bool o3] rfl rfl _ _ HT7.out.bE rfl rfl (sum_one _ _) ?_; intro w8 hb8 hf8; have HT8 := hide (HT7.out.setE hb8 hf8); clear hb8 hf8) | (refine wpl_loada agg_sum rfl (.tmp 12) rfl (w0.heap.size + 1) 0 rfl _ [.int .u64 a1, .bool o1] [.int .u64 a1, .bool o1] HT8.out.bS rfl (by simp) ?_))
        refine (and_any a1 o1 _ x _ HS1.out (by have := HX.out; omega)).mono ?_
        rintro e w9 ⟨⟨a4, o4, rfl, h4⟩, hb9⟩
        have HT9 := hide (HT8.out.call hb9)
        have HS4 : Hid (SumR a4 o4 (earl s d (k + 1) + (k + 1) * L)) := by show SumR _ _ _; rw [HES.out, Nat.add_right_comm]; exact h4
        clear h4 hb9 HT7 HT8 HS1
        go_wp2_with (first | (refine wpl_storea agg_sum rfl (.tmp 12) (.tmp 61) rfl (w0.heap.size + 1) [.int .u64 a4, .bool o4] rfl rfl _ _ HT9.out.bS rfl rfl (sum_one _ _) ?_; intro w10 hb10 hf10; have HT10 := hide (HT9.out.setS hb10 hf10); clear hb10 hf10))
        go_roundw
        case rel => exact ⟨k + 1, A2, c2, by omega, by go_num, rfl, HFN.out, a3, o3, a4, o4, HT10.out, HS3.out, HS4.out⟩
        case measure => simp [intOf]; omega
      · have HN : Hid (¬ FitTo s d L K n) := not_fit h2 hlt
        clear h2
        go_wp2_with fail
        go_ret2
        exact .inr ⟨HN.out, rfl, HT4.out.below⟩
    · obtain rfl : k = n := by omega
      have hkk : ¬ ((k : Int) < (k : Int)) := by omega
      go_wp2_with fail
      go_ret2
      exact .inl ⟨HF.out, _, _, rfl, HT.out.own, HT.out.below⟩
end Go.Proofs.Ytcnnekdeakfjeaa
