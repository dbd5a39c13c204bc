/-
  WindowComes, walked.
-/
import Derived.Test.YtcnnekdeakfjeaaWn8
import Derived.Test.YtcnnekdeakfjeaaWnHas
namespace Go.Proofs.Ytcnnekdeakfjeaa
set_option linter.unusedVariables false
open Go.RowKit

theorem rem_nat (x M : Nat) (h : M < 1099511627776) : ∃ r M1 : Nat, r ≤ M ∧ IntKind.u64.wrap ((M : Int) + 1) = (M1 : Int) ∧ ¬ ((M1 : Int) = 0) ∧ (x : Int).tmod (M1 : Int) = (r : Int) := by
  refine ⟨x % (M + 1), M + 1, ?_, ?_, by omega, ?_⟩
  · have := Nat.mod_lt x (show 0 < M + 1 by omega); omega
  · rw [u64wrap]; omega
  · rw [Int.ofNat_tmod]
theorem cellsZ_at (l : List Int) (k : Nat) (h : k < l.length) : (l.map (Value.int .i64))[k]? = some (.int .i64 (l.getD k 0)) := by
  rw [List.getElem?_map, List.getD_eq_getElem?_getD, List.getElem?_eq_getElem h]
  rfl
theorem getD_lt2 {d : List Nat} {M : Nat} (h : ∀ x ∈ d, x < M) {k : Nat} (hk : k < d.length) : d.getD k 0 < M := by
  rw [List.getD_eq_getElem?_getD, List.getElem?_eq_getElem hk]
  exact h _ (List.getElem_mem hk)
theorem earl_small {s : Nat} {d : List Nat} (hs : s < 1099511627776) (hd : ∀ x ∈ d, x < 4294967296) (i : Nat) (hi : i ≤ 5) : earl s d i < 1121000000000 := by
  have h1 := sum_take_le d i hd
  unfold earl
  omega
theorem in_win {E J L K T t : Nat} (h1 : E ≤ T) (h2 : T ≤ E + J + L) (h3 : T ≤ t + K) (h4 : t ≤ T + K) : hasV ((E - K : Nat) : Int) ((E + (J + L) + K : Nat) : Int) (t : Int) = 0 := has_in (by omega) (by omega)

set_option maxHeartbeats 8000000 in
set_option maxRecDepth 100000 in
theorem wcomes_walk (s0 : Nat) (A : Option Addr) (n c : Nat) (d : List Nat) (L0 K0 : Nat) (B : Option Addr) (nb cb : Nat) (lb : List Nat) (D : Option Addr) (nd cd : Nat) (ld : List Int) (w : World) (hs : s0 < 18446744073709551616) (hA : Rds w A n (cellsI .u32 d)) (hd : ∀ x ∈ d, x < 4294967296) (hc : n ≤ c) (hcm : c ≤ 9223372036854775807) (hL : L0 < 18446744073709551616) (hK : K0 < 18446744073709551616)
    (hB : Rds w B nb (cellsI .u64 lb)) (hlb : ∀ x ∈ lb, x < 18446744073709551616) (hcb : nb ≤ cb) (hcbm : cb ≤ 9223372036854775807) (hD : Rds w D nd (ld.map (Value.int .i64))) (hld : ∀ x ∈ ld, -9223372036854775808 ≤ x ∧ x ≤ 9223372036854775807) :
    Calls Try.prog 4 #[.int .u64 (s0 : Int), .slice A n c, .int .u64 (L0 : Int), .int .u64 (K0 : Int), .slice B nb cb, .slice D nd cd] w fun e w' => e = .returned (.bool true) ∧ Below w.heap.size w w' := by
  have hlenb : lb.length = nb := by have := hB.1; rwa [cellsI_length] at this
  have hlend : ld.length = nd := by have := hD.1; rwa [List.length_map] at this
  obtain ⟨s, es, ls⟩ := mask40 s0 hs
  obtain ⟨L, eL, lL⟩ := mask40 L0 hL
  obtain ⟨K, eK, lK⟩ := mask40 K0 hK
  obtain ⟨m, HM, hm1, hm2, hme⟩ := nat_min n 5
  clear hme
  have hR := hA.take m hm1
  rw [cellsI_take] at hR
  have hd' : ∀ x ∈ d.take m, x < 4294967296 := fun x hx => hd x (List.mem_of_mem_take hx)
  have HA : Hid (Args w s A m (d.take m) L K) := ⟨by omega, by omega, by omega, hd', hR⟩
  generalize d.take m = d' at *
  have hmc : m ≤ c := by omega
  have HF := hide (fit_small (s := s) (n := m) (by omega) lL (K := K) lK hd' hm2)
  have HLs : Hid (1 ≤ m → lastN s d' L K m < 9899899617280) := fun h1 => last_small (by omega) lL lK hd' h1 hm2 HA.out.len
  have HES : Hid (∀ i, i ≤ 5 → earl s d' i < 1121000000000) := fun i hi => earl_small ls hd' i hi
  have HLL := hide lL
  have HKL := hide lK
  have HB := hide hB
  have HD := hide hD
  have HLB := hide hlenb
  have HLD := hide hlend
  have HBV := hide hlb
  have HDV := hide hld
  clear hs hA hd hL hK hR hc hcm ls lL lK hd' hB hD hlb hld hlenb hlend hcb hcbm
  generalize (s0 : Int) = S0 at *
  generalize (L0 : Int) = L0' at *
  generalize (K0 : Int) = K0' at *
  go_enter Try.func4, Try.ntmps4
  go_wp2_with fail
  refine (shown_any w).mono ?_
  rintro e w1 ⟨rfl, hb1⟩
  have HB1 := hide hb1
  have HA1 := hide (HA.out.below hb1)
  clear hb1 HA
  go_wp2_with (first
    | (refine wpl_min rfl (.tmp 31) (.const (.int .i64 5)) _ _ rfl _ (n : Int) 5 (m : Int) rfl rfl HM.out ?_)
    | (refine wpl_cutQ0 one_u32 rfl (.tmp 29) (.tmp 32) rfl A n c m (m : Int) rfl rfl rfl hmc ?_))
  clear es eL eK
  by_cases h0 : m = 0
  · subst h0
    refine (win_arg s A 0 c L K _ (.inl rfl)).mono ?_
    rintro e w2 ⟨rfl, hb⟩
    have HB2 := hide (below_call HB1.out hb)
    clear hb HB1 HA1
    go_wp2_with fail
    go_ret
    exact ⟨rfl, HB2.out⟩
  · have h1 : 1 ≤ m := by omega
    have hm0 : ¬ ((m : Int) = 0) := by omega
    have hm00 : ((m : Int) == 0) = false := by rw [beq_eq_false_iff_ne]; exact hm0
    refine (win_ok HA1.out h1 hm2 HF.out).mono ?_
    rintro e w2 ⟨A2, c2, rfl, ho2, hb⟩
    have HB2 := hide (below_call HB1.out hb)
    have HA2 := hide (HA1.out.below hb)
    have HR2 := hide (HB.out.below HB2.out)
    have HW2 := hide (HD.out.below HB2.out)
    obtain ⟨g2, rfl, _, hl2, hc2⟩ := cells_of ho2 (by omega)
    obtain ⟨C, hC⟩ : ∃ C : World → Prop, C = fun w' => Below w2.heap.size w2 w' := ⟨_, rfl⟩
    have hC0 : Hid (C w2) := by rw [hC]; exact Below.refl _ _
    have HCc : Hid (∀ w' w'', C w' → Below w'.heap.size w' w'' → C w'') := by rw [hC]; exact fun w' w'' h k => below_call h k
    have HCE : Hid (∀ w', C w' → Below w.heap.size w w') := by rw [hC]; exact fun w' h => below_call HB2.out h
    have HCA : Hid (∀ w', C w' → Args w' s A m d' L K) := by rw [hC]; exact fun w' h => HA2.out.below h
    have HCB : Hid (∀ w', C w' → Rds w' B nb (cellsI .u64 lb)) := by rw [hC]; exact fun w' h => HR2.out.below h
    have HCD : Hid (∀ w', C w' → Rds w' D nd (ld.map (Value.int .i64))) := by rw [hC]; exact fun w' h => HW2.out.below h
    have HC2 : Hid (∀ j, j < m → ∀ w', C w' → w'.cell? ⟨g2, j * 2, none⟩ = some (.int .u64 ((winAt s d' L K j).1 : Int)) ∧ w'.cell? ⟨g2, j * 2 + 1, none⟩ = some (.int .u64 ((winAt s d' L K j).2 : Int))) := by
      rw [hC]
      exact fun j hj w' h => ⟨by rw [Below.cell h hl2]; exact (hc2 j hj).1, by rw [Below.cell h hl2]; exact (hc2 j hj).2⟩
    clear hb HB1 HA1 ho2 hC hc2 hl2 HB2 HA2 HR2 HW2 HB HD h0
    go_wp2_with fail
    clear hm0 hm00
    go_loopw [16, 17] (fun t i wr => ∃ (j T : Nat), j ≤ m ∧ i = .int .i64 j ∧ t = .int .u64 T ∧ earl s d' j ≤ T ∧ T ≤ earl s d' j + j * L ∧ C wr) (fun _ i _ => m - (intOf i).toNat)
    case atStart => exact ⟨0, s, by omega, rfl, rfl, by rw [earl_zero]; omega, by rw [earl_zero]; omega, hC0.out⟩
    case round =>
      obtain ⟨j, T, hj, rfl, rfl, hT1, hT2, hw⟩ := hrel
      have HT1 := hide hT1
      have HT2 := hide hT2
      have HW := hide hw
      clear hw hT1 hT2
      by_cases hlt : j < m
      · have hji : (j : Int) < (m : Int) := by omega
        have HES1 : Hid (earl s d' j < 1121000000000) := HES.out j (by omega)
        obtain ⟨J, HJ1, HJ2, HJ3⟩ : ∃ J : Nat, Hid (J = j * L) ∧ Hid ((j + 1) * L = J + L) ∧ Hid (J ≤ 5497558138880) := by
          refine ⟨j * L, rfl, by rw [Hid, Nat.add_mul, Nat.one_mul], ?_⟩
          have h5 : j * L ≤ 5 * L := Nat.mul_le_mul_right _ (by omega)
          have := HLL.out
          show j * L ≤ _
          omega
        have HT2' : Hid (T ≤ earl s d' j + J) := by rw [HJ1.out]; exact HT2.out
        have e0 : wr.cell? ⟨g2, j * 2, none⟩ = some (.int .u64 ((earl s d' j - K : Nat) : Int)) := (HC2.out j hlt _ HW.out).1
        have e1 : wr.cell? ⟨g2, j * 2 + 1, none⟩ = some (.int .u64 ((earl s d' j + (J + L) + K : Nat) : Int)) := by
          have h := (HC2.out j hlt _ HW.out).2
          have hh : (winAt s d' L K j).2 = earl s d' j + (J + L) + K := by
            show hiN s d' L K j = _
            unfold hiN
            rw [HJ2.out]
          rw [hh] at h
          exact h
        have HIN := hide (fun (T t : Nat) h1 h2 h3 h4 => in_win (E := earl s d' j) (J := J) (L := L) (K := K) (T := T) (t := t) h1 h2 h3 h4)
        have HEN := hide (earl_succ s d' j (by rw [(HCA.out _ HW.out).len]; exact hlt))
        have HX := hide (getD_lt2 (HCA.out _ HW.out).hd (k := j) (by rw [(HCA.out _ HW.out).len]; exact hlt))
        have HCX : Hid (∀ w', C w' → ∃ pa, A = some pa ∧ w'.cell? (pa.add j) = some (.int .u32 ((d'.getD j 0 : Nat) : Int))) := by
          intro w' h'
          obtain ⟨pa, rfl, hca⟩ := (HCA.out _ h').row.2 (by omega)
          exact ⟨pa, rfl, hca j _ (cellsI_at d' j (by rw [(HCA.out _ h').len]; exact hlt))⟩
        generalize hE : earl s d' j = E at *
        generalize d'.getD j 0 = x at *
        generalize ((E - K : Nat) : Int) = lo at *
        generalize ((E + (J + L) + K : Nat) : Int) = hi at *
        clear hE HT2
        by_cases h2 : j < nb
        · have hjb : (j : Int) < (nb : Int) := by omega
          obtain ⟨pb, rfl, hcb⟩ := (HCB.out _ HW.out).2 (by omega)
          have cb0 := hcb j _ (cellsI_at lb j (by rw [HLB.out]; exact h2))
          generalize lb.getD j 0 = z at *
          obtain ⟨r, L1, hr, hL1, hL10, hrem⟩ := rem_nat z L HLL.out
          obtain ⟨T', hT'⟩ : ∃ T', T' = T + r := ⟨_, rfl⟩
          have hwT : IntKind.u64.wrap ((T : Int) + (r : Int)) = (T' : Int) := by have := HT2'.out; have := HES1.out; have := HJ3.out; have := HLL.out; rw [u64wrap]; omega
          have HU1 : Hid (E ≤ T') := by have := HT1.out; show E ≤ T'; omega
          have HU2 : Hid (T' ≤ E + J + L) := by have := HT2'.out; show T' ≤ _; omega
          clear hcb hr hT' h2
          by_cases h3 : j < nd
          · have hjd : (j : Int) < (nd : Int) := by omega
            obtain ⟨pd, rfl, hcd⟩ := (HCD.out _ HW.out).2 (by omega)
            have cd0 := hcd j _ (cellsZ_at ld j (by rw [HLD.out]; exact h3))
            generalize ld.getD j 0 = y at *
            obtain ⟨z2, hz, hz2⟩ := mask62 y
            have hzw : IntKind.u64.wrap (z2 : Int) = (z2 : Int) := by rw [u64wrap]; omega
            obtain ⟨b, K1, hb, hK1, hK10, hrem2⟩ := rem_nat z2 K HKL.out
            clear hcd hz2 h3
            by_cases hy : y < 0
            · obtain ⟨M, HMM, hM1, hM2, hMe⟩ := nat_min b T'
              obtain ⟨l, hl⟩ : ∃ l, l = T' - M := ⟨_, rfl⟩
              have hwl : IntKind.u64.wrap ((T' : Int) - (M : Int)) = (l : Int) := by have := HU2.out; have := HES1.out; have := HJ3.out; have := HLL.out; rw [u64wrap]; omega
              have HV := HIN.out T' l HU1.out HU2.out (by omega) (by omega)
              clear hMe hl hM1 hM2 hb
              have hv : Hid (hasV lo hi (l : Int) = 0) := HV
              clear HV
              go_wp2_with (first | (refine wplk_min (.tmp 99) (.tmp 100) _ _ rfl _ .u64 (b : Int) (T' : Int) (M : Int) rfl rfl HMM.out rfl ?_))
              refine (has_any lo hi (l : Int) _).mono ?_
              rintro e w4 ⟨rfl, hb⟩
              rw [hv.out]
              have HW4 := hide (HCc.out _ _ HW.out hb)
              obtain ⟨pa, rfl, ca⟩ := HCX.out _ HW4.out
              have hxw : IntKind.u64.wrap (x : Int) = (x : Int) := by have := HX.out; rw [u64wrap]; omega
              obtain ⟨T2, hT2⟩ : ∃ T2, T2 = T' + x := ⟨_, rfl⟩
              have hwT2 : IntKind.u64.wrap ((T' : Int) + (x : Int)) = (T2 : Int) := by have := HU2.out; have := HES1.out; have := HJ3.out; have := HLL.out; have := HX.out; rw [u64wrap]; omega
              have HR : Hid (earl s d' (j + 1) ≤ T2 ∧ T2 ≤ earl s d' (j + 1) + (j + 1) * L) := by
                have := HU1.out
                have := HU2.out
                have := HEN.out
                rw [HJ2.out]
                exact ⟨by omega, by omega⟩
              clear hb hv HIN HEN e0 e1 hT2 HT1 HT2' HJ2
              go_wp2_with fail
              go_roundw
              case rel => exact ⟨j + 1, T2, by omega, by go_num, rfl, HR.out.1, HR.out.2, HW4.out⟩
              case measure => simp [intOf]; omega
            · obtain ⟨l, hl⟩ : ∃ l, l = T' + b := ⟨_, rfl⟩
              have hwl : IntKind.u64.wrap ((T' : Int) + (b : Int)) = (l : Int) := by have := HU2.out; have := HES1.out; have := HJ3.out; have := HLL.out; have := HKL.out; rw [u64wrap]; omega
              have HV := HIN.out T' l HU1.out HU2.out (by omega) (by omega)
              clear hl hb
              have hv : Hid (hasV lo hi (l : Int) = 0) := HV
              clear HV
              go_wp2_with fail
              refine (has_any lo hi (l : Int) _).mono ?_
              rintro e w4 ⟨rfl, hb⟩
              rw [hv.out]
              have HW4 := hide (HCc.out _ _ HW.out hb)
              obtain ⟨pa, rfl, ca⟩ := HCX.out _ HW4.out
              have hxw : IntKind.u64.wrap (x : Int) = (x : Int) := by have := HX.out; rw [u64wrap]; omega
              obtain ⟨T2, hT2⟩ : ∃ T2, T2 = T' + x := ⟨_, rfl⟩
              have hwT2 : IntKind.u64.wrap ((T' : Int) + (x : Int)) = (T2 : Int) := by have := HU2.out; have := HES1.out; have := HJ3.out; have := HLL.out; have := HX.out; rw [u64wrap]; omega
              have HR : Hid (earl s d' (j + 1) ≤ T2 ∧ T2 ≤ earl s d' (j + 1) + (j + 1) * L) := by
                have := HU1.out
                have := HU2.out
                have := HEN.out
                rw [HJ2.out]
                exact ⟨by omega, by omega⟩
              clear hb hv HIN HEN e0 e1 hT2 HT1 HT2' HJ2
              go_wp2_with fail
              go_roundw
              case rel => exact ⟨j + 1, T2, by omega, by go_num, rfl, HR.out.1, HR.out.2, HW4.out⟩
              case measure => simp [intOf]; omega
          · have hjd : ¬ ((j : Int) < (nd : Int)) := by omega
            have HV := HIN.out T' T' HU1.out HU2.out (by omega) (by omega)
            clear h3
            have hv : Hid (hasV lo hi (T' : Int) = 0) := HV
            clear HV
            go_wp2_with fail
            refine (has_any lo hi (T' : Int) _).mono ?_
            rintro e w4 ⟨rfl, hb⟩
            rw [hv.out]
            have HW4 := hide (HCc.out _ _ HW.out hb)
            obtain ⟨pa, rfl, ca⟩ := HCX.out _ HW4.out
            have hxw : IntKind.u64.wrap (x : Int) = (x : Int) := by have := HX.out; rw [u64wrap]; omega
            obtain ⟨T2, hT2⟩ : ∃ T2, T2 = T' + x := ⟨_, rfl⟩
            have hwT2 : IntKind.u64.wrap ((T' : Int) + (x : Int)) = (T2 : Int) := by have := HU2.out; have := HES1.out; have := HJ3.out; have := HLL.out; have := HX.out; rw [u64wrap]; omega
            have HR : Hid (earl s d' (j + 1) ≤ T2 ∧ T2 ≤ earl s d' (j + 1) + (j + 1) * L) := by
              have := HU1.out
              have := HU2.out
              have := HEN.out
              rw [HJ2.out]
              exact ⟨by omega, by omega⟩
            clear hb hv HIN HEN e0 e1 hT2 HT1 HT2' HJ2
            go_wp2_with fail
            go_roundw
            case rel => exact ⟨j + 1, T2, by omega, by go_num, rfl, HR.out.1, HR.out.2, HW4.out⟩
            case measure => simp [intOf]; omega
        · have hjb : ¬ ((j : Int) < (nb : Int)) := by omega
          obtain ⟨T', hT'⟩ : ∃ T', T' = T := ⟨_, rfl⟩
          subst hT'
          have HU1 : Hid (E ≤ T') := HT1.out
          have HU2 : Hid (T' ≤ E + J + L) := by have := HT2'.out; show T' ≤ _; omega
          clear h2
          by_cases h3 : j < nd
          · have hjd : (j : Int) < (nd : Int) := by omega
            obtain ⟨pd, rfl, hcd⟩ := (HCD.out _ HW.out).2 (by omega)
            have cd0 := hcd j _ (cellsZ_at ld j (by rw [HLD.out]; exact h3))
            generalize ld.getD j 0 = y at *
            obtain ⟨z2, hz, hz2⟩ := mask62 y
            have hzw : IntKind.u64.wrap (z2 : Int) = (z2 : Int) := by rw [u64wrap]; omega
            obtain ⟨b, K1, hb, hK1, hK10, hrem2⟩ := rem_nat z2 K HKL.out
            clear hcd hz2 h3
            by_cases hy : y < 0
            · obtain ⟨M, HMM, hM1, hM2, hMe⟩ := nat_min b T'
              obtain ⟨l, hl⟩ : ∃ l, l = T' - M := ⟨_, rfl⟩
              have hwl : IntKind.u64.wrap ((T' : Int) - (M : Int)) = (l : Int) := by have := HU2.out; have := HES1.out; have := HJ3.out; have := HLL.out; rw [u64wrap]; omega
              have HV := HIN.out T' l HU1.out HU2.out (by omega) (by omega)
              clear hMe hl hM1 hM2 hb
              have hv : Hid (hasV lo hi (l : Int) = 0) := HV
              clear HV
              go_wp2_with (first | (refine wplk_min (.tmp 99) (.tmp 100) _ _ rfl _ .u64 (b : Int) (T' : Int) (M : Int) rfl rfl HMM.out rfl ?_))
              refine (has_any lo hi (l : Int) _).mono ?_
              rintro e w4 ⟨rfl, hb⟩
              rw [hv.out]
              have HW4 := hide (HCc.out _ _ HW.out hb)
              obtain ⟨pa, rfl, ca⟩ := HCX.out _ HW4.out
              have hxw : IntKind.u64.wrap (x : Int) = (x : Int) := by have := HX.out; rw [u64wrap]; omega
              obtain ⟨T2, hT2⟩ : ∃ T2, T2 = T' + x := ⟨_, rfl⟩
              have hwT2 : IntKind.u64.wrap ((T' : Int) + (x : Int)) = (T2 : Int) := by have := HU2.out; have := HES1.out; have := HJ3.out; have := HLL.out; have := HX.out; rw [u64wrap]; omega
              have HR : Hid (earl s d' (j + 1) ≤ T2 ∧ T2 ≤ earl s d' (j + 1) + (j + 1) * L) := by
                have := HU1.out
                have := HU2.out
                have := HEN.out
                rw [HJ2.out]
                exact ⟨by omega, by omega⟩
              clear hb hv HIN HEN e0 e1 hT2 HT1 HT2' HJ2
              go_wp2_with fail
              go_roundw
              case rel => exact ⟨j + 1, T2, by omega, by go_num, rfl, HR.out.1, HR.out.2, HW4.out⟩
              case measure => simp [intOf]; omega
            · obtain ⟨l, hl⟩ : ∃ l, l = T' + b := ⟨_, rfl⟩
              have hwl : IntKind.u64.wrap ((T' : Int) + (b : Int)) = (l : Int) := by have := HU2.out; have := HES1.out; have := HJ3.out; have := HLL.out; have := HKL.out; rw [u64wrap]; omega
              have HV := HIN.out T' l HU1.out HU2.out (by omega) (by omega)
              clear hl hb
              have hv : Hid (hasV lo hi (l : Int) = 0) := HV
              clear HV
              go_wp2_with fail
              refine (has_any lo hi (l : Int) _).mono ?_
              rintro e w4 ⟨rfl, hb⟩
              rw [hv.out]
              have HW4 := hide (HCc.out _ _ HW.out hb)
              obtain ⟨pa, rfl, ca⟩ := HCX.out _ HW4.out
              have hxw : IntKind.u64.wrap (x : Int) = (x : Int) := by have := HX.out; rw [u64wrap]; omega
              obtain ⟨T2, hT2⟩ : ∃ T2, T2 = T' + x := ⟨_, rfl⟩
              have hwT2 : IntKind.u64.wrap ((T' : Int) + (x : Int)) = (T2 : Int) := by have := HU2.out; have := HES1.out; have := HJ3.out; have := HLL.out; have := HX.out; rw [u64wrap]; omega
              have HR : Hid (earl s d' (j + 1) ≤ T2 ∧ T2 ≤ earl s d' (j + 1) + (j + 1) * L) := by
                have := HU1.out
                have := HU2.out
                have := HEN.out
                rw [HJ2.out]
                exact ⟨by omega, by omega⟩
              clear hb hv HIN HEN e0 e1 hT2 HT1 HT2' HJ2
              go_wp2_with fail
              go_roundw
              case rel => exact ⟨j + 1, T2, by omega, by go_num, rfl, HR.out.1, HR.out.2, HW4.out⟩
              case measure => simp [intOf]; omega
          · have hjd : ¬ ((j : Int) < (nd : Int)) := by omega
            have HV := HIN.out T' T' HU1.out HU2.out (by omega) (by omega)
            clear h3
            have hv : Hid (hasV lo hi (T' : Int) = 0) := HV
            clear HV
            go_wp2_with fail
            refine (has_any lo hi (T' : Int) _).mono ?_
            rintro e w4 ⟨rfl, hb⟩
            rw [hv.out]
            have HW4 := hide (HCc.out _ _ HW.out hb)
            obtain ⟨pa, rfl, ca⟩ := HCX.out _ HW4.out
            have hxw : IntKind.u64.wrap (x : Int) = (x : Int) := by have := HX.out; rw [u64wrap]; omega
            obtain ⟨T2, hT2⟩ : ∃ T2, T2 = T' + x := ⟨_, rfl⟩
            have hwT2 : IntKind.u64.wrap ((T' : Int) + (x : Int)) = (T2 : Int) := by have := HU2.out; have := HES1.out; have := HJ3.out; have := HLL.out; have := HX.out; rw [u64wrap]; omega
            have HR : Hid (earl s d' (j + 1) ≤ T2 ∧ T2 ≤ earl s d' (j + 1) + (j + 1) * L) := by
              have := HU1.out
              have := HU2.out
              have := HEN.out
              rw [HJ2.out]
              exact ⟨by omega, by omega⟩
            clear hb hv HIN HEN e0 e1 hT2 HT1 HT2' HJ2
            go_wp2_with fail
            go_roundw
            case rel => exact ⟨j + 1, T2, by omega, by go_num, rfl, HR.out.1, HR.out.2, HW4.out⟩
            case measure => simp [intOf]; omega
      · obtain rfl : j = m := by omega
        have hkk : ¬ ((j : Int) < (j : Int)) := by omega
        go_wp2_with fail
        refine (late_ok (HCA.out _ HW.out) h1 hm2 HF.out (by have := HLs.out h1; omega)).mono ?_
        rintro e w5 ⟨rfl, hb⟩
        have HE := hide (HCE.out _ (HCc.out _ _ HW.out hb))
        have hle : T ≤ lastN s d' L K j := by
          obtain ⟨k, rfl⟩ : ∃ k, j = k + 1 := ⟨j - 1, by omega⟩
          have h2 := HT2.out
          rw [earl_succ s d' k (by rw [(HCA.out _ HW.out).len]; omega)] at h2
          show T ≤ hiN s d' L K k + d'.getD k 0
          unfold hiN
          omega
        have hle2 : (T : Int) ≤ (lastN s d' L K j : Int) := by omega
        generalize lastN s d' L K j = z at *
        clear hb hle HT1 HT2
        go_wp2_with fail
        go_ret
        exact ⟨rfl, HE.out⟩
end Go.Proofs.Ytcnnekdeakfjeaa
