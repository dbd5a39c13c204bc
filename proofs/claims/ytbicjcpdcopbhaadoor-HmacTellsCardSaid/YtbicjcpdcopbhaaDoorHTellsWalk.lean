/-
  HmacTells, walked.
-/
import Derived.Test.YtbicjcpdcopbhaaDoorHDerivesWalk
namespace Go.Proofs.YtbicjcpdcopbhaaDoor
set_option linter.unusedVariables false
set_option linter.unusedSimpArgs false
open Go.RowKit

theorem rmac_run (key m : List UInt8) (w0 w : World) (hR : Run w0 w) (hk : key.length ≤ 100000) (hm : m.length ≤ 50000) :
    Calls Tryd.prog 29 #[.string ⟨key.toArray⟩, .string ⟨m.toArray⟩] w fun e w' => e = .returned (.string ⟨(macL key m).toArray⟩) ∧ Frm (fun _ => False) w w' ∧ Run w0 w' :=
  (rmac_any key m w hk hm).mono fun e w' ⟨he, hb⟩ => ⟨he, Frm.of_below hb, hR.frm (Frm.of_below (S := fun _ => False) hb) (fun _ h => h.elim)⟩
theorem rshort_run (key m : List UInt8) (w0 w : World) (hR : Run w0 w) (hk : key.length ≤ 100000) (hm : m.length ≤ 50000) :
    Calls Tryd.prog 30 #[.string ⟨key.toArray⟩, .string ⟨m.toArray⟩] w fun e w' => e = .returned (.string ⟨((macL key m).take 16).toArray⟩) ∧ Frm (fun _ => False) w w' ∧ Run w0 w' :=
  (rshort_any key m w hk hm).mono fun e w' ⟨he, hb⟩ => ⟨he, Frm.of_below hb, hR.frm (Frm.of_below (S := fun _ => False) hb) (fun _ h => h.elim)⟩
theorem OwnAll.at {w : World} {B : Nat} {vs : List Value} {ls : List (List UInt8)} (h : OwnAll w B vs ls) : ∀ k, k < ls.length → ∃ v, vs[k]? = some v ∧ w.ownsRow B 5 1 v (ls.getD k []).length (cellsB (ls.getD k [])) := by
  induction h with
  | nil => intro k hk; simp at hk
  | cons ho _ ih =>
    intro k hk
    rcases k with _ | k
    · exact ⟨_, rfl, ho⟩
    · obtain ⟨v, h1, h2⟩ := ih k (by simpa using hk)
      exact ⟨v, by simpa using h1, by simpa using h2⟩

set_option maxHeartbeats 8000000 in
set_option maxRecDepth 100000 in
theorem htells_walk (a0 : Option Addr) (len0 cap0 : Nat) (l0 : List UInt8) (key : List UInt8) (a2 : Option Addr) (len2 cap2 : Nat) (L : Nat → List UInt8) (w : World) (hG : Gl w) (hg0 : 2 ≤ w.heap.size) (h0 : Rds w a0 len0 (cellsB l0)) (hl0 : len0 ≤ cap0) (hm0 : cap0 ≤ 9223372036854775807) (hkey : key.length = 32) (h2 : Rows2 w a2 len2 L) (hl2 : len2 ≤ cap2) (hm2 : cap2 ≤ 9223372036854775807) :
    Calls Tryd.prog 7 #[.slice a0 len0 cap0, .agg (cellsB key).toArray, .slice a2 len2 cap2] w fun e w' => e = .returned (.bool true) ∧ Below w.heap.size w w' := by
  obtain ⟨m0, HM0, ml0, mr0, me0⟩ := nat_min len0 200
  clear me0
  have HR0 := hide (h0.take m0 ml0)
  rw [cellsB_take] at HR0
  have HX0 : Hid ((l0.take m0).length = m0) := by have := HR0.out.1; rwa [cellsB_length] at this
  generalize l0.take m0 = x0 at *
  have hy0 : x0.length ≤ 200 := by rw [HX0.out]; exact mr0
  have hc0 : m0 ≤ cap0 := by omega
  clear h0
  have HKC : Hid ((cellsB key).length = 32) := by show _ = _; rw [cellsB_length]; exact hkey
  have HKX : Hid (((cellsB key).drop 0).take 32 = cellsB key) := by show _ = _; rw [List.drop_zero, List.take_of_length_le (by rw [HKC.out]; exact Nat.le_refl _)]
  have HKL : Hid (0 + 32 ≤ (cellsB key).length) := by show _ ≤ _; rw [HKC.out]; exact Nat.le_refl _
  have hR0 := Run.boxed hG hg0 (.cells (cellsB key).toArray 43)
  have hK0 := Blk.new w 43 (cellsB key).toArray
  have H2 := hide h2
  have hslK := slK
  clear h2
  go_enter Tryd.func7, Tryd.ntmps7
  go_wp2_with fail
  refine (hshown_from w _ hR0).mono ?_
  rintro e w1 ⟨rfl, hF1, hR1⟩
  have hK1 := hK0.frm hF1 (fun h => h)
  clear hR0 hK0 hF1
  have hsw1 : w.heap.size < w1.heap.size := hK1.lt
  have hov := World.ownsRow_made (e := 5) (size := 1) (base := w1.heap.size) w1 #[] 0 (Nat.le_refl _) (by simp [maxLen]) (by simp)
  have hFa : Frm (fun _ => False) w1 (w1.alloc (.cells #[] 5)) := Frm.alloc _ _ _
  have HRW := hide ((HR0.out.below hR1.below).frm hFa (fun _ _ _ h => h))
  have hb1 : (0 + m0) * 1 ≤ 140737488355328 := by omega
  have hb2 : 0 + m0 ≤ 140737488355328 := by omega
  go_wp2_with (first
    | (refine wpl_min rfl (.tmp 19) (.const (.int .i64 200)) _ _ rfl _ (len0 : Int) 200 (m0 : Int) rfl rfl HM0.out ?_)
    | (refine wpl_app one_u8 rfl (.tmp 16) (.tmp 21) rfl _ w1.heap.size (.slice (some ⟨w1.heap.size, 0, none⟩) 0 0) 0 _ rfl hov a0 m0 cap0 (cellsB x0) rfl HRW.out (cellsB_one _) hb1 hb2 hFa.size ?_; intro A3 c3 w3 hown3 hg3 hat3; rw [Nat.zero_add]; rw [Nat.zero_add, List.nil_append] at hown3; have hcv := conv_rds (P := Tryd.prog) w3 24 9 5 under24 under5 under9 A3 m0 c3 x0 (Seg.of_own hown3).rds))
  have F13 : Frm (fun k => k = w1.heap.size) w1 w3 := (hFa.mono (T := fun k => k = w1.heap.size) (fun _ _ h => h.elim)).trans (Frm.of_grown hg3) (fun j _ h => (by simpa [Value.ownBlock] using h : j = w1.heap.size))
  have hR3 := hR1.frm F13 (fun k hk => by omega)
  have hK3 := hK1.frm F13 (by omega)
  have hc3 : m0 ≤ c3 := by
    rcases hown3.2 with ⟨hv, h0⟩ | ⟨_, _, _, hv, _, _, hnc, _⟩
    · omega
    · injection hv with _ _ h3; omega
  clear hov hFa HRW hb1 hb2 hg3 hat3 F13 hR1 hK1 hcv
  refine (joined_any a2 len2 cap2 L w3 (H2.out.below hR3.below) hl2 hm2).mono ?_
  rintro e w4 ⟨k, A, c, TA, tc, vs, hk5, rfl, J4⟩
  have hR4 := hR3.frm J4.frm (fun _ h => h.elim)
  have hK4 := hK3.frm J4.frm (fun h => h)
  have O4 := own_frm hown3 J4.frm (fun _ _ h => h)
  have HPL := hide (partsL_length L k)
  have HPF : Hid ((partsL L k).flatten.length ≤ 1000) := by show _ ≤ _; have := partsL_flat L k; omega
  clear hR3 hK3 hown3
  obtain ⟨ps, hps⟩ : ∃ ps, ps = partsL L k := ⟨_, rfl⟩
  rw [← hps] at J4 HPL HPF ⊢
  clear hps
  obtain ⟨all, hall⟩ : ∃ all, all = ps.flatten := ⟨_, rfl⟩
  rw [← hall] at HPF ⊢
  have HMA := hide (mac_now w w4 A3 m0 c3 x0 A k c vs ps all (Seg.of_own O4).rds hc3 (by omega) (Seg.of_own J4.own).rds J4.parts.all2 hall.symm hR4 (by have := HPF.out; omega) (by rw [HPL.out]; omega))
  have HSA := hide (fun W (hJ : JInv w3 A c TA tc k vs ps W) (hR : Run w W) => short_now w W key hkey A k c vs ps all (Seg.of_own hJ.own).rds hJ.parts.all2 hall.symm hR (by have := HPF.out; omega) (by rw [HPL.out]; omega))
  have HRM := hide (fun W (hR : Run w W) => rmac_run x0 all w W hR (by rw [HX0.out]; omega) (by have := HPF.out; omega))
  have HRS := hide (fun W (hR : Run w W) => rshort_run key all w W hR (by omega) (by have := HPF.out; omega))
  have HML := hide (macL_length x0 all)
  have HMC : Hid ((cellsB (macL x0 all)).length = 32) := by show _ = _; rw [cellsB_length]; exact HML.out
  have HSL : Hid (((macL key all).take 16).length = 16) := by show _ = _; rw [List.length_take, macL_length]; rfl
  have HSC : Hid ((cellsB ((macL key all).take 16)).length = 16) := by show _ = _; rw [cellsB_length]; exact HSL.out
  obtain ⟨mc, hmc⟩ : ∃ mc, mc = macL x0 all := ⟨_, rfl⟩
  obtain ⟨sc, hsc⟩ : ∃ sc, sc = (macL key all).take 16 := ⟨_, rfl⟩
  rw [← hmc] at HMA HRM HML HMC
  rw [← hsc] at HSA HRS HSL HSC
  clear hall hmc hsc
  go_wp2_with fail
  refine HMA.out.mono ?_
  rintro e w5 ⟨rfl, F5, R5⟩
  have J5 := J4.frm0 F5
  have K5 := hK4.frm F5 (fun h => h)
  have O5 := own_frm O4 F5 (fun _ _ h => h)
  clear HMA J4 hK4 hR4 O4 F5
  go_wp2_with (first
    | ((with_reducible refine wpl_alloca (op := ⟨some 12, _, _, _, _, _⟩) rfl _ rfl _ zero32 ?_); intro g12 w6 hB6 hs6 hF6)
    | ((with_reducible refine wpl_storea agg32 rfl (.tmp 12) (.tmp 33) rfl g12 (cellsB mc) rfl rfl _ _ hB6 HMC.out rfl (cellsB_one _) ?_); intro w7 hB7 hF7; have b12 : w.heap.size < g12 := (by have := K5.lt; omega); have FF : Frm (fun j => j = g12) w5 w7 := ((hF6.mono (T := fun j => j = g12) (fun _ _ h => h.elim)).trans hF7 (fun _ _ h => h)); have K7 := K5.frm FF (by omega))
    | (with_reducible refine wpl_loada (op := ⟨some 34, _, _, _, _, _⟩) aggK rfl _ rfl w.heap.size 0 rfl _ _ _ K7 HKX.out HKL.out ?_))
  have J7 := J5.frmN hs6 FF
  have R7 := R5.frm FF (fun j hj => by omega)
  have O7 := own_frm O5 FF (fun j hj => by have := (O5.lt j hj).2; omega)
  clear J5 K5 O5 R5 hB6 hF6 hF7 FF
  refine (HSA.out w7 J7 R7).mono ?_
  rintro e w8 ⟨rfl, F8, R8⟩
  have J8 := J7.frm0 F8
  have K8 := K7.frm F8 (fun h => h)
  have O8 := own_frm O7 F8 (fun _ _ h => h)
  have M8 := hB7.frm F8 (fun h => h)
  clear HSA J7 K7 O7 R7 hB7 F8
  go_wp2_with (first
    | ((with_reducible refine wpl_alloca (op := ⟨some 13, _, _, _, _, _⟩) rfl _ rfl _ zero16 ?_); intro g13 w9 hB9 hs9 hF9)
    | ((with_reducible refine wpl_storea agg16 rfl (.tmp 13) (.tmp 36) rfl g13 (cellsB sc) rfl rfl _ _ hB9 HSC.out rfl (cellsB_one _) ?_); intro w10 hB10 hF10))
  have b13 : w.heap.size < g13 := by have := K8.lt; omega
  have FF : Frm (fun j => j = g13) w8 w10 := ((hF9.mono (T := fun j => j = g13) (fun _ _ h => h.elim)).trans hF10 (fun _ _ h => h))
  have J10 := J8.frmN hs9 FF
  have HK10 := hide (K8.frm FF (by omega))
  have HM10 := hide (M8.frm FF (by have := M8.lt; omega))
  have HR10 := hide (R8.frm FF (fun j hj => by omega))
  have HO10 := hide (own_frm O8 FF (fun j hj => by have := (O8.lt j hj).2; omega))
  have HZ10 := hide hB10
  have HJ10 := hide J10
  clear J8 K8 M8 O8 R8 hB9 hF9 hB10 hF10 FF J10
  go_loopw [14] (fun i wr => ∃ j q : Nat, j ≤ k ∧ i = .int .i64 j ∧ wr = w10.drewN q) (fun i _ => k - (intOf i).toNat)
  case atStart => exact ⟨0, 0, by omega, rfl, rfl⟩
  case round =>
    obtain ⟨j, q, hj, rfl, rfl⟩ := hrel
    by_cases hjk : j < k
    · obtain ⟨v, hv, hvo⟩ := HJ10.out.parts.at j (by rw [HPL.out]; exact hjk)
      obtain ⟨Aj, cj, rfl⟩ := own_form hvo
      obtain ⟨go, co, hvv, _, _⟩ := World.ownsRow.form HJ10.out.own (by omega)
      injection hvv with hv1 hv2 hv3
      subst hv1 hv3
      have hcc := HJ10.out.own.cells (g := go) rfl j _ hv
      rw [addr_add, Nat.zero_add] at hcc
      obtain ⟨gt, ct, htt, _, _⟩ := World.ownsRow.form HJ10.out.texts (by omega)
      injection htt with ht1 ht2 ht3
      subst ht1 ht3
      have htc := HJ10.out.texts.cells (g := gt) rfl j (strV (ps.getD j [])) (by rw [List.getElem?_map, List.getD_eq_getElem?_getD, List.getElem?_eq_getElem (by rw [HPL.out]; exact hjk)]; rfl)
      rw [addr_add, Nat.zero_add] at htc
      have htc' : w10.cell? ⟨gt, j, none⟩ = some (.string ⟨(ps.getD j []).toArray⟩) := htc
      have hcc' : ∀ q, (w10.drewN q).cell? ⟨go, j, none⟩ = some (.slice Aj (ps.getD j []).length cj) := fun _ => hcc
      have htc'' : ∀ q, (w10.drewN q).cell? ⟨gt, j, none⟩ = some (.string ⟨(ps.getD j []).toArray⟩) := fun _ => htc'
      have hcv : ∀ q, Sem.run Tryd.prog (convert 24 9 (.slice Aj (ps.getD j []).length cj)) (w10.drewN q) = .ok (.string ⟨(ps.getD j []).toArray⟩) (w10.drewN q) := fun q => conv_rds (P := Tryd.prog) (w10.drewN q) 24 9 5 under24 under5 under9 Aj _ cj _ ((Seg.of_own hvo).rds.frm (S := fun _ => False) ((Frm.refl _ _).drewN q) (fun _ _ _ h => h))
      have hjk' : (j : Int) < (k : Int) := by omega
      clear hv hvo hcc htc htc'
      generalize (ps.getD j []).length = nj at *
      generalize (⟨(ps.getD j []).toArray⟩ : ByteArray) = Bj at *
      go_wp2_with fail
      go_quiet (fail)
      go_wp2_with fail
      go_roundw
      case rel => exact ⟨j + 1, _, by omega, by go_num, rfl⟩
      case measure => simp [intOf]; omega
    · obtain rfl : j = k := by omega
      have FD : Frm (fun _ => False) w10 (w10.drewN q).drew := ((Frm.refl _ _).drewN q).drew
      have K0 := HK10.out.frm FD (fun h => h)
      have M0 := HM10.out.frm FD (fun h => h)
      have Z0 := HZ10.out.frm FD (fun h => h)
      have R0 := HR10.out.frm FD (fun _ h => h.elim)
      have O0 := (Seg.of_own HO10.out).rds.frm FD (fun _ _ _ h => h)
      have hsl16 := sl16
      have hsl32 := sl32
      clear FD
      go_wp2_with fail
      refine wp_region_held_drew (S := fun W => Rds W A3 m0 (cellsB x0) ∧ Blk W g12 25 (cellsB mc).toArray ∧ Blk W g13 49 (cellsB sc).toArray ∧ Blk W w.heap.size 43 (cellsB key).toArray) (by kernel_rfl) (⟨O0, M0, Z0, K0⟩) ?_
      intro hHeld
      obtain ⟨W0, hW0⟩ : ∃ W0, W0 = (w10.drewN q).drew := ⟨_, rfl⟩
      have hW0' : (w10.drewN q).drew = w10.drewN (q + 1) := rfl
      try rw [← hW0'] at hHeld ⊢
      rw [← hW0] at O0 M0 Z0 K0 R0 hHeld ⊢
      clear hW0 hW0'
      refine wpAnyH_take (i := 0) (v := ?v1) rfl (by kernel_rfl) (by kernel_rfl) (by kernel_rfl) (fun _ _ _ h => h) (Or.inl ⟨by rfl, ?hy1⟩) (by assumption) ?rest1
      case hy1 => (intro w hSw; (try dsimp only at hSw); go_simp; try with_reducible rfl)
      try simp only [Act.put, List.getElem_toArray, List.getElem_cons_zero, List.setIfInBounds_toArray, List.set_cons_zero, List.set_cons_succ]
      refine wpAnyH_take (i := 1) (v := ?v2) rfl (by kernel_rfl) (by kernel_rfl) (by kernel_rfl) (fun _ _ _ h => h) (Or.inl ⟨by rfl, ?hy2⟩) (by assumption) ?rest2
      case hy2 => (intro w hSw; (try dsimp only at hSw); go_simp; try with_reducible rfl)
      try simp only [Act.put, List.getElem_toArray, List.getElem_cons_zero, List.getElem_cons_succ, List.setIfInBounds_toArray, List.set_cons_zero, List.set_cons_succ]
      refine wpAnyH_take (i := 2) (v := ?v3) rfl (by kernel_rfl) (by kernel_rfl) (by kernel_rfl) (fun _ _ _ h => h) (Or.inl ⟨by rfl, ?hy3⟩) (by assumption) ?rest3
      case hy3 => (intro w hSw; (try dsimp only at hSw); go_simp; try with_reducible rfl)
      try simp only [Act.put, List.getElem_toArray, List.getElem_cons_zero, List.getElem_cons_succ, List.setIfInBounds_toArray, List.set_cons_zero, List.set_cons_succ]
      refine wpAnyH_take (i := 3) (v := ?v4) rfl (by kernel_rfl) (by kernel_rfl) (by kernel_rfl) (fun _ _ _ h => h) (Or.inl ⟨by rfl, ?hy4⟩) (by assumption) ?rest4
      case hy4 => (intro w hSw; refine held_convR (.tmp 55) ?_ A3 m0 c3 ?_ x0 hSw.1 <;> rfl)
      try simp only [Act.put, List.getElem_toArray, List.getElem_cons_zero, List.getElem_cons_succ, List.setIfInBounds_toArray, List.set_cons_zero, List.set_cons_succ]
      refine wpAnyH_take (i := 4) (v := ?v5) rfl (by kernel_rfl) (by kernel_rfl) (by kernel_rfl) (fun _ _ _ h => h) (Or.inl ⟨by rfl, ?hy5⟩) (by assumption) ?rest5
      case hy5 => (intro w hSw; (try dsimp only at hSw); go_simp; try with_reducible rfl)
      try simp only [Act.put, List.getElem_toArray, List.getElem_cons_zero, List.getElem_cons_succ, List.setIfInBounds_toArray, List.set_cons_zero, List.set_cons_succ]
      refine wpAnyH_take (i := 5) (v := ?v6) rfl (by kernel_rfl) (by kernel_rfl) (by kernel_rfl) (fun _ _ _ h => h) (Or.inl ⟨by rfl, ?hy6⟩) (by assumption) ?rest6
      case hy6 => (intro w hSw; (try dsimp only at hSw); go_simp; try with_reducible rfl)
      try simp only [Act.put, List.getElem_toArray, List.getElem_cons_zero, List.getElem_cons_succ, List.setIfInBounds_toArray, List.set_cons_zero, List.set_cons_succ]
      refine wpAnyH_take (i := 6) (v := ?v7) rfl (by kernel_rfl) (by kernel_rfl) (by kernel_rfl) (fun _ _ _ h => h) (Or.inl ⟨by rfl, ?hy7⟩) (by assumption) ?rest7
      case hy7 => (intro w hSw; (try dsimp only at hSw); go_simp; try with_reducible rfl)
      try simp only [Act.put, List.getElem_toArray, List.getElem_cons_zero, List.getElem_cons_succ, List.setIfInBounds_toArray, List.set_cons_zero, List.set_cons_succ]
      refine wpAnyH_take (i := 7) (v := ?v8) rfl (by kernel_rfl) (by kernel_rfl) (by kernel_rfl) (fun _ _ _ h => h) (Or.inl ⟨by rfl, ?hy8⟩) (by assumption) ?rest8
      case hy8 => (intro w hSw; (try dsimp only at hSw); go_simp; try with_reducible rfl)
      try simp only [Act.put, List.getElem_toArray, List.getElem_cons_zero, List.getElem_cons_succ, List.setIfInBounds_toArray, List.set_cons_zero, List.set_cons_succ]
      refine wpAnyH_take (i := 8) (v := ?v9) rfl (by kernel_rfl) (by kernel_rfl) (by kernel_rfl) (fun _ _ _ h => h) (Or.inl ⟨by rfl, ?hy9⟩) (by assumption) ?rest9
      case hy9 => (intro w hSw; (try dsimp only at hSw); go_simp; try with_reducible rfl)
      try simp only [Act.put, List.getElem_toArray, List.getElem_cons_zero, List.getElem_cons_succ, List.setIfInBounds_toArray, List.set_cons_zero, List.set_cons_succ]
      refine wpAnyH_take (i := 9) (v := ?v10) rfl (by kernel_rfl) (by kernel_rfl) (by kernel_rfl) (fun _ _ _ h => h) (Or.inl ⟨by rfl, ?hy10⟩) (by assumption) ?rest10
      case hy10 => (intro w hSw; refine held_conv (.tmp 61) ?_ g12 32 32 ?_ mc mc _ hSw.2.1 (by rw [HML.out]; exact Nat.le_refl _) (List.take_of_length_le (by rw [HML.out]; exact Nat.le_refl _)) <;> rfl)
      try simp only [Act.put, List.getElem_toArray, List.getElem_cons_zero, List.getElem_cons_succ, List.setIfInBounds_toArray, List.set_cons_zero, List.set_cons_succ]
      refine wpAnyH_take (i := 10) (v := ?v11) rfl (by kernel_rfl) (by kernel_rfl) (by kernel_rfl) (fun _ _ _ h => h) (Or.inl ⟨by rfl, ?hy11⟩) (by assumption) ?rest11
      case hy11 => (intro w hSw; (try dsimp only at hSw); go_simp; try with_reducible rfl)
      try simp only [Act.put, List.getElem_toArray, List.getElem_cons_zero, List.getElem_cons_succ, List.setIfInBounds_toArray, List.set_cons_zero, List.set_cons_succ]
      refine wpAnyH_take (i := 11) (v := ?v12) rfl (by kernel_rfl) (by kernel_rfl) (by kernel_rfl) (fun _ _ _ h => h) (Or.inl ⟨by rfl, ?hy12⟩) (by assumption) ?rest12
      case hy12 => (intro w hSw; (try dsimp only at hSw); go_simp; try with_reducible rfl)
      try simp only [Act.put, List.getElem_toArray, List.getElem_cons_zero, List.getElem_cons_succ, List.setIfInBounds_toArray, List.set_cons_zero, List.set_cons_succ]
      refine wpAnyH_ready (rs := [12]) (by kernel_rfl) (by simp) ?_
      refine AllReadyH.cons rfl (fun K hK => ?_) AllReadyH.nil
      go_simp
      refine (HRM.out _ R0).mono ?_
      rintro e W1 ⟨rfl, F1, R1⟩
      have K1 := K0.frm F1 (fun h => h)
      have M1 := M0.frm F1 (fun h => h)
      have Z1 := Z0.frm F1 (fun h => h)
      have O1 := O0.frm F1 (fun _ _ _ h => h)
      refine hK.out _ _ (⟨O1, M1, Z1, K1⟩) (fun hHeld => ?_)
      clear hK K
      refine wpAnyH_take (i := 13) (v := ?v13) rfl (by kernel_rfl) (by kernel_rfl) (by kernel_rfl) (fun _ _ _ h => h) (Or.inl ⟨by rfl, ?hy13⟩) (by assumption) ?rest13
      case hy13 => (intro w hSw; (try dsimp only at hSw); go_simp; try with_reducible rfl)
      try simp only [Act.put, List.getElem_toArray, List.getElem_cons_zero, List.getElem_cons_succ, List.setIfInBounds_toArray, List.set_cons_zero, List.set_cons_succ]
      refine wpAnyH_take (i := 14) (v := ?v14) rfl (by kernel_rfl) (by kernel_rfl) (by kernel_rfl) (fun _ _ _ h => h) (Or.inl ⟨by rfl, ?hy14⟩) (by assumption) ?rest14
      case hy14 => (intro w hSw; (try dsimp only at hSw); go_simp; try with_reducible rfl)
      try simp only [Act.put, List.getElem_toArray, List.getElem_cons_zero, List.getElem_cons_succ, List.setIfInBounds_toArray, List.set_cons_zero, List.set_cons_succ]
      refine wpAnyH_take (i := 15) (v := ?v15) rfl (by kernel_rfl) (by kernel_rfl) (by kernel_rfl) (fun _ _ _ h => h) (Or.inl ⟨by rfl, ?hy15⟩) (by assumption) ?rest15
      case hy15 => (intro w hSw; (try dsimp only at hSw); go_simp; try with_reducible rfl)
      try simp only [Act.put, List.getElem_toArray, List.getElem_cons_zero, List.getElem_cons_succ, List.setIfInBounds_toArray, List.set_cons_zero, List.set_cons_succ]
      refine wpAnyH_take (i := 16) (v := ?v16) rfl (by kernel_rfl) (by kernel_rfl) (by kernel_rfl) (fun _ _ _ h => h) (Or.inl ⟨by rfl, ?hy16⟩) (by assumption) ?rest16
      case hy16 => (intro w hSw; (try dsimp only at hSw); go_simp; try with_reducible rfl)
      try simp only [Act.put, List.getElem_toArray, List.getElem_cons_zero, List.getElem_cons_succ, List.setIfInBounds_toArray, List.set_cons_zero, List.set_cons_succ]
      refine wpAnyH_take (i := 17) (v := ?v17) rfl (by kernel_rfl) (by kernel_rfl) (by kernel_rfl) (fun _ _ _ h => h) (Or.inl ⟨by rfl, ?hy17⟩) (by assumption) ?rest17
      case hy17 => (intro w hSw; refine held_conv (.tmp 69) ?_ g13 16 16 ?_ sc sc _ hSw.2.2.1 (by rw [HSL.out]; exact Nat.le_refl _) (List.take_of_length_le (by rw [HSL.out]; exact Nat.le_refl _)) <;> rfl)
      try simp only [Act.put, List.getElem_toArray, List.getElem_cons_zero, List.getElem_cons_succ, List.setIfInBounds_toArray, List.set_cons_zero, List.set_cons_succ]
      refine wpAnyH_take (i := 18) (v := ?v18) rfl (by kernel_rfl) (by kernel_rfl) (by kernel_rfl) (fun _ _ _ h => h) (Or.inl ⟨by rfl, ?hy18⟩) (by assumption) ?rest18
      case hy18 => (intro w hSw; (try dsimp only at hSw); go_simp; try with_reducible rfl)
      try simp only [Act.put, List.getElem_toArray, List.getElem_cons_zero, List.getElem_cons_succ, List.setIfInBounds_toArray, List.set_cons_zero, List.set_cons_succ]
      refine wpAnyH_take (i := 19) (v := ?v19) rfl (by kernel_rfl) (by kernel_rfl) (by kernel_rfl) (fun _ _ _ h => h) (Or.inl ⟨by rfl, ?hy19⟩) (by assumption) ?rest19
      case hy19 => (intro w hSw; refine held_conv (.tmp 71) ?_ _ 32 32 ?_ key key _ hSw.2.2.2 (by rw [hkey]; exact Nat.le_refl _) (List.take_of_length_le (by rw [hkey]; exact Nat.le_refl _)) <;> rfl)
      try simp only [Act.put, List.getElem_toArray, List.getElem_cons_zero, List.getElem_cons_succ, List.setIfInBounds_toArray, List.set_cons_zero, List.set_cons_succ]
      refine wpAnyH_take (i := 20) (v := ?v20) rfl (by kernel_rfl) (by kernel_rfl) (by kernel_rfl) (fun _ _ _ h => h) (Or.inl ⟨by rfl, ?hy20⟩) (by assumption) ?rest20
      case hy20 => (intro w hSw; (try dsimp only at hSw); go_simp; try with_reducible rfl)
      try simp only [Act.put, List.getElem_toArray, List.getElem_cons_zero, List.getElem_cons_succ, List.setIfInBounds_toArray, List.set_cons_zero, List.set_cons_succ]
      refine wpAnyH_ready (rs := [21]) (by kernel_rfl) (by simp) ?_
      refine AllReadyH.cons rfl (fun K hK => ?_) AllReadyH.nil
      go_simp
      refine (HRS.out _ R1).mono ?_
      rintro e W2 ⟨rfl, F2, R2⟩
      have K2 := K1.frm F2 (fun h => h)
      have M2 := M1.frm F2 (fun h => h)
      have Z2 := Z1.frm F2 (fun h => h)
      have O2 := O1.frm F2 (fun _ _ _ h => h)
      refine hK.out _ _ (⟨O2, M2, Z2, K2⟩) (fun hHeld => ?_)
      clear hK K
      refine wpAnyH_take (i := 22) (v := ?v21) rfl (by kernel_rfl) (by kernel_rfl) (by kernel_rfl) (fun _ _ _ h => h) (Or.inl ⟨by rfl, ?hy21⟩) (by assumption) ?rest21
      case hy21 => (intro w hSw; (try dsimp only at hSw); go_simp; try with_reducible rfl)
      try simp only [Act.put, List.getElem_toArray, List.getElem_cons_zero, List.getElem_cons_succ, List.setIfInBounds_toArray, List.set_cons_zero, List.set_cons_succ]
      refine wpAnyH_take (i := 23) (v := ?v22) rfl (by kernel_rfl) (by kernel_rfl) (by kernel_rfl) (fun _ _ _ h => h) (Or.inl ⟨by rfl, ?hy22⟩) (by assumption) ?rest22
      case hy22 => (intro w hSw; (try dsimp only at hSw); go_simp; try with_reducible rfl)
      try simp only [Act.put, List.getElem_toArray, List.getElem_cons_zero, List.getElem_cons_succ, List.setIfInBounds_toArray, List.set_cons_zero, List.set_cons_succ]
      refine wpAnyH_take (i := 24) (v := ?v23) rfl (by kernel_rfl) (by kernel_rfl) (by kernel_rfl) (fun _ _ _ h => h) (Or.inl ⟨by rfl, ?hy23⟩) (by assumption) ?rest23
      case hy23 => (intro w hSw; (try dsimp only at hSw); go_simp; try with_reducible rfl)
      try simp only [Act.put, List.getElem_toArray, List.getElem_cons_zero, List.getElem_cons_succ, List.setIfInBounds_toArray, List.set_cons_zero, List.set_cons_succ]
      refine wpAnyH_done (by kernel_rfl) ?_ _
      go_wp2
      go_ret
      exact ⟨rfl, R2.below⟩
end Go.Proofs.YtbicjcpdcopbhaaDoor
