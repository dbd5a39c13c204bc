/-
  HmacLabels, walked.
-/
import Derived.Test.YtbicjcpdcopbhaaDoorHm11
namespace Go.Proofs.YtbicjcpdcopbhaaDoor
set_option linter.unusedVariables false
set_option linter.unusedSimpArgs false
open Go.RowKit

theorem bytes_rds (w : World) (l : List UInt8) (n : Nat) (hn : l.length = n) : Rds (Lib.bytesWorld w 5 ⟨l.toArray⟩) (some ⟨w.heap.size, 0, none⟩) n (cellsB l) := by
  subst hn
  obtain ⟨A, c, hv, _, hr⟩ := (bytes_prt w l).1
  injection hv with h1
  subst h1
  exact hr
theorem step_alloca2 {P : Program} {ops : Array Oper} {op : Oper} {a : Act} {w : World} {K : Act → World → Prop} {Q : Exit → Act → World → Prop} {E : Prop} (hgd : op.guard = none) (t : TypeId) (ho : op.op = .alloc t)
    (cs : List Value) (hz : (P.info? t).map (fun i => i.zero) = some (some (.agg cs.toArray)))
    (h : ∀ g w', Blk w' g t cs.toArray → w.heap.size ≤ g → Frm (fun _ => False) w w' → K (a.put op.dst (.pointer (some ⟨g, 0, none⟩))) w') : if Region.wanted op (yielded ops a.tmps) = true then Oper.wp P op a w K Q else E := by
  have hw : Region.wanted op (yielded ops a.tmps) = true := by simp [Region.wanted, hgd]
  rw [if_pos hw]
  have hzv : ∀ w, (zeroValue t).run P w = .ok (.agg cs.toArray) w := by
    intro w
    cases hq : P.info? t with
    | none => simp [hq] at hz
    | some i => simp [hq] at hz; simp [zeroValue, typeInfo, hq, hz]
  unfold Oper.wp execOp
  simp [ho, Instr.alloc, hzv, newVar, newRow, Value.cells, Oper.upon, Result.andThen]
  exact h _ _ (Blk.new _ _ _) (Nat.le_refl _) (Frm.alloc _ _ _)

set_option maxHeartbeats 16000000 in
set_option maxRecDepth 100000 in
theorem hlabels_walk (key : List UInt8) (s1 : List UInt8) (a2 : Option Addr) (len2 cap2 : Nat) (l2 : List UInt8) (a3 : Option Addr) (len3 cap3 : Nat) (l3 : List UInt8) (w : World) (hG : Gl w) (hg0 : 2 ≤ w.heap.size) (hkey : key.length = 32) (hb1 : s1.length ≤ 9223372036854775807) (h2 : Rds w a2 len2 (cellsB l2)) (hl2 : len2 ≤ cap2) (hm2 : cap2 ≤ 9223372036854775807) (h3 : Rds w a3 len3 (cellsB l3)) (hl3 : len3 ≤ cap3) (hm3 : cap3 ≤ 9223372036854775807) :
    Calls Tryd.prog 12 #[.agg (cellsB key).toArray, .string ⟨s1.toArray⟩, .slice a2 len2 cap2, .slice a3 len3 cap3] w fun e w' => e = .returned (.bool true) ∧ Below w.heap.size w w' := by
  obtain ⟨n1, hn1⟩ : ∃ n, n = s1.length := ⟨_, rfl⟩
  have z1a : (⟨s1.toArray⟩ : ByteArray).size = n1 := by rw [txt_size, hn1]
  have z1b : s1.toArray.size = n1 := by rw [hn1]; simp
  have z1c : s1.length = n1 := hn1.symm
  obtain ⟨t1, HT1, tl1, tr1, te1⟩ := nat_min n1 100
  have hs1 := fun w => str_to s1 t1 (by rw [← hn1]; exact tl1) w
  have HY1 : Hid ((s1.take t1).length = t1) := by show _ = _; rw [List.length_take, ← hn1]; exact Nat.min_eq_left tl1
  obtain ⟨y1, hy1⟩ : ∃ y, y = s1.take t1 := ⟨_, rfl⟩
  rw [← hy1] at hs1 HY1
  have hyl1 : y1.length ≤ 100 := by rw [HY1.out]; exact tr1
  have hst1 : n1 ≤ 9223372036854775807 := by rw [hn1]; exact hb1
  clear hn1 hy1 te1
  obtain ⟨m2, HM2, ml2, mr2, me2⟩ := nat_min len2 100
  clear me2
  have HR2 := hide (h2.take m2 ml2)
  rw [cellsB_take] at HR2
  have HX2 : Hid ((l2.take m2).length = m2) := by have := HR2.out.1; rwa [cellsB_length] at this
  generalize l2.take m2 = x2 at *
  have hy2 : x2.length ≤ 100 := by rw [HX2.out]; exact mr2
  have hc2 : m2 ≤ cap2 := by omega
  clear h2
  obtain ⟨m3, HM3, ml3, mr3, me3⟩ := nat_min len3 100
  clear me3
  have HR3 := hide (h3.take m3 ml3)
  rw [cellsB_take] at HR3
  have HX3 : Hid ((l3.take m3).length = m3) := by have := HR3.out.1; rwa [cellsB_length] at this
  generalize l3.take m3 = x3 at *
  have hy3 : x3.length ≤ 100 := by rw [HX3.out]; exact mr3
  have hc3 : m3 ≤ cap3 := by omega
  clear h3
  have HKC : Hid ((cellsB key).length = 32) := by show _ = _; rw [cellsB_length]; exact hkey
  have HKX : Hid (((cellsB key).drop 0).take 32 = cellsB key) := by show _ = _; rw [List.drop_zero, List.take_of_length_le (by rw [HKC.out]; exact Nat.le_refl _)]
  have HKL : Hid (0 + 32 ≤ (cellsB key).length) := by show _ ≤ _; rw [HKC.out]; exact Nat.le_refl _
  have hR0 := Run.boxed hG hg0 (.cells (cellsB key).toArray 43)
  have hK0 := Blk.new w 43 (cellsB key).toArray
  have q1 : (⟨y1.toArray⟩ : ByteArray).size = t1 := by rw [txt_size]; exact HY1.out
  have q2 : y1.toArray.size = t1 := by rw [← HY1.out]; simp
  have q3 : y1.length = t1 := HY1.out
  have e1 : IntKind.u32.wrap (t1 : Int) = (t1 : Int) := by rw [IntKind.wrap_u32']; omega
  have e2 : IntKind.u32.wrap (m2 : Int) = (m2 : Int) := by rw [IntKind.wrap_u32']; omega
  have e3 : IntKind.u32.wrap (m3 : Int) = (m3 : Int) := by rw [IntKind.wrap_u32']; omega
  have hcb := fun w => conv_bytes y1 t1 HY1.out w
  have hslK := slK
  go_enter Tryd.func12, Tryd.ntmps12
  go_wp2_with fail
  refine (hshown_from w _ hR0).mono ?_
  rintro e w1 ⟨rfl, hF1, hR1⟩
  have hK1 := hK0.frm hF1 (fun h => h)
  clear hR0 hK0 hF1
  go_wp2_with (first
    | (refine wpl_min rfl (.tmp 17) (.const (.int .i64 100)) _ _ rfl _ (n1 : Int) 100 (t1 : Int) rfl rfl HT1.out ?_)
    | (refine wpl_min rfl (.tmp 22) (.const (.int .i64 100)) _ _ rfl _ (len2 : Int) 100 (m2 : Int) rfl rfl HM2.out ?_)
    | (refine wpl_min rfl (.tmp 27) (.const (.int .i64 100)) _ _ rfl _ (len3 : Int) 100 (m3 : Int) rfl rfl HM3.out ?_))
  have hFw : Frm (fun _ => False) w1 (w1.alloc (.cells #[.slice none 0 0] 61)) := Frm.alloc _ _ _
  have hBw := Blk.new w1 61 #[.slice none 0 0]
  have D0 : Wr (w1.alloc (.cells #[.slice none 0 0] 61)) w1.heap.size none [] := ⟨.slice none 0 0, hBw, ⟨rfl, .inl ⟨rfl, rfl⟩⟩, .inl rfl⟩
  have hg : w.heap.size < w1.heap.size := hK1.lt
  have hR2 := hR1.frm hFw (fun _ h => h.elim)
  have hK2 := hK1.frm hFw (fun h => h)
  obtain ⟨g, hgg⟩ : ∃ g, g = w1.heap.size := ⟨_, rfl⟩
  rw [← hgg] at D0 hg ⊢
  clear hgg hBw hFw hR1 hK1
  refine (wu32_run w _ g none [] key t1 D0 (by simp) (by omega) hR2 hg (fun j hj => by cases hj) hK2).mono ?_
  rintro e w3 ⟨rfl, d3, D3, hd3, hR3, hK3⟩
  rw [List.nil_append] at D3
  clear D0 hR2 hK2
  have F4 := bytes_frm w3 5 ⟨y1.toArray⟩
  have HCR := hide (bytes_rds w3 y1 t1 HY1.out)
  go_wp2_with fail
  refine (wbytes_run w _ g d3 (be 4 t1) key y1 (some ⟨w3.heap.size, 0, none⟩) t1 (grownCap w3 t1 0 5) (D3.frm0 F4) (by rw [be_length]; omega) HCR.out (by omega) (hR3.frm F4 (fun _ h => h.elim)) hg hd3 (hK3.frm F4 (fun h => h))).mono ?_
  rintro e w5 ⟨rfl, d5, D5, hd5, hR5, hK5⟩
  clear D3 hR3 hK3 hd3 F4 HCR
  have hl5 : (be 4 t1 ++ y1).length ≤ 1000 := by rw [List.length_append, be_length, q3]; omega
  go_wp2_with fail
  refine (wu32_run w w5 g d5 _ key m2 D5 (by omega) (by omega) hR5 hg hd5 hK5).mono ?_
  rintro e w6 ⟨rfl, d6, D6, hd6, hR6, hK6⟩
  clear D5 hR5 hK5 hd5
  go_wp2_with fail
  refine (wbytes_run w w6 g d6 _ key x2 a2 m2 cap2 D6 (by rw [List.length_append, be_length]; omega) (HR2.out.below hR6.below) (by omega) hR6 hg hd6 hK6).mono ?_
  rintro e w7 ⟨rfl, d7, D7, hd7, hR7, hK7⟩
  clear D6 hR6 hK6 hd6
  go_wp2_with fail
  refine (wu32_run w w7 g d7 _ key m3 D7 (by rw [List.length_append, List.length_append, be_length]; omega) (by omega) hR7 hg hd7 hK7).mono ?_
  rintro e w8 ⟨rfl, d8, D8, hd8, hR8, hK8⟩
  clear D7 hR7 hK7 hd7
  go_wp2_with fail
  refine (wbytes_run w w8 g d8 _ key x3 a3 m3 cap3 D8 (by simp only [List.length_append, be_length]; omega) (HR3.out.below hR8.below) (by omega) hR8 hg hd8 hK8).mono ?_
  rintro e w9 ⟨rfl, d9, D9, hd9, hR9, hK9⟩
  clear D8 hR8 hK8 hd8 hd9
  have HAL : Hid (be 4 t1 ++ y1 ++ be 4 m2 ++ x2 ++ be 4 m3 ++ x3 = (measured [y1, x2, x3]).flatten) := by show _ = _; rw [meas3, HY1.out, HX2.out, HX3.out]
  rw [HAL.out] at D9
  have HDE : Hid (deriveL key y1 [x2, x3] = macL key (measured [y1, x2, x3]).flatten) := rfl
  have HALl : Hid ((measured [y1, x2, x3]).flatten.length ≤ 1000) := by show _ ≤ _; rw [← HAL.out]; simp only [List.length_append, be_length]; omega
  have HML := hide (macL_length key (measured [y1, x2, x3]).flatten)
  have HDR := hide (fun W (hR : Run w W) => derive_row w W key y1 hkey [.slice a2 m2 cap2, .slice a3 m3 cap3] [x2, x3] (.cons (prt_old HR2.out HX2.out hc2 hR.below) (.cons (prt_old HR3.out HX3.out hc3 hR.below) .nil)) hR (by omega) (fun k => by rcases k with _ | _ | k <;> simp <;> omega) (by simp; omega) (by simp))
  rw [HDE.out] at HDR
  obtain ⟨all, hall⟩ : ∃ all, all = (measured [y1, x2, x3]).flatten := ⟨_, rfl⟩
  rw [← hall] at D9 HALl HML HDR
  have HMA := hide (fun W A n c PA pn pc vs (hr : Rds W A n (cellsB key)) (hc : n ≤ c) (hn : n ≤ 100000) (hrow : Rds W PA pn vs) (hA : All2 W vs [all]) (hR : Run w W) => mac_now w W A n c key PA pn pc vs [all] all hr hc hn hrow hA (by simp) hR (by have := HALl.out; omega) (by simp))
  have HSA := hide (fun W PA pn pc vs (hrow : Rds W PA pn vs) (hA : All2 W vs [all]) (hR : Run w W) => short_now w W key hkey PA pn pc vs [all] all hrow hA (by simp) hR (by have := HALl.out; omega) (by simp))
  obtain ⟨mc, hmc⟩ : ∃ mc, mc = macL key all := ⟨_, rfl⟩
  rw [← hmc] at HML HDR HMA HSA
  obtain ⟨na, hna⟩ : ∃ na, na = all.length := ⟨_, rfl⟩
  have HNA : Hid ((cellsB all).length = na) := by show _ = _; rw [cellsB_length, hna]
  have HNB : Hid (all.length = na) := hna.symm
  have HMC : Hid ((cellsB mc).length = 32) := by show _ = _; rw [cellsB_length]; exact HML.out
  have HSL : Hid ((mc.take 16).length = 16) := by show _ = _; rw [List.length_take, HML.out]; rfl
  have HSC : Hid ((cellsB (mc.take 16)).length = 16) := by show _ = _; rw [cellsB_length]; exact HSL.out
  clear hall hmc hna HAL HDE hl5 hcb
  obtain ⟨d, D9', hdl⟩ := D9.norm
  have FD : Frm (fun _ => False) w9 w9.drew := (Frm.refl _ _).drew
  have D0 := D9'.frm0 FD
  have K0 := hK9.frm FD (fun h => h)
  have R0 := hR9.frm FD (fun _ h => h.elim)
  have hdl0 : ∀ j, d = some j → j < w9.drew.heap.size := hdl
  clear D9 D9' hdl FD hK9 hR9
  go_wp2_with fail
  refine wp_region_held_drew (S := fun W => Blk W w.heap.size 43 (cellsB key).toArray) (by kernel_rfl) (K0) ?_
  intro hHeld
  obtain ⟨W0, hW0⟩ : ∃ W', W' = w9.drew := ⟨_, rfl⟩
  rw [← hW0] at D0 K0 R0 hdl0 hHeld ⊢
  have L0 := hdl0
  clear hW0 hdl0
  refine wpAnyH_take (i := 0) (v := ?_) rfl (by kernel_rfl) (by kernel_rfl) (by kernel_rfl) (fun _ _ _ h => h) (Or.inl ⟨by rfl, ?_⟩) (by assumption) ?_
  rotate_left
  · (intro w hSw; (try dsimp only at hSw); go_simp; try with_reducible rfl)
  try simp only [Act.put, List.getElem_toArray, List.getElem_cons_zero, List.setIfInBounds_toArray, List.set_cons_zero, List.set_cons_succ]
  refine wpAnyH_take (i := 1) (v := ?_) rfl (by kernel_rfl) (by kernel_rfl) (by kernel_rfl) (fun _ _ _ h => h) (Or.inl ⟨by rfl, ?_⟩) (by assumption) ?_
  rotate_left
  · (intro w hSw; (try dsimp only at hSw); go_simp; try with_reducible rfl)
  try simp only [Act.put, List.getElem_toArray, List.getElem_cons_zero, List.getElem_cons_succ, List.setIfInBounds_toArray, List.set_cons_zero, List.set_cons_succ]
  refine wpAnyH_ready (rs := [2, 5]) (by kernel_rfl) (by simp) ?_
  refine AllReadyH.cons rfl (fun K hK => ?_) ?_
  go_simp
  refine (wdone_now _ g d all na D0 (by have := HALl.out; omega) HNA.out).mono ?_
  rintro e W1 ⟨AD, cD, rfl, P1, F1⟩
  have D1 := D0.frm0 F1
  have K1 := K0.frm F1 (fun h => h)
  have R1 := R0.frm F1 (fun _ h => h.elim)
  have L1 : ∀ j, d = some j → j < W1.heap.size := fun j hj => Nat.lt_of_lt_of_le (L0 j hj) F1.size
  refine hK.out _ _ (K1) (fun hHeld => ?_)
  clear hK K
  refine wpAnyH_ready (rs := [3, 5]) (by kernel_rfl) (by simp) ?_
  refine AllReadyH.cons rfl (fun K hK => ?_) ?_
  go_simp
  have F2 : Frm (fun _ => False) W1 (W1.alloc (.cells #[.slice AD na cD] 24)) := Frm.alloc _ _ _
  have Q2 := alloc_rds W1 [.slice AD na cD] 24 (0, 0)
  obtain ⟨W2, hW2⟩ : ∃ W', W' = W1.alloc (.cells #[.slice AD na cD] 24) := ⟨_, rfl⟩
  rw [show W1.alloc (.cells [.slice AD na cD].toArray 24) = W2 from hW2.symm] at Q2
  rw [← hW2] at F2 ⊢
  clear hW2
  obtain ⟨g55, hg55⟩ : ∃ g55, g55 = W1.heap.size := ⟨_, rfl⟩
  rw [← hg55] at Q2 ⊢
  clear hg55
  have D2 := D1.frm0 F2
  have K2 := K1.frm F2 (fun h => h)
  have R2 := R1.frm F2 (fun _ h => h.elim)
  have L2 : ∀ j, d = some j → j < W2.heap.size := fun j hj => Nat.lt_of_lt_of_le (L1 j hj) F2.size
  have P2 := P1.frm0 F2
  refine hK.out _ _ (K2) (fun hHeld => ?_)
  clear hK K
  refine wpAnyH_ready (rs := [4, 5]) (by kernel_rfl) (by simp) ?_
  refine AllReadyH.cons rfl (fun K hK => ?_) ?_
  go_simp
  refine (HMA.out _ (some ⟨w.heap.size, 0, none⟩) 32 32 (some ⟨g55, 0, none⟩) 1 1 [.slice AD na cD] (by have := K2.rds; rwa [HKC.out] at this) (Nat.le_refl _) (by omega) Q2 (.cons P2 .nil) R2).mono ?_
  rintro e W3 ⟨rfl, F3, _⟩
  have D3 := D2.frm0 F3
  have K3 := K2.frm F3 (fun h => h)
  have R3 := R2.frm F3 (fun _ h => h.elim)
  have L3 : ∀ j, d = some j → j < W3.heap.size := fun j hj => Nat.lt_of_lt_of_le (L2 j hj) F3.size
  refine hK.out _ _ (K3) (fun hHeld => ?_)
  clear hK K
  refine wpAnyH_ready (rs := [5]) (by kernel_rfl) (by simp) ?_
  refine AllReadyH.cons rfl (fun K hK => ?_) AllReadyH.nil
  refine step_alloca2 rfl _ rfl _ zero32 ?_
  intro g11 W4 Z4 hz4 F4
  have bg11 : w.heap.size < g11 := by have := K3.lt; omega
  have cg11 : g ≠ g11 := by have := D3.lt; omega
  have lg11 : ∀ j, d = some j → ¬ (j = g11) := fun j hj => by have := L3 j hj; omega
  have D4 := D3.frm0 F4
  have K4 := K3.frm F4 (fun h => h)
  have R4 := R3.frm F4 (fun _ h => h.elim)
  have L4 : ∀ j, d = some j → j < W4.heap.size := fun j hj => Nat.lt_of_lt_of_le (L3 j hj) F4.size
  refine hK.out _ _ (K4) (fun hHeld => ?_)
  clear hK K
  refine wpAnyH_ready (rs := [6]) (by kernel_rfl) (by simp) ?_
  refine AllReadyH.cons rfl (fun K hK => ?_) AllReadyH.nil
  refine step_storea agg32 rfl (.tmp 11) (.tmp 56) rfl g11 (cellsB mc) rfl rfl _ _ Z4 HMC.out rfl (cellsB_one _) ?_
  intro Wf Zf Ff
  have Df := D4.frm Ff cg11 lg11
  have Kf := K4.frm Ff (by omega)
  have Rf := R4.frm Ff (fun k hk => by omega)
  have Lf : ∀ j, d = some j → j < Wf.heap.size := fun j hj => Nat.lt_of_lt_of_le (L4 j hj) Ff.size
  refine hK.out _ _ (Kf) (fun hHeld => ?_)
  clear hK K
  refine wpAnyH_done (by kernel_rfl) ?_ _
  rotate_left
  refine AllReadyH.cons rfl (fun K hK => ?_) AllReadyH.nil
  refine step_alloca2 rfl _ rfl _ zero32 ?_
  intro g11 W3 Z3 hz3 F3
  have bg11 : w.heap.size < g11 := by have := K2.lt; omega
  have cg11 : g ≠ g11 := by have := D2.lt; omega
  have lg11 : ∀ j, d = some j → ¬ (j = g11) := fun j hj => by have := L2 j hj; omega
  have D3 := D2.frm0 F3
  have K3 := K2.frm F3 (fun h => h)
  have R3 := R2.frm F3 (fun _ h => h.elim)
  have L3 : ∀ j, d = some j → j < W3.heap.size := fun j hj => Nat.lt_of_lt_of_le (L2 j hj) F3.size
  have P3 := P2.frm0 F3
  have Q3 := Q2.frm F3 (fun _ _ _ h => h)
  refine hK.out _ _ (K3) (fun hHeld => ?_)
  clear hK K
  refine wpAnyH_ready (rs := [4]) (by kernel_rfl) (by simp) ?_
  refine AllReadyH.cons rfl (fun K hK => ?_) AllReadyH.nil
  go_simp
  refine (HMA.out _ (some ⟨w.heap.size, 0, none⟩) 32 32 (some ⟨g55, 0, none⟩) 1 1 [.slice AD na cD] (by have := K3.rds; rwa [HKC.out] at this) (Nat.le_refl _) (by omega) Q3 (.cons P3 .nil) R3).mono ?_
  rintro e W4 ⟨rfl, F4, _⟩
  have D4 := D3.frm0 F4
  have K4 := K3.frm F4 (fun h => h)
  have R4 := R3.frm F4 (fun _ h => h.elim)
  have L4 : ∀ j, d = some j → j < W4.heap.size := fun j hj => Nat.lt_of_lt_of_le (L3 j hj) F4.size
  have Z4 := Z3.frm F4 (fun h => h)
  refine hK.out _ _ (K4) (fun hHeld => ?_)
  clear hK K
  refine wpAnyH_ready (rs := [6]) (by kernel_rfl) (by simp) ?_
  refine AllReadyH.cons rfl (fun K hK => ?_) AllReadyH.nil
  refine step_storea agg32 rfl (.tmp 11) (.tmp 56) rfl g11 (cellsB mc) rfl rfl _ _ Z4 HMC.out rfl (cellsB_one _) ?_
  intro Wf Zf Ff
  have Df := D4.frm Ff cg11 lg11
  have Kf := K4.frm Ff (by omega)
  have Rf := R4.frm Ff (fun k hk => by omega)
  have Lf : ∀ j, d = some j → j < Wf.heap.size := fun j hj => Nat.lt_of_lt_of_le (L4 j hj) Ff.size
  refine hK.out _ _ (Kf) (fun hHeld => ?_)
  clear hK K
  refine wpAnyH_done (by kernel_rfl) ?_ _
  rotate_left
  refine AllReadyH.cons rfl (fun K hK => ?_) AllReadyH.nil
  refine step_alloca2 rfl _ rfl _ zero32 ?_
  intro g11 W2 Z2 hz2 F2
  have bg11 : w.heap.size < g11 := by have := K1.lt; omega
  have cg11 : g ≠ g11 := by have := D1.lt; omega
  have lg11 : ∀ j, d = some j → ¬ (j = g11) := fun j hj => by have := L1 j hj; omega
  have D2 := D1.frm0 F2
  have K2 := K1.frm F2 (fun h => h)
  have R2 := R1.frm F2 (fun _ h => h.elim)
  have L2 : ∀ j, d = some j → j < W2.heap.size := fun j hj => Nat.lt_of_lt_of_le (L1 j hj) F2.size
  have P2 := P1.frm0 F2
  refine hK.out _ _ (K2) (fun hHeld => ?_)
  clear hK K
  refine wpAnyH_ready (rs := [3]) (by kernel_rfl) (by simp) ?_
  refine AllReadyH.cons rfl (fun K hK => ?_) AllReadyH.nil
  go_simp
  have F3 : Frm (fun _ => False) W2 (W2.alloc (.cells #[.slice AD na cD] 24)) := Frm.alloc _ _ _
  have Q3 := alloc_rds W2 [.slice AD na cD] 24 (0, 0)
  obtain ⟨W3, hW3⟩ : ∃ W', W' = W2.alloc (.cells #[.slice AD na cD] 24) := ⟨_, rfl⟩
  rw [show W2.alloc (.cells [.slice AD na cD].toArray 24) = W3 from hW3.symm] at Q3
  rw [← hW3] at F3 ⊢
  clear hW3
  obtain ⟨g55, hg55⟩ : ∃ g55, g55 = W2.heap.size := ⟨_, rfl⟩
  rw [← hg55] at Q3 ⊢
  clear hg55
  have D3 := D2.frm0 F3
  have K3 := K2.frm F3 (fun h => h)
  have R3 := R2.frm F3 (fun _ h => h.elim)
  have L3 : ∀ j, d = some j → j < W3.heap.size := fun j hj => Nat.lt_of_lt_of_le (L2 j hj) F3.size
  have P3 := P2.frm0 F3
  have Z3 := Z2.frm F3 (fun h => h)
  refine hK.out _ _ (K3) (fun hHeld => ?_)
  clear hK K
  refine wpAnyH_ready (rs := [4]) (by kernel_rfl) (by simp) ?_
  refine AllReadyH.cons rfl (fun K hK => ?_) AllReadyH.nil
  go_simp
  refine (HMA.out _ (some ⟨w.heap.size, 0, none⟩) 32 32 (some ⟨g55, 0, none⟩) 1 1 [.slice AD na cD] (by have := K3.rds; rwa [HKC.out] at this) (Nat.le_refl _) (by omega) Q3 (.cons P3 .nil) R3).mono ?_
  rintro e W4 ⟨rfl, F4, _⟩
  have D4 := D3.frm0 F4
  have K4 := K3.frm F4 (fun h => h)
  have R4 := R3.frm F4 (fun _ h => h.elim)
  have L4 : ∀ j, d = some j → j < W4.heap.size := fun j hj => Nat.lt_of_lt_of_le (L3 j hj) F4.size
  have Z4 := Z3.frm F4 (fun h => h)
  refine hK.out _ _ (K4) (fun hHeld => ?_)
  clear hK K
  refine wpAnyH_ready (rs := [6]) (by kernel_rfl) (by simp) ?_
  refine AllReadyH.cons rfl (fun K hK => ?_) AllReadyH.nil
  refine step_storea agg32 rfl (.tmp 11) (.tmp 56) rfl g11 (cellsB mc) rfl rfl _ _ Z4 HMC.out rfl (cellsB_one _) ?_
  intro Wf Zf Ff
  have Df := D4.frm Ff cg11 lg11
  have Kf := K4.frm Ff (by omega)
  have Rf := R4.frm Ff (fun k hk => by omega)
  have Lf : ∀ j, d = some j → j < Wf.heap.size := fun j hj => Nat.lt_of_lt_of_le (L4 j hj) Ff.size
  refine hK.out _ _ (Kf) (fun hHeld => ?_)
  clear hK K
  refine wpAnyH_done (by kernel_rfl) ?_ _
  rotate_left
  refine AllReadyH.cons rfl (fun K hK => ?_) AllReadyH.nil
  refine step_alloca2 rfl _ rfl _ zero32 ?_
  intro g11 W1 Z1 hz1 F1
  have bg11 : w.heap.size < g11 := by have := K0.lt; omega
  have cg11 : g ≠ g11 := by have := D0.lt; omega
  have lg11 : ∀ j, d = some j → ¬ (j = g11) := fun j hj => by have := L0 j hj; omega
  have D1 := D0.frm0 F1
  have K1 := K0.frm F1 (fun h => h)
  have R1 := R0.frm F1 (fun _ h => h.elim)
  have L1 : ∀ j, d = some j → j < W1.heap.size := fun j hj => Nat.lt_of_lt_of_le (L0 j hj) F1.size
  refine hK.out _ _ (K1) (fun hHeld => ?_)
  clear hK K
  refine wpAnyH_ready (rs := [2]) (by kernel_rfl) (by simp) ?_
  refine AllReadyH.cons rfl (fun K hK => ?_) AllReadyH.nil
  go_simp
  refine (wdone_now _ g d all na D1 (by have := HALl.out; omega) HNA.out).mono ?_
  rintro e W2 ⟨AD, cD, rfl, P2, F2⟩
  have D2 := D1.frm0 F2
  have K2 := K1.frm F2 (fun h => h)
  have R2 := R1.frm F2 (fun _ h => h.elim)
  have L2 : ∀ j, d = some j → j < W2.heap.size := fun j hj => Nat.lt_of_lt_of_le (L1 j hj) F2.size
  have Z2 := Z1.frm F2 (fun h => h)
  refine hK.out _ _ (K2) (fun hHeld => ?_)
  clear hK K
  refine wpAnyH_ready (rs := [3]) (by kernel_rfl) (by simp) ?_
  refine AllReadyH.cons rfl (fun K hK => ?_) AllReadyH.nil
  go_simp
  have F3 : Frm (fun _ => False) W2 (W2.alloc (.cells #[.slice AD na cD] 24)) := Frm.alloc _ _ _
  have Q3 := alloc_rds W2 [.slice AD na cD] 24 (0, 0)
  obtain ⟨W3, hW3⟩ : ∃ W', W' = W2.alloc (.cells #[.slice AD na cD] 24) := ⟨_, rfl⟩
  rw [show W2.alloc (.cells [.slice AD na cD].toArray 24) = W3 from hW3.symm] at Q3
  rw [← hW3] at F3 ⊢
  clear hW3
  obtain ⟨g55, hg55⟩ : ∃ g55, g55 = W2.heap.size := ⟨_, rfl⟩
  rw [← hg55] at Q3 ⊢
  clear hg55
  have D3 := D2.frm0 F3
  have K3 := K2.frm F3 (fun h => h)
  have R3 := R2.frm F3 (fun _ h => h.elim)
  have L3 : ∀ j, d = some j → j < W3.heap.size := fun j hj => Nat.lt_of_lt_of_le (L2 j hj) F3.size
  have P3 := P2.frm0 F3
  have Z3 := Z2.frm F3 (fun h => h)
  refine hK.out _ _ (K3) (fun hHeld => ?_)
  clear hK K
  refine wpAnyH_ready (rs := [4]) (by kernel_rfl) (by simp) ?_
  refine AllReadyH.cons rfl (fun K hK => ?_) AllReadyH.nil
  go_simp
  refine (HMA.out _ (some ⟨w.heap.size, 0, none⟩) 32 32 (some ⟨g55, 0, none⟩) 1 1 [.slice AD na cD] (by have := K3.rds; rwa [HKC.out] at this) (Nat.le_refl _) (by omega) Q3 (.cons P3 .nil) R3).mono ?_
  rintro e W4 ⟨rfl, F4, _⟩
  have D4 := D3.frm0 F4
  have K4 := K3.frm F4 (fun h => h)
  have R4 := R3.frm F4 (fun _ h => h.elim)
  have L4 : ∀ j, d = some j → j < W4.heap.size := fun j hj => Nat.lt_of_lt_of_le (L3 j hj) F4.size
  have Z4 := Z3.frm F4 (fun h => h)
  refine hK.out _ _ (K4) (fun hHeld => ?_)
  clear hK K
  refine wpAnyH_ready (rs := [6]) (by kernel_rfl) (by simp) ?_
  refine AllReadyH.cons rfl (fun K hK => ?_) AllReadyH.nil
  refine step_storea agg32 rfl (.tmp 11) (.tmp 56) rfl g11 (cellsB mc) rfl rfl _ _ Z4 HMC.out rfl (cellsB_one _) ?_
  intro Wf Zf Ff
  have Df := D4.frm Ff cg11 lg11
  have Kf := K4.frm Ff (by omega)
  have Rf := R4.frm Ff (fun k hk => by omega)
  have Lf : ∀ j, d = some j → j < Wf.heap.size := fun j hj => Nat.lt_of_lt_of_le (L4 j hj) Ff.size
  refine hK.out _ _ (Kf) (fun hHeld => ?_)
  clear hK K
  refine wpAnyH_done (by kernel_rfl) ?_ _
  rotate_left
  all_goals
    clear hHeld
    have HMX : Hid (((cellsB mc).drop 0).take 32 = cellsB mc) := by show _ = _; rw [List.drop_zero, List.take_of_length_le (by rw [HMC.out]; exact Nat.le_refl _)]
    go_wp2_with (with_reducible refine wpl_loada (op := ⟨some 57, _, _, _, _, _⟩) aggK rfl _ rfl w.heap.size 0 rfl _ _ _ Kf HKX.out HKL.out ?_)
    refine (HDR.out Wf Rf).mono ?_
    rintro e w20 ⟨rfl, F20, R20⟩
    have D20 := Df.frm0 F20
    have K20 := Kf.frm F20 (fun h => h)
    have M20 := Zf.frm F20 (fun h => h)
    have L20 : ∀ j, d = some j → j < w20.heap.size := fun j hj => Nat.lt_of_lt_of_le (Lf j hj) F20.size
    clear Df Kf Rf Zf Ff Lf F20
    go_wp2_with (first
      | ((with_reducible refine wpl_alloca (op := ⟨some 12, _, _, _, _, _⟩) rfl _ rfl _ zeroK ?_); intro g12 w21 hB21 hs21 hF21)
      | ((with_reducible refine wpl_storea aggK rfl (.tmp 12) (.tmp 62) rfl g12 (cellsB mc) rfl rfl _ _ hB21 HMC.out rfl (cellsB_one _) ?_); intro w22 hB22 hF22))
    have b12 : w.heap.size < g12 := by have := K20.lt; omega
    have FF : Frm (fun k => k = g12) w20 w22.drew := ((hF21.mono (T := fun k => k = g12) (fun _ _ h => h.elim)).trans hF22 (fun _ _ h => h)).drew
    have D0 := D20.frm FF (by have := D20.lt; omega) (fun j hj => by have := L20 j hj; omega)
    have K0 := K20.frm FF (by omega)
    have M0 := M20.frm FF (by have := M20.lt; omega)
    have N0 : Blk w22.drew g12 43 (cellsB mc).toArray := hB22
    have R0 := R20.frm FF (fun k hk => by omega)
    have L0 : ∀ j, d = some j → j < w22.drew.heap.size := fun j hj => Nat.lt_of_lt_of_le (L20 j hj) FF.size
    clear D20 K20 M20 R20 L20 hB21 hF21 hB22 hF22 FF
    refine wp_region_held_drew (S := fun W => Blk W w.heap.size 43 (cellsB key).toArray) (by kernel_rfl) (K0) ?_
    intro hHeld
    obtain ⟨W0, hW0⟩ : ∃ W', W' = w22.drew := ⟨_, rfl⟩
    rw [← hW0] at D0 K0 M0 N0 R0 L0 hHeld ⊢
    clear hW0
    refine wpAnyH_take (i := 0) (v := ?_) rfl (by kernel_rfl) (by kernel_rfl) (by kernel_rfl) (fun _ _ _ h => h) (Or.inl ⟨by rfl, ?_⟩) (by assumption) ?_
    rotate_left
    · (intro w hSw; refine held_loadG aggK (.tmp 4) ?_ _ ?_ key hkey _ hSw <;> rfl)
    try simp only [Act.put, List.getElem_toArray, List.getElem_cons_zero, List.getElem_cons_succ, List.setIfInBounds_toArray, List.set_cons_zero, List.set_cons_succ]
    refine wpAnyH_take (i := 1) (v := ?_) rfl (by kernel_rfl) (by kernel_rfl) (by kernel_rfl) (fun _ _ _ h => h) (Or.inl ⟨by rfl, ?_⟩) (by assumption) ?_
    rotate_left
    · (intro w hSw; (try dsimp only at hSw); go_simp; try with_reducible rfl)
    try simp only [Act.put, List.getElem_toArray, List.getElem_cons_zero, List.getElem_cons_succ, List.setIfInBounds_toArray, List.set_cons_zero, List.set_cons_succ]
    refine wpAnyH_ready (rs := [2, 5]) (by kernel_rfl) (by simp) ?_
    refine AllReadyH.cons rfl (fun K hK => ?_) ?_
    go_simp
    refine (wdone_now _ g d all na D0 (by have := HALl.out; omega) HNA.out).mono ?_
    rintro e W1 ⟨AD, cD, rfl, P1, F1⟩
    have D1 := D0.frm0 F1
    have K1 := K0.frm F1 (fun h => h)
    have R1 := R0.frm F1 (fun _ h => h.elim)
    have L1 : ∀ j, d = some j → j < W1.heap.size := fun j hj => Nat.lt_of_lt_of_le (L0 j hj) F1.size
    have M1 := M0.frm F1 (fun h => h)
    have N1 := N0.frm F1 (fun h => h)
    refine hK.out _ _ (K1) (fun hHeld => ?_)
    clear hK K
    refine wpAnyH_ready (rs := [3, 5]) (by kernel_rfl) (by simp) ?_
    refine AllReadyH.cons rfl (fun K hK => ?_) ?_
    go_simp
    have F2 : Frm (fun _ => False) W1 (W1.alloc (.cells #[.slice AD na cD] 24)) := Frm.alloc _ _ _
    have Q2 := alloc_rds W1 [.slice AD na cD] 24 (0, 0)
    obtain ⟨W2, hW2⟩ : ∃ W', W' = W1.alloc (.cells #[.slice AD na cD] 24) := ⟨_, rfl⟩
    rw [show W1.alloc (.cells [.slice AD na cD].toArray 24) = W2 from hW2.symm] at Q2
    rw [← hW2] at F2 ⊢
    clear hW2
    obtain ⟨g55, hg55⟩ : ∃ g55, g55 = W1.heap.size := ⟨_, rfl⟩
    rw [← hg55] at Q2 ⊢
    clear hg55
    have D2 := D1.frm0 F2
    have K2 := K1.frm F2 (fun h => h)
    have R2 := R1.frm F2 (fun _ h => h.elim)
    have L2 : ∀ j, d = some j → j < W2.heap.size := fun j hj => Nat.lt_of_lt_of_le (L1 j hj) F2.size
    have P2 := P1.frm0 F2
    have M2 := M1.frm F2 (fun h => h)
    have N2 := N1.frm F2 (fun h => h)
    refine hK.out _ _ (K2) (fun hHeld => ?_)
    clear hK K
    refine wpAnyH_ready (rs := [4, 5]) (by kernel_rfl) (by simp) ?_
    refine AllReadyH.cons rfl (fun K hK => ?_) ?_
    go_simp
    refine (HSA.out _ (some ⟨g55, 0, none⟩) 1 1 [.slice AD na cD] Q2 (.cons P2 .nil) R2).mono ?_
    rintro e W3 ⟨rfl, F3, _⟩
    have D3 := D2.frm0 F3
    have K3 := K2.frm F3 (fun h => h)
    have R3 := R2.frm F3 (fun _ h => h.elim)
    have L3 : ∀ j, d = some j → j < W3.heap.size := fun j hj => Nat.lt_of_lt_of_le (L2 j hj) F3.size
    have M3 := M2.frm F3 (fun h => h)
    have N3 := N2.frm F3 (fun h => h)
    refine hK.out _ _ (K3) (fun hHeld => ?_)
    clear hK K
    refine wpAnyH_ready (rs := [5]) (by kernel_rfl) (by simp) ?_
    refine AllReadyH.cons rfl (fun K hK => ?_) AllReadyH.nil
    refine step_alloca2 rfl _ rfl _ zero16 ?_
    intro g13 W4 Z4 hz4 F4
    have bg13 : w.heap.size < g13 := by have := K3.lt; omega
    have cg13 : g ≠ g13 := by have := D3.lt; omega
    have lg13 : ∀ j, d = some j → ¬ (j = g13) := fun j hj => by have := L3 j hj; omega
    have mg : g11 ≠ g13 := by have := M3.lt; omega
    have ng : g12 ≠ g13 := by have := N3.lt; omega
    have D4 := D3.frm0 F4
    have K4 := K3.frm F4 (fun h => h)
    have R4 := R3.frm F4 (fun _ h => h.elim)
    have L4 : ∀ j, d = some j → j < W4.heap.size := fun j hj => Nat.lt_of_lt_of_le (L3 j hj) F4.size
    have M4 := M3.frm F4 (fun h => h)
    have N4 := N3.frm F4 (fun h => h)
    refine hK.out _ _ (K4) (fun hHeld => ?_)
    clear hK K
    refine wpAnyH_ready (rs := [6]) (by kernel_rfl) (by simp) ?_
    refine AllReadyH.cons rfl (fun K hK => ?_) AllReadyH.nil
    refine step_storea agg16 rfl (.tmp 13) (.tmp 67) rfl g13 (cellsB (mc.take 16)) rfl rfl _ _ Z4 HSC.out rfl (cellsB_one _) ?_
    intro Wf Zf Ff
    have Df := D4.frm Ff cg13 lg13
    have Kf := K4.frm Ff (by omega)
    have Rf := R4.frm Ff (fun k hk => by omega)
    have Lf : ∀ j, d = some j → j < Wf.heap.size := fun j hj => Nat.lt_of_lt_of_le (L4 j hj) Ff.size
    have Mf := M4.frm Ff mg
    have Nf := N4.frm Ff ng
    refine hK.out _ _ (Kf) (fun hHeld => ?_)
    clear hK K
    refine wpAnyH_done (by kernel_rfl) ?_ _
    rotate_left
    refine AllReadyH.cons rfl (fun K hK => ?_) AllReadyH.nil
    refine step_alloca2 rfl _ rfl _ zero16 ?_
    intro g13 W3 Z3 hz3 F3
    have bg13 : w.heap.size < g13 := by have := K2.lt; omega
    have cg13 : g ≠ g13 := by have := D2.lt; omega
    have lg13 : ∀ j, d = some j → ¬ (j = g13) := fun j hj => by have := L2 j hj; omega
    have mg : g11 ≠ g13 := by have := M2.lt; omega
    have ng : g12 ≠ g13 := by have := N2.lt; omega
    have D3 := D2.frm0 F3
    have K3 := K2.frm F3 (fun h => h)
    have R3 := R2.frm F3 (fun _ h => h.elim)
    have L3 : ∀ j, d = some j → j < W3.heap.size := fun j hj => Nat.lt_of_lt_of_le (L2 j hj) F3.size
    have P3 := P2.frm0 F3
    have Q3 := Q2.frm F3 (fun _ _ _ h => h)
    have M3 := M2.frm F3 (fun h => h)
    have N3 := N2.frm F3 (fun h => h)
    refine hK.out _ _ (K3) (fun hHeld => ?_)
    clear hK K
    refine wpAnyH_ready (rs := [4]) (by kernel_rfl) (by simp) ?_
    refine AllReadyH.cons rfl (fun K hK => ?_) AllReadyH.nil
    go_simp
    refine (HSA.out _ (some ⟨g55, 0, none⟩) 1 1 [.slice AD na cD] Q3 (.cons P3 .nil) R3).mono ?_
    rintro e W4 ⟨rfl, F4, _⟩
    have D4 := D3.frm0 F4
    have K4 := K3.frm F4 (fun h => h)
    have R4 := R3.frm F4 (fun _ h => h.elim)
    have L4 : ∀ j, d = some j → j < W4.heap.size := fun j hj => Nat.lt_of_lt_of_le (L3 j hj) F4.size
    have Z4 := Z3.frm F4 (fun h => h)
    have M4 := M3.frm F4 (fun h => h)
    have N4 := N3.frm F4 (fun h => h)
    refine hK.out _ _ (K4) (fun hHeld => ?_)
    clear hK K
    refine wpAnyH_ready (rs := [6]) (by kernel_rfl) (by simp) ?_
    refine AllReadyH.cons rfl (fun K hK => ?_) AllReadyH.nil
    refine step_storea agg16 rfl (.tmp 13) (.tmp 67) rfl g13 (cellsB (mc.take 16)) rfl rfl _ _ Z4 HSC.out rfl (cellsB_one _) ?_
    intro Wf Zf Ff
    have Df := D4.frm Ff cg13 lg13
    have Kf := K4.frm Ff (by omega)
    have Rf := R4.frm Ff (fun k hk => by omega)
    have Lf : ∀ j, d = some j → j < Wf.heap.size := fun j hj => Nat.lt_of_lt_of_le (L4 j hj) Ff.size
    have Mf := M4.frm Ff mg
    have Nf := N4.frm Ff ng
    refine hK.out _ _ (Kf) (fun hHeld => ?_)
    clear hK K
    refine wpAnyH_done (by kernel_rfl) ?_ _
    rotate_left
    refine AllReadyH.cons rfl (fun K hK => ?_) AllReadyH.nil
    refine step_alloca2 rfl _ rfl _ zero16 ?_
    intro g13 W2 Z2 hz2 F2
    have bg13 : w.heap.size < g13 := by have := K1.lt; omega
    have cg13 : g ≠ g13 := by have := D1.lt; omega
    have lg13 : ∀ j, d = some j → ¬ (j = g13) := fun j hj => by have := L1 j hj; omega
    have mg : g11 ≠ g13 := by have := M1.lt; omega
    have ng : g12 ≠ g13 := by have := N1.lt; omega
    have D2 := D1.frm0 F2
    have K2 := K1.frm F2 (fun h => h)
    have R2 := R1.frm F2 (fun _ h => h.elim)
    have L2 : ∀ j, d = some j → j < W2.heap.size := fun j hj => Nat.lt_of_lt_of_le (L1 j hj) F2.size
    have P2 := P1.frm0 F2
    have M2 := M1.frm F2 (fun h => h)
    have N2 := N1.frm F2 (fun h => h)
    refine hK.out _ _ (K2) (fun hHeld => ?_)
    clear hK K
    refine wpAnyH_ready (rs := [3]) (by kernel_rfl) (by simp) ?_
    refine AllReadyH.cons rfl (fun K hK => ?_) AllReadyH.nil
    go_simp
    have F3 : Frm (fun _ => False) W2 (W2.alloc (.cells #[.slice AD na cD] 24)) := Frm.alloc _ _ _
    have Q3 := alloc_rds W2 [.slice AD na cD] 24 (0, 0)
    obtain ⟨W3, hW3⟩ : ∃ W', W' = W2.alloc (.cells #[.slice AD na cD] 24) := ⟨_, rfl⟩
    rw [show W2.alloc (.cells [.slice AD na cD].toArray 24) = W3 from hW3.symm] at Q3
    rw [← hW3] at F3 ⊢
    clear hW3
    obtain ⟨g55, hg55⟩ : ∃ g55, g55 = W2.heap.size := ⟨_, rfl⟩
    rw [← hg55] at Q3 ⊢
    clear hg55
    have D3 := D2.frm0 F3
    have K3 := K2.frm F3 (fun h => h)
    have R3 := R2.frm F3 (fun _ h => h.elim)
    have L3 : ∀ j, d = some j → j < W3.heap.size := fun j hj => Nat.lt_of_lt_of_le (L2 j hj) F3.size
    have P3 := P2.frm0 F3
    have Z3 := Z2.frm F3 (fun h => h)
    have M3 := M2.frm F3 (fun h => h)
    have N3 := N2.frm F3 (fun h => h)
    refine hK.out _ _ (K3) (fun hHeld => ?_)
    clear hK K
    refine wpAnyH_ready (rs := [4]) (by kernel_rfl) (by simp) ?_
    refine AllReadyH.cons rfl (fun K hK => ?_) AllReadyH.nil
    go_simp
    refine (HSA.out _ (some ⟨g55, 0, none⟩) 1 1 [.slice AD na cD] Q3 (.cons P3 .nil) R3).mono ?_
    rintro e W4 ⟨rfl, F4, _⟩
    have D4 := D3.frm0 F4
    have K4 := K3.frm F4 (fun h => h)
    have R4 := R3.frm F4 (fun _ h => h.elim)
    have L4 : ∀ j, d = some j → j < W4.heap.size := fun j hj => Nat.lt_of_lt_of_le (L3 j hj) F4.size
    have Z4 := Z3.frm F4 (fun h => h)
    have M4 := M3.frm F4 (fun h => h)
    have N4 := N3.frm F4 (fun h => h)
    refine hK.out _ _ (K4) (fun hHeld => ?_)
    clear hK K
    refine wpAnyH_ready (rs := [6]) (by kernel_rfl) (by simp) ?_
    refine AllReadyH.cons rfl (fun K hK => ?_) AllReadyH.nil
    refine step_storea agg16 rfl (.tmp 13) (.tmp 67) rfl g13 (cellsB (mc.take 16)) rfl rfl _ _ Z4 HSC.out rfl (cellsB_one _) ?_
    intro Wf Zf Ff
    have Df := D4.frm Ff cg13 lg13
    have Kf := K4.frm Ff (by omega)
    have Rf := R4.frm Ff (fun k hk => by omega)
    have Lf : ∀ j, d = some j → j < Wf.heap.size := fun j hj => Nat.lt_of_lt_of_le (L4 j hj) Ff.size
    have Mf := M4.frm Ff mg
    have Nf := N4.frm Ff ng
    refine hK.out _ _ (Kf) (fun hHeld => ?_)
    clear hK K
    refine wpAnyH_done (by kernel_rfl) ?_ _
    rotate_left
    refine AllReadyH.cons rfl (fun K hK => ?_) AllReadyH.nil
    refine step_alloca2 rfl _ rfl _ zero16 ?_
    intro g13 W1 Z1 hz1 F1
    have bg13 : w.heap.size < g13 := by have := K0.lt; omega
    have cg13 : g ≠ g13 := by have := D0.lt; omega
    have lg13 : ∀ j, d = some j → ¬ (j = g13) := fun j hj => by have := L0 j hj; omega
    have mg : g11 ≠ g13 := by have := M0.lt; omega
    have ng : g12 ≠ g13 := by have := N0.lt; omega
    have D1 := D0.frm0 F1
    have K1 := K0.frm F1 (fun h => h)
    have R1 := R0.frm F1 (fun _ h => h.elim)
    have L1 : ∀ j, d = some j → j < W1.heap.size := fun j hj => Nat.lt_of_lt_of_le (L0 j hj) F1.size
    have M1 := M0.frm F1 (fun h => h)
    have N1 := N0.frm F1 (fun h => h)
    refine hK.out _ _ (K1) (fun hHeld => ?_)
    clear hK K
    refine wpAnyH_ready (rs := [2]) (by kernel_rfl) (by simp) ?_
    refine AllReadyH.cons rfl (fun K hK => ?_) AllReadyH.nil
    go_simp
    refine (wdone_now _ g d all na D1 (by have := HALl.out; omega) HNA.out).mono ?_
    rintro e W2 ⟨AD, cD, rfl, P2, F2⟩
    have D2 := D1.frm0 F2
    have K2 := K1.frm F2 (fun h => h)
    have R2 := R1.frm F2 (fun _ h => h.elim)
    have L2 : ∀ j, d = some j → j < W2.heap.size := fun j hj => Nat.lt_of_lt_of_le (L1 j hj) F2.size
    have Z2 := Z1.frm F2 (fun h => h)
    have M2 := M1.frm F2 (fun h => h)
    have N2 := N1.frm F2 (fun h => h)
    refine hK.out _ _ (K2) (fun hHeld => ?_)
    clear hK K
    refine wpAnyH_ready (rs := [3]) (by kernel_rfl) (by simp) ?_
    refine AllReadyH.cons rfl (fun K hK => ?_) AllReadyH.nil
    go_simp
    have F3 : Frm (fun _ => False) W2 (W2.alloc (.cells #[.slice AD na cD] 24)) := Frm.alloc _ _ _
    have Q3 := alloc_rds W2 [.slice AD na cD] 24 (0, 0)
    obtain ⟨W3, hW3⟩ : ∃ W', W' = W2.alloc (.cells #[.slice AD na cD] 24) := ⟨_, rfl⟩
    rw [show W2.alloc (.cells [.slice AD na cD].toArray 24) = W3 from hW3.symm] at Q3
    rw [← hW3] at F3 ⊢
    clear hW3
    obtain ⟨g55, hg55⟩ : ∃ g55, g55 = W2.heap.size := ⟨_, rfl⟩
    rw [← hg55] at Q3 ⊢
    clear hg55
    have D3 := D2.frm0 F3
    have K3 := K2.frm F3 (fun h => h)
    have R3 := R2.frm F3 (fun _ h => h.elim)
    have L3 : ∀ j, d = some j → j < W3.heap.size := fun j hj => Nat.lt_of_lt_of_le (L2 j hj) F3.size
    have P3 := P2.frm0 F3
    have Z3 := Z2.frm F3 (fun h => h)
    have M3 := M2.frm F3 (fun h => h)
    have N3 := N2.frm F3 (fun h => h)
    refine hK.out _ _ (K3) (fun hHeld => ?_)
    clear hK K
    refine wpAnyH_ready (rs := [4]) (by kernel_rfl) (by simp) ?_
    refine AllReadyH.cons rfl (fun K hK => ?_) AllReadyH.nil
    go_simp
    refine (HSA.out _ (some ⟨g55, 0, none⟩) 1 1 [.slice AD na cD] Q3 (.cons P3 .nil) R3).mono ?_
    rintro e W4 ⟨rfl, F4, _⟩
    have D4 := D3.frm0 F4
    have K4 := K3.frm F4 (fun h => h)
    have R4 := R3.frm F4 (fun _ h => h.elim)
    have L4 : ∀ j, d = some j → j < W4.heap.size := fun j hj => Nat.lt_of_lt_of_le (L3 j hj) F4.size
    have Z4 := Z3.frm F4 (fun h => h)
    have M4 := M3.frm F4 (fun h => h)
    have N4 := N3.frm F4 (fun h => h)
    refine hK.out _ _ (K4) (fun hHeld => ?_)
    clear hK K
    refine wpAnyH_ready (rs := [6]) (by kernel_rfl) (by simp) ?_
    refine AllReadyH.cons rfl (fun K hK => ?_) AllReadyH.nil
    refine step_storea agg16 rfl (.tmp 13) (.tmp 67) rfl g13 (cellsB (mc.take 16)) rfl rfl _ _ Z4 HSC.out rfl (cellsB_one _) ?_
    intro Wf Zf Ff
    have Df := D4.frm Ff cg13 lg13
    have Kf := K4.frm Ff (by omega)
    have Rf := R4.frm Ff (fun k hk => by omega)
    have Lf : ∀ j, d = some j → j < Wf.heap.size := fun j hj => Nat.lt_of_lt_of_le (L4 j hj) Ff.size
    have Mf := M4.frm Ff mg
    have Nf := N4.frm Ff ng
    refine hK.out _ _ (Kf) (fun hHeld => ?_)
    clear hK K
    refine wpAnyH_done (by kernel_rfl) ?_ _
    rotate_left
    all_goals
      clear hHeld
      have hsl16 := sl16
      have hsl32 := sl32
      have hsl32t : ∀ w, Sem.run Tryd.prog (Instr.sliceAt 25 (.pointer (some ⟨g11, 0, none⟩)) none (some (.int .i64 16)) none) w = .ok (.slice (some ⟨g11, 0, none⟩) 16 32) w := fun w => slice_arr_to under25 g11 16 (by omega) w
      have FD : Frm (fun _ => False) Wf Wf.drew := (Frm.refl _ _).drew
      have M1 := Mf.frm FD (fun h => h)
      have N1 := Nf.frm FD (fun h => h)
      have Z1 := Zf.frm FD (fun h => h)
      have R1 := Rf.frm FD (fun _ h => h.elim)
      go_wp2_with fail
      refine wp_region_held_drew (S := fun W => Blk W g11 25 (cellsB mc).toArray ∧ Blk W g12 43 (cellsB mc).toArray ∧ Blk W g13 49 (cellsB (mc.take 16)).toArray) (by kernel_rfl) (⟨M1, N1, Z1⟩) ?_
      intro hHeld
      refine wpAnyH_take (i := 0) (v := ?_) rfl (by kernel_rfl) (by kernel_rfl) (by kernel_rfl) (fun _ _ _ h => h) (Or.inl ⟨by rfl, ?_⟩) (by assumption) ?_
      rotate_left
      · (intro w hSw; (try dsimp only at hSw); go_simp; try with_reducible rfl)
      try simp only [Act.put, List.getElem_toArray, List.getElem_cons_zero, List.setIfInBounds_toArray, List.set_cons_zero, List.set_cons_succ]
      refine wpAnyH_take (i := 1) (v := ?_) rfl (by kernel_rfl) (by kernel_rfl) (by kernel_rfl) (fun _ _ _ h => h) (Or.inl ⟨by rfl, ?_⟩) (by assumption) ?_
      rotate_left
      · (intro w hSw; (try dsimp only at hSw); go_simp; try with_reducible rfl)
      try simp only [Act.put, List.getElem_toArray, List.getElem_cons_zero, List.getElem_cons_succ, List.setIfInBounds_toArray, List.set_cons_zero, List.set_cons_succ]
      refine wpAnyH_take (i := 2) (v := ?_) rfl (by kernel_rfl) (by kernel_rfl) (by kernel_rfl) (fun _ _ _ h => h) (Or.inl ⟨by rfl, ?_⟩) (by assumption) ?_
      rotate_left
      · (intro w hSw; (try dsimp only at hSw); go_simp; try with_reducible rfl)
      try simp only [Act.put, List.getElem_toArray, List.getElem_cons_zero, List.getElem_cons_succ, List.setIfInBounds_toArray, List.set_cons_zero, List.set_cons_succ]
      refine wpAnyH_take (i := 3) (v := ?_) rfl (by kernel_rfl) (by kernel_rfl) (by kernel_rfl) (fun _ _ _ h => h) (Or.inl ⟨by rfl, ?_⟩) (by assumption) ?_
      rotate_left
      · (intro w hSw; refine held_conv (.tmp 70) ?_ g11 32 32 ?_ mc mc _ hSw.1 (by rw [HML.out]; exact Nat.le_refl _) (List.take_of_length_le (by rw [HML.out]; exact Nat.le_refl _)) <;> rfl)
      try simp only [Act.put, List.getElem_toArray, List.getElem_cons_zero, List.getElem_cons_succ, List.setIfInBounds_toArray, List.set_cons_zero, List.set_cons_succ]
      refine wpAnyH_take (i := 4) (v := ?_) rfl (by kernel_rfl) (by kernel_rfl) (by kernel_rfl) (fun _ _ _ h => h) (Or.inl ⟨by rfl, ?_⟩) (by assumption) ?_
      rotate_left
      · (intro w hSw; (try dsimp only at hSw); go_simp; try with_reducible rfl)
      try simp only [Act.put, List.getElem_toArray, List.getElem_cons_zero, List.getElem_cons_succ, List.setIfInBounds_toArray, List.set_cons_zero, List.set_cons_succ]
      refine wpAnyH_take (i := 5) (v := ?_) rfl (by kernel_rfl) (by kernel_rfl) (by kernel_rfl) (fun _ _ _ h => h) (Or.inl ⟨by rfl, ?_⟩) (by assumption) ?_
      rotate_left
      · (intro w hSw; refine held_conv (.tmp 72) ?_ g12 32 32 ?_ mc mc _ hSw.2.1 (by rw [HML.out]; exact Nat.le_refl _) (List.take_of_length_le (by rw [HML.out]; exact Nat.le_refl _)) <;> rfl)
      try simp only [Act.put, List.getElem_toArray, List.getElem_cons_zero, List.getElem_cons_succ, List.setIfInBounds_toArray, List.set_cons_zero, List.set_cons_succ]
      refine wpAnyH_take (i := 6) (v := ?_) rfl (by kernel_rfl) (by kernel_rfl) (by kernel_rfl) (fun _ _ _ h => h) (Or.inl ⟨by rfl, ?_⟩) (by assumption) ?_
      rotate_left
      · (intro w hSw; (try dsimp only at hSw); go_simp; try with_reducible rfl)
      try simp only [Act.put, List.getElem_toArray, List.getElem_cons_zero, List.getElem_cons_succ, List.setIfInBounds_toArray, List.set_cons_zero, List.set_cons_succ]
      refine wpAnyH_take (i := 7) (v := ?_) rfl (by kernel_rfl) (by kernel_rfl) (by kernel_rfl) (fun _ _ _ h => h) (Or.inl ⟨by rfl, ?_⟩) (by assumption) ?_
      rotate_left
      · (intro w hSw; (try dsimp only at hSw); go_simp; try with_reducible rfl)
      try simp only [Act.put, List.getElem_toArray, List.getElem_cons_zero, List.getElem_cons_succ, List.setIfInBounds_toArray, List.set_cons_zero, List.set_cons_succ]
      refine wpAnyH_take (i := 8) (v := ?_) rfl (by kernel_rfl) (by kernel_rfl) (by kernel_rfl) (fun _ _ _ h => h) (Or.inl ⟨by rfl, ?_⟩) (by assumption) ?_
      rotate_left
      · (intro w hSw; (try dsimp only at hSw); go_simp; try with_reducible rfl)
      try simp only [Act.put, List.getElem_toArray, List.getElem_cons_zero, List.getElem_cons_succ, List.setIfInBounds_toArray, List.set_cons_zero, List.set_cons_succ]
      refine wpAnyH_take (i := 9) (v := ?_) rfl (by kernel_rfl) (by kernel_rfl) (by kernel_rfl) (fun _ _ _ h => h) (Or.inl ⟨by rfl, ?_⟩) (by assumption) ?_
      rotate_left
      · (intro w hSw; (try dsimp only at hSw); go_simp; try with_reducible rfl)
      try simp only [Act.put, List.getElem_toArray, List.getElem_cons_zero, List.getElem_cons_succ, List.setIfInBounds_toArray, List.set_cons_zero, List.set_cons_succ]
      refine wpAnyH_take (i := 10) (v := ?_) rfl (by kernel_rfl) (by kernel_rfl) (by kernel_rfl) (fun _ _ _ h => h) (Or.inl ⟨by rfl, ?_⟩) (by assumption) ?_
      rotate_left
      · (intro w hSw; refine held_conv (.tmp 77) ?_ g13 16 16 ?_ (mc.take 16) (mc.take 16) _ hSw.2.2 (by rw [HSL.out]; exact Nat.le_refl _) (by simp [List.take_take]) <;> rfl)
      try simp only [Act.put, List.getElem_toArray, List.getElem_cons_zero, List.getElem_cons_succ, List.setIfInBounds_toArray, List.set_cons_zero, List.set_cons_succ]
      refine wpAnyH_take (i := 11) (v := ?_) rfl (by kernel_rfl) (by kernel_rfl) (by kernel_rfl) (fun _ _ _ h => h) (Or.inl ⟨by rfl, ?_⟩) (by assumption) ?_
      rotate_left
      · (intro w hSw; (try dsimp only at hSw); go_simp; try with_reducible rfl)
      try simp only [Act.put, List.getElem_toArray, List.getElem_cons_zero, List.getElem_cons_succ, List.setIfInBounds_toArray, List.set_cons_zero, List.set_cons_succ]
      refine wpAnyH_take (i := 12) (v := ?_) rfl (by kernel_rfl) (by kernel_rfl) (by kernel_rfl) (fun _ _ _ h => h) (Or.inl ⟨by rfl, ?_⟩) (by assumption) ?_
      rotate_left
      · (intro w hSw; refine held_conv (.tmp 79) ?_ g11 16 32 ?_ mc (mc.take 16) _ hSw.1 (by rw [HML.out]; omega) rfl <;> rfl)
      try simp only [Act.put, List.getElem_toArray, List.getElem_cons_zero, List.getElem_cons_succ, List.setIfInBounds_toArray, List.set_cons_zero, List.set_cons_succ]
      refine wpAnyH_take (i := 13) (v := ?_) rfl (by kernel_rfl) (by kernel_rfl) (by kernel_rfl) (fun _ _ _ h => h) (Or.inl ⟨by rfl, ?_⟩) (by assumption) ?_
      rotate_left
      · (intro w hSw; (try dsimp only at hSw); go_simp; try with_reducible rfl)
      try simp only [Act.put, List.getElem_toArray, List.getElem_cons_zero, List.getElem_cons_succ, List.setIfInBounds_toArray, List.set_cons_zero, List.set_cons_succ]
      refine wpAnyH_take (i := 14) (v := ?_) rfl (by kernel_rfl) (by kernel_rfl) (by kernel_rfl) (fun _ _ _ h => h) (Or.inl ⟨by rfl, ?_⟩) (by assumption) ?_
      rotate_left
      · (intro w hSw; (try dsimp only at hSw); go_simp; try with_reducible rfl)
      try simp only [Act.put, List.getElem_toArray, List.getElem_cons_zero, List.getElem_cons_succ, List.setIfInBounds_toArray, List.set_cons_zero, List.set_cons_succ]
      refine wpAnyH_take (i := 15) (v := ?_) rfl (by kernel_rfl) (by kernel_rfl) (by kernel_rfl) (fun _ _ _ h => h) (Or.inl ⟨by rfl, ?_⟩) (by assumption) ?_
      rotate_left
      · (intro w hSw; (try dsimp only at hSw); go_simp; try with_reducible rfl)
      try simp only [Act.put, List.getElem_toArray, List.getElem_cons_zero, List.getElem_cons_succ, List.setIfInBounds_toArray, List.set_cons_zero, List.set_cons_succ]
      refine wpAnyH_done (by kernel_rfl) ?_ _
      go_wp2
      go_ret
      exact ⟨rfl, R1.below⟩
end Go.Proofs.YtbicjcpdcopbhaaDoor
