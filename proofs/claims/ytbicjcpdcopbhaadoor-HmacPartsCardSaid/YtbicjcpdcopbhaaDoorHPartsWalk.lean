/-
  HmacParts, walked.
-/
import Derived.Test.YtbicjcpdcopbhaaDoorCuts
namespace Go.Proofs.YtbicjcpdcopbhaaDoor
set_option linter.unusedVariables false
set_option linter.unusedSimpArgs false
open Go.RowKit

theorem step_alloca {P : Program} {ops : Array Oper} {op : Oper} {a : Act} {w : World} {K : Act → World → Prop} {Q : Exit → Act → World → Prop} {E : Prop} (hgd : op.guard = none) (t : TypeId) (ho : op.op = .alloc t)
    (cs : List Value) (hz : (P.info? t).map (fun i => i.zero) = some (some (.agg cs.toArray)))
    (h : ∀ g w', Blk w' g t cs.toArray → w.heap.size ≤ g → Frm (fun _ => False) w w' → K (a.put op.dst (.pointer (some ⟨g, 0, none⟩))) w') : if Region.wanted op (yielded ops a.tmps) = true then Oper.wp P op a w K Q else E := by
  have hw : Region.wanted op (yielded ops a.tmps) = true := by simp [Region.wanted, hgd]
  rw [if_pos hw]
  have hzv : ∀ w, (zeroValue t).run P w = .ok (.agg cs.toArray) w := by
    intro w
    cases hq : P.info? t with
    | none => simp [hq] at hz
    | some i => simp [hq] at hz; simp [zeroValue, typeInfo, hq, hz]
  unfold Oper.wp execOp
  simp [ho, Instr.alloc, hzv, newVar, newRow, Value.cells, Oper.upon, Result.andThen]
  exact h _ _ (Blk.new _ _ _) (Nat.le_refl _) (Frm.alloc _ _ _)
theorem rds_lt {w : World} {A : Option Addr} {n : Nat} {l : List UInt8} (h : Rds w A (n + 1) (cellsB l)) : ∀ a, A = some a → a.block < w.heap.size := by
  intro a ha
  obtain ⟨a', ha', hcc⟩ := h.2 (by omega)
  rw [ha] at ha'
  injection ha' with ha'
  subst ha'
  have h0 : (cellsB l)[0]? = some _ := List.getElem?_eq_getElem (by rw [h.1]; omega)
  have := World.block_lt_of_cell? w _ (hcc 0 _ h0)
  rwa [add_block] at this

set_option maxHeartbeats 8000000 in
set_option maxRecDepth 100000 in
theorem hparts_walk (a0 : Option Addr) (len0 cap0 : Nat) (l0 : List UInt8) (a1 : Option Addr) (len1 cap1 : Nat) (l1 : List UInt8) (a2 : Int) (w : World) (hG : Gl w) (hg0 : 2 ≤ w.heap.size) (h0 : Rds w a0 len0 (cellsB l0)) (hl0 : len0 ≤ cap0) (hm0 : cap0 ≤ 9223372036854775807) (h1 : Rds w a1 len1 (cellsB l1)) (hl1 : len1 ≤ cap1) (hm1 : cap1 ≤ 9223372036854775807) :
    Calls Tryd.prog 9 #[.slice a0 len0 cap0, .slice a1 len1 cap1, .int .i64 a2] w fun e w' => e = .returned (.bool true) ∧ Below w.heap.size w w' := by
  obtain ⟨m0, HM0, ml0, mr0, me0⟩ := nat_min len0 60
  clear me0
  have HR0 := hide (h0.take m0 ml0)
  rw [cellsB_take] at HR0
  have HX0 : Hid ((l0.take m0).length = m0) := by have := HR0.out.1; rwa [cellsB_length] at this
  generalize l0.take m0 = x0 at *
  have hy0 : x0.length ≤ 60 := by rw [HX0.out]; exact mr0
  have hc0 : m0 ≤ cap0 := by omega
  clear h0
  obtain ⟨m1, HM1, ml1, mr1, me1⟩ := nat_min len1 500
  clear me1
  have HR1 := hide (h1.take m1 ml1)
  rw [cellsB_take] at HR1
  have HX1 : Hid ((l1.take m1).length = m1) := by have := HR1.out.1; rwa [cellsB_length] at this
  generalize l1.take m1 = x1 at *
  have hy1 : x1.length ≤ 500 := by rw [HX1.out]; exact mr1
  have hc1 : m1 ≤ cap1 := by omega
  clear h1
  obtain ⟨M, hM1, hM2⟩ := mask_nat a2
  obtain ⟨Y, hY⟩ : ∃ k, k = M % (m1 + 1) := ⟨_, rfl⟩
  have hYm : Y ≤ m1 := by have := Nat.mod_lt M (show m1 + 1 > 0 by omega); omega
  have e0 : IntKind.i64.wrap ((m1 : Int) + 1) = (m1 : Int) + 1 := IntWalk.i64_in _ (by omega)
  have e1' : (M : Int) % ((m1 : Int) + 1) = (Y : Int) := by rw [hY]; exact (Int.natCast_emod M (m1 + 1)).symm
  have e1 : Int.tmod (M : Int) ((m1 : Int) + 1) = (Y : Int) := by rw [Int.tmod_eq_emod_of_nonneg (by omega), e1']
  have e2 : IntKind.i64.wrap (Y : Int) = (Y : Int) := IntWalk.i64_in _ (by omega)
  have e3 : ¬ ((m1 : Int) + 1 = 0) := by omega
  have hcY : Y ≤ cap1 := by omega
  have hslK := slK
  clear hY
  go_enter Tryd.func9, Tryd.ntmps9
  go_wp2_with fail
  refine (hshown_run w hG hg0).mono ?_
  rintro e w1 ⟨rfl, hR⟩
  go_wp2_with (first
    | (refine wpl_min rfl (.tmp 16) (.const (.int .i64 60)) _ _ rfl _ (len0 : Int) 60 (m0 : Int) rfl rfl HM0.out ?_)
    | (refine wpl_min rfl (.tmp 21) (.const (.int .i64 500)) _ _ rfl _ (len1 : Int) 500 (m1 : Int) rfl rfl HM1.out ?_))
  clear e0 e1 e1' e2 e3 hM1
  refine (mac_row w w1 a0 m0 cap0 x0 [.slice a1 m1 cap1] [x1] x1 (HR0.out.below hR.below) hc0 (by omega) (.cons (prt_old HR1.out HX1.out hc1 hR.below) .nil) (by simp) hR (by omega) (by simp)).mono ?_
  rintro e w2 ⟨rfl, hF2, hR2⟩
  have HML := hide (macL_length x0 x1)
  have HMC : Hid ((cellsB (macL x0 x1)).length = 32) := by show _ = _; rw [cellsB_length]; exact HML.out
  have HZ3 : Hid (macL (x0 ++ [0, 0, 0]) x1 = macL x0 x1) := macL_zeros x0 x1 3 (by omega)
  have HK32 : Hid (x0.length ≤ 32 → macL (key32 x0) x1 = macL x0 x1) := mac_key32 x0 x1
  have HKl := hide (key32_length x0)
  obtain ⟨mk, HMK, hmk1, hmk2, hmk3⟩ := nat_min m0 32
  have HKS : Hid (splice (cellsB (List.replicate 32 0)) 0 (cellsB (x0.take mk)) = cellsB (key32 x0)) := key32_splice x0 mk (by rw [HX0.out]; exact hmk3)
  have HMN : Hid (mk = Nat.min m0 32) := hmk3
  obtain ⟨mc, hmc⟩ : ∃ mc, mc = macL x0 x1 := ⟨_, rfl⟩
  rw [← hmc] at HML HMC HZ3 HK32 ⊢
  have HMCE : Hid (macL x0 x1 = mc) := hmc.symm
  obtain ⟨kk, hkk⟩ : ∃ kk, kk = key32 x0 := ⟨_, rfl⟩
  rw [← hkk] at HK32 HKl HKS
  clear hmk3 hmc hkk hR hF2
  have hb1 : (0 + m0) * 1 ≤ 140737488355328 := by omega
  have hb2 : 0 + m0 ≤ 140737488355328 := by omega
  have hb3 : (m0 + 3) * 1 ≤ 140737488355328 := by omega
  have hb4 : m0 + 3 ≤ 140737488355328 := by omega
  have hn3 : ∀ u ∈ [Value.int .u8 0, .int .u8 0, .int .u8 0], u.oneCell' = true := by intro u hu; simp at hu; subst hu; rfl
  have HKC : Hid ((cellsB kk).length = 32) := by show _ = _; rw [cellsB_length]; exact HKl.out
  go_wp2_with (first
    | ((with_reducible refine wpl_alloca (op := ⟨some 8, _, _, _, _, _⟩) rfl _ rfl _ zero32 ?_); intro g8 w3 hB3 hs3 hF3)
    | ((with_reducible refine wpl_storea agg32 rfl (.tmp 8) (.tmp 33) rfl g8 (cellsB mc) rfl rfl _ _ hB3 HMC.out zero32_size (cellsB_one _) ?_); intro w4 hB4 hF4; have hg8 : w.heap.size ≤ g8 := (by have := hR2.size; omega); have hR4 := (hR2.frm hF3 (fun _ h => h.elim)).frm hF4 (fun k hk => by omega); have hov := World.ownsRow_made (e := 5) (size := 1) (base := w4.heap.size) w4 #[] 0 (Nat.le_refl _) (by simp [maxLen]) (by simp); have hFa : Frm (fun _ => False) w4 (w4.alloc (.cells #[] 5)) := Frm.alloc _ _ _; have HRW := hide ((HR0.out.below hR4.below).frm hFa (fun _ _ _ h => h)))
    | (refine wpl_app one_u8 rfl (.tmp 34) (.tmp 35) rfl _ w4.heap.size (.slice (some ⟨w4.heap.size, 0, none⟩) 0 0) 0 _ rfl hov a0 m0 cap0 (cellsB x0) rfl HRW.out (cellsB_one _) hb1 hb2 hFa.size ?_; intro A5 c5 w5 hown5 hg5 hat5; rw [Nat.zero_add, List.nil_append] at hown5; have F45 : Frm (fun k => k = w4.heap.size) w4 w5 := (hFa.mono (T := fun k => k = w4.heap.size) (fun _ _ h => h.elim)).trans (Frm.of_grown hg5) (fun j _ h => (by simpa [Value.ownBlock] using h : j = w4.heap.size)); have hFb : Frm (fun _ => False) w5 (w5.alloc (.cells #[.int .u8 0, .int .u8 0, .int .u8 0] 5)) := Frm.alloc _ _ _; have hown6 := own_frm hown5 hFb (fun _ _ h => h); have hr6 := alloc_rds w5 [.int .u8 0, .int .u8 0, .int .u8 0] 5 (0, 0); have hsz6 : w4.heap.size ≤ (w5.alloc (.cells #[.int .u8 0, .int .u8 0, .int .u8 0] 5)).heap.size := Nat.le_trans F45.size hFb.size; rw [Nat.zero_add])
    | (refine wpl_app one_u8 rfl (.tmp 36) (.tmp 37) rfl _ w4.heap.size (.slice A5 m0 c5) m0 _ rfl hown6 (some ⟨w5.heap.size, 0, none⟩) 3 3 [.int .u8 0, .int .u8 0, .int .u8 0] rfl hr6 hn3 hb3 hb4 hsz6 ?_; intro A7 c7 w7 hown7 hg7 hat7; have F67 := Frm.of_grown hg7)
    | ((with_reducible refine wpl_alloca (op := ⟨some 10, _, _, _, _, _⟩) rfl _ rfl _ zeroK ?_); intro g10 w8 hB8 hs8 hF8; have F48 : Frm (fun k => w4.heap.size ≤ k) w4 w8 := (((F45.mono (T := fun k => w4.heap.size ≤ k) (fun _ _ h => by omega)).trans hFb (fun _ _ h => h.elim)).trans F67 (fun j _ h => (hown6.lt j h.symm).1)).trans hF8 (fun _ _ h => h.elim); have hR8 := hR4.frm F48 (fun k hk => by have := hR4.size; omega); have hr8 := HR0.out.below hR8.below)
    | ((with_reducible refine wpl_copyR rfl (.tmp 39) (.tmp 40) rfl g10 0 32 32 a0 m0 cap0 mk rfl rfl (cellsB (List.replicate 32 0)) _ hB8 x0 hr8 HMN.out (by decide) ?_); intro w9 hB9 hF9; rw [HKS.out] at hB9))
  have hs48 : w4.heap.size ≤ w8.heap.size := F48.size
  have hg10a : w4.heap.size ≤ g10 := by have := F67.size; omega
  have hg10 : w.heap.size ≤ g10 := by have := hR4.size; omega
  have hR9 := hR8.frm hF9 (fun k hk => by omega)
  have hn810 : g8 ≠ g10 := by have := hB4.lt; omega
  have h89 := (hB4.frm F48 (by have := hB4.lt; omega)).frm hF9 hn810
  have hr7 : Rds w7 A7 (m0 + 3) (cellsB (x0 ++ [0, 0, 0])) := by have := (Seg.of_own hown7).rds; rw [cellsB_append]; exact this
  have hc7 : m0 + 3 ≤ c7 := by
    rcases hown7.2 with ⟨_, h0⟩ | ⟨_, _, _, hv, _, _, hnc, _⟩
    · omega
    · injection hv with _ _ h3; omega
  have hr9 := (hr7.frm hF8 (fun _ _ _ h => h)).frm hF9 (fun hp a ha => by
    obtain ⟨a', ha', hcc⟩ := hr7.2 hp
    rw [ha] at ha'
    injection ha' with ha'
    subst ha'
    have h0 : (cellsB (x0 ++ [0, 0, 0]))[0]? = some _ := List.getElem?_eq_getElem (by rw [hr7.1]; exact hp)
    have := World.block_lt_of_cell? w7 _ (hcc 0 _ h0)
    rw [add_block] at this
    omega)
  clear hB3 hF3 hF4 hB4 hov hFa HRW hown5 hg5 hat5 F45 hFb hown6 hr6 hsz6 hown7 hg7 hat7 F67 hB8 hF8 F48 hr8 hF9 hr7 hb1 hb2 hb3 hb4 hn3 HKS HMN hR2 hR4 hR8
  have hk9 := hB9.rds
  rw [HKC.out] at hk9
  refine (mac_row w w9 (some ⟨g10, 0, none⟩) 32 32 kk [.slice a1 m1 cap1] [x1] x1 hk9 (Nat.le_refl _) (by omega) (.cons (prt_old HR1.out HX1.out hc1 hR9.below) .nil) (by simp) hR9 (by omega) (by simp)).mono ?_
  rintro e w11 ⟨rfl, hF11, hR11⟩
  have HNL := hide (macL_length kk x1)
  have HNC : Hid ((cellsB (macL kk x1)).length = 32) := by show _ = _; rw [cellsB_length]; exact HNL.out
  obtain ⟨nc, hnc⟩ : ∃ nc, nc = macL kk x1 := ⟨_, rfl⟩
  rw [← hnc] at HNL HNC HK32 ⊢
  have HNCE : Hid (macL kk x1 = nc) := hnc.symm
  clear hnc hk9
  have h8b := h89.frm hF11 (fun h => h)
  have h10b := hB9.frm hF11 (fun h => h)
  have hrb := hr9.frm hF11 (fun _ _ _ h => h)
  clear h89 hB9 hr9 hF11 hR9
  go_wp2_with (first
    | ((with_reducible refine wpl_alloca (op := ⟨some 11, _, _, _, _, _⟩) rfl _ rfl _ zero32 ?_); intro g11 w12 hB12 hs12 hF12)
    | ((with_reducible refine wpl_storea agg32 rfl (.tmp 11) (.tmp 45) rfl g11 (cellsB nc) rfl rfl _ _ hB12 HNC.out zero32_size (cellsB_one _) ?_); intro w13 hB13 hF13))
  have hg11 : w.heap.size ≤ g11 := by have := hR11.size; omega
  have hn8 : g8 ≠ g11 := by have := h8b.lt; omega
  have hn10 : g10 ≠ g11 := by have := h10b.lt; omega
  have F13 : Frm (fun k => k = g11) w11 w13.drew := ((hF12.mono (T := fun k => k = g11) (fun _ _ h => h.elim)).trans hF13 (fun _ _ h => h)).drew
  have X0 := h8b.frm F13 hn8
  have K0 := h10b.frm F13 hn10
  have N0 : Blk w13.drew g11 25 (cellsB nc).toArray := hB13
  have V0 := hrb.frm F13 (fun hp a ha => by
    obtain ⟨a', ha', hcc⟩ := hrb.2 hp
    rw [ha] at ha'
    injection ha' with ha'
    subst ha'
    have h0 : (cellsB (x0 ++ [0, 0, 0]))[0]? = some _ := List.getElem?_eq_getElem (by rw [hrb.1]; exact hp)
    have := World.block_lt_of_cell? w11 _ (hcc 0 _ h0)
    rw [add_block] at this
    omega)
  have R0 := hR11.frm F13 (fun k hk => by omega)
  obtain ⟨A2, hA2⟩ : ∃ A2, A2 = if cap1 = Y then a1 else a1.map (·.add Y) := ⟨_, rfl⟩
  have HRY := hide (HR1.out.take Y hYm)
  rw [cellsB_take] at HRY
  have HXY : Hid ((x1.take Y).length = Y) := by have := HRY.out.1; rwa [cellsB_length] at this
  have HRD := hide (HR1.out.cut cap1 Y hYm hc1)
  rw [cellsB_drop, ← hA2] at HRD
  have HXD : Hid ((x1.drop Y).length = m1 - Y) := by have := HRD.out.1; rwa [cellsB_length] at this
  have HA2 := hide hA2
  have HFL : Hid ([x1.take Y, x1.drop Y].flatten = x1) := by show _ = _; simp [List.take_append_drop]
  have HFL3 : Hid ([x1.take Y, [], x1.drop Y].flatten = x1) := by show _ = _; simp [List.take_append_drop]
  have HSC : Hid ((cellsB (nc.take 16)).length = 16) := by show _ = _; rw [cellsB_length, List.length_take, HNL.out]; rfl
  have HSL : Hid ((nc.take 16).length = 16) := by show _ = _; rw [List.length_take, HNL.out]; rfl
  have HAL : Hid (∀ W, Run w W → All2 W [.slice a1 Y cap1, .slice A2 (m1 - Y) (cap1 - Y)] [x1.take Y, x1.drop Y]) := fun W hR => .cons (prt_old HRY.out HXY.out hcY hR.below) (.cons (prt_old HRD.out HXD.out (by omega) hR.below) .nil)
  have HAL3 : Hid (∀ W, Run w W → All2 W [.slice a1 Y cap1, .slice none 0 0, .slice A2 (m1 - Y) (cap1 - Y)] [x1.take Y, [], x1.drop Y]) := fun W hR => .cons (prt_old HRY.out HXY.out hcY hR.below) (.cons (nil_prt _) (.cons (prt_old HRD.out HXD.out (by omega) hR.below) .nil))
  have HAL1 : Hid (∀ W, Run w W → All2 W [.slice a1 m1 cap1] [x1]) := fun W hR => .cons (prt_old HR1.out HX1.out hc1 hR.below) .nil
  clear hB12 hF12 hB13 hF13 h8b h10b hrb hR11 hA2 F13
  have hsl16 := sl16
  have hsl32t : ∀ w, Sem.run Tryd.prog (Instr.sliceAt 25 (.pointer (some ⟨g11, 0, none⟩)) none (some (.int .i64 16)) none) w = .ok (.slice (some ⟨g11, 0, none⟩) 16 32) w := fun w => slice_arr_to under25 g11 16 (by omega) w
  have q1 := eq_same mc HML.out
  have hgd := guard32
  refine wp_region_held_drew (S := fun W => Blk W g10 43 (cellsB kk).toArray) (by kernel_rfl) (K0) ?_
  intro hHeld
  obtain ⟨W0, hW0⟩ : ∃ W0, W0 = w13.drew := ⟨_, rfl⟩
  rw [← hW0] at X0 K0 N0 V0 R0 hHeld ⊢
  clear hW0
  refine wpAnyH_take (i := 0) (v := ?v1) rfl (by kernel_rfl) (by kernel_rfl) (by kernel_rfl) (fun _ _ _ h => h) (Or.inl ⟨by rfl, ?hy1⟩) (by assumption) ?rest1
  case hy1 => (intro w hSw; refine held_loadG aggK (.tmp 10) ?_ g10 ?_ kk HKl.out _ hSw <;> rfl)
  try simp only [Act.put, List.getElem_toArray, List.getElem_cons_zero, List.getElem_cons_succ, List.setIfInBounds_toArray, List.set_cons_zero, List.set_cons_succ]
  refine wpAnyH_take (i := 1) (v := ?v2) rfl (by kernel_rfl) (by kernel_rfl) (by kernel_rfl) (fun _ _ _ h => h) (Or.inl ⟨by rfl, ?hy2⟩) (by assumption) ?rest2
  case hy2 => (intro w hSw; (try dsimp only at hSw); go_simp; try with_reducible rfl)
  try simp only [Act.put, List.getElem_toArray, List.getElem_cons_zero, List.getElem_cons_succ, List.setIfInBounds_toArray, List.set_cons_zero, List.set_cons_succ]
  refine wpAnyH_take (i := 2) (v := ?v3) rfl (by kernel_rfl) (by kernel_rfl) (by kernel_rfl) (fun _ _ _ h => h) (Or.inl ⟨by rfl, ?hy3⟩) (by assumption) ?rest3
  case hy3 => (intro w hSw; (try dsimp only at hSw); go_simp; try with_reducible rfl)
  try simp only [Act.put, List.getElem_toArray, List.getElem_cons_zero, List.getElem_cons_succ, List.setIfInBounds_toArray, List.set_cons_zero, List.set_cons_succ]
  refine wpAnyH_take (i := 3) (v := ?v4) rfl (by kernel_rfl) (by kernel_rfl) (by kernel_rfl) (fun _ _ _ h => h) (Or.inl ⟨by rfl, ?hy4⟩) (by assumption) ?rest4
  case hy4 => (intro w hSw; refine held_cut0 (.tmp 47) (.tmp 48) ?_ a1 m1 cap1 Y ?_ ?_ hcY <;> rfl)
  try simp only [Act.put, List.getElem_toArray, List.getElem_cons_zero, List.getElem_cons_succ, List.setIfInBounds_toArray, List.set_cons_zero, List.set_cons_succ]
  refine wpAnyH_take (i := 4) (v := ?v5) rfl (by kernel_rfl) (by kernel_rfl) (by kernel_rfl) (fun _ _ _ h => h) (Or.inl ⟨by rfl, ?hy5⟩) (by assumption) ?rest5
  case hy5 => (intro w hSw; (try dsimp only at hSw); go_simp; try with_reducible rfl)
  try simp only [Act.put, List.getElem_toArray, List.getElem_cons_zero, List.getElem_cons_succ, List.setIfInBounds_toArray, List.set_cons_zero, List.set_cons_succ]
  refine wpAnyH_take (i := 5) (v := ?v6) rfl (by kernel_rfl) (by kernel_rfl) (by kernel_rfl) (fun _ _ _ h => h) (Or.inl ⟨by rfl, ?hy6⟩) (by assumption) ?rest6
  case hy6 => (intro w hSw; (try dsimp only at hSw); go_simp; try with_reducible rfl)
  try simp only [Act.put, List.getElem_toArray, List.getElem_cons_zero, List.getElem_cons_succ, List.setIfInBounds_toArray, List.set_cons_zero, List.set_cons_succ]
  refine wpAnyH_take (i := 6) (v := ?v7) rfl (by kernel_rfl) (by kernel_rfl) (by kernel_rfl) (fun _ _ _ h => h) (Or.inl ⟨by rfl, ?hy7⟩) (by assumption) ?rest7
  case hy7 => (intro w hSw; refine held_cut1 (.tmp 50) (.tmp 51) ?_ a1 A2 m1 cap1 Y ?_ ?_ hYm HA2.out <;> rfl)
  try simp only [Act.put, List.getElem_toArray, List.getElem_cons_zero, List.getElem_cons_succ, List.setIfInBounds_toArray, List.set_cons_zero, List.set_cons_succ]
  refine wpAnyH_ready (rs := [7, 9]) (by kernel_rfl) (by simp) ?_
  refine AllReadyH.cons rfl (fun K hK => ?_) ?_
  · go_simp
    have F1 : Frm (fun _ => False) W0 (W0.alloc (.cells #[.slice a1 Y cap1, .slice A2 (m1 - Y) (cap1 - Y)] 24)) := Frm.alloc _ _ _
    have Q1 := alloc_rds W0 [.slice a1 Y cap1, .slice A2 (m1 - Y) (cap1 - Y)] 24 (0, 0)
    have X1 := X0.frm F1 (fun h => h)
    have K1 := K0.frm F1 (fun h => h)
    have N1 := N0.frm F1 (fun h => h)
    have V1 := V0.frm F1 (fun _ _ _ h => h)
    have R1 := R0.frm F1 (fun _ h => h.elim)
    obtain ⟨W1, hW1⟩ : ∃ W', W' = W0.alloc (.cells #[.slice a1 Y cap1, .slice A2 (m1 - Y) (cap1 - Y)] 24) := ⟨_, rfl⟩
    rw [show W0.alloc (.cells [.slice a1 Y cap1, .slice A2 (m1 - Y) (cap1 - Y)].toArray 24) = W1 from hW1.symm] at Q1
    rw [← hW1] at F1 X1 K1 N1 V1 R1 ⊢
    clear hW1
    refine hK.out _ _ (K1) (fun hHeld => ?_)
    clear hK K
    refine wpAnyH_ready (rs := [8, 9]) (by kernel_rfl) (by simp) ?_
    refine AllReadyH.cons rfl (fun K hK => ?_) ?_
    · go_simp
      refine (short_now w _ kk HKl.out (some ⟨W0.heap.size, 0, none⟩) 2 2 [.slice a1 Y cap1, .slice A2 (m1 - Y) (cap1 - Y)] [x1.take Y, x1.drop Y] x1 Q1 (HAL.out _ R1) HFL.out R1 (by omega) (by simp)).mono ?_
      rintro e W2 ⟨rfl, F2, _⟩
      rw [HNCE.out]
      have X2 := X1.frm F2 (fun h => h)
      have K2 := K1.frm F2 (fun h => h)
      have N2 := N1.frm F2 (fun h => h)
      have V2 := V1.frm F2 (fun _ _ _ h => h)
      have R2 := R1.frm F2 (fun _ h => h.elim)
      refine hK.out _ _ (K2) (fun hHeld => ?_)
      clear hK K
      refine wpAnyH_ready (rs := [9]) (by kernel_rfl) (by simp) ?_
      refine AllReadyH.cons rfl (fun K hK => ?_) AllReadyH.nil
      refine step_alloca rfl _ rfl _ zero16 ?_
      intro g12 W3 Z3 hz3 F3
      have hg12 : w.heap.size ≤ g12 := by have := R2.size; omega
      have d8 : g8 ≠ g12 := by have := X2.lt; omega
      have d10 : g10 ≠ g12 := by have := K2.lt; omega
      have d11 : g11 ≠ g12 := by have := N2.lt; omega
      have dV := rds_lt V2
      have hdV : (∀ a, A7 = some a → a.block ≠ g12) := fun a ha => by have := dV a ha; omega
      have X3 := X2.frm F3 (fun h => h)
      have K3 := K2.frm F3 (fun h => h)
      have N3 := N2.frm F3 (fun h => h)
      have V3 := V2.frm F3 (fun _ _ _ h => h)
      have R3 := R2.frm F3 (fun _ h => h.elim)
      refine hK.out _ _ (K3) (fun hHeld => ?_)
      clear hK K
      refine wpAnyH_ready (rs := [10]) (by kernel_rfl) (by simp) ?_
      refine AllReadyH.cons rfl (fun K hK => ?_) AllReadyH.nil
      refine step_storea agg16 rfl (.tmp 12) (.tmp 54) rfl g12 (cellsB (nc.take 16)) rfl rfl _ _ Z3 HSC.out rfl (cellsB_one _) ?_
      intro W9 Z9 F9
      have X9 := X3.frm F9 d8
      have N9 := N3.frm F9 d11
      have K9 := K3.frm F9 d10
      have V9 := V3.frm F9 (fun _ a ha => hdV a ha)
      have R9 := R3.frm F9 (fun k hk => by omega)
      refine hK.out _ _ (K9) (fun hHeld => ?_)
      clear hK K
      refine wpAnyH_done (by kernel_rfl) ?_ _
      have FD : Frm (fun _ => False) W9 W9.drew := (Frm.refl _ _).drew
      have X10 := X9.frm FD (fun h => h)
      have N10 := N9.frm FD (fun h => h)
      have Z10 := Z9.frm FD (fun h => h)
      have V10 := V9.frm FD (fun _ _ _ h => h)
      have R10 := R9.frm FD (fun _ h => h.elim)
      clear hHeld
      go_wp2_with fail
      refine wp_region_held_drew (S := fun W => Blk W g8 25 (cellsB mc).toArray ∧ Blk W g11 25 (cellsB nc).toArray ∧ Blk W g12 49 (cellsB (nc.take 16)).toArray) (by kernel_rfl) (⟨X10, N10, Z10⟩) ?_
      intro hHeld
      obtain ⟨W10, hW10⟩ : ∃ W', W' = W9.drew := ⟨_, rfl⟩
      rw [← hW10] at X10 N10 Z10 V10 R10 hHeld ⊢
      clear hW10 FD X9 N9 Z9 V9 R9
      refine wpAnyH_take (i := 0) (v := ?v8) rfl (by kernel_rfl) (by kernel_rfl) (by kernel_rfl) (fun _ _ _ h => h) (Or.inl ⟨by rfl, ?hy8⟩) (by assumption) ?rest8
      case hy8 => (intro w hSw; (try dsimp only at hSw); go_simp; try with_reducible rfl)
      try simp only [Act.put, List.getElem_toArray, List.getElem_cons_zero, List.setIfInBounds_toArray, List.set_cons_zero, List.set_cons_succ]
      refine wpAnyH_take (i := 1) (v := ?v9) rfl (by kernel_rfl) (by kernel_rfl) (by kernel_rfl) (fun _ _ _ h => h) (Or.inl ⟨by rfl, ?hy9⟩) (by assumption) ?rest9
      case hy9 => (intro w hSw; (try dsimp only at hSw); go_simp; try with_reducible rfl)
      try simp only [Act.put, List.getElem_toArray, List.getElem_cons_zero, List.getElem_cons_succ, List.setIfInBounds_toArray, List.set_cons_zero, List.set_cons_succ]
      refine wpAnyH_take (i := 2) (v := ?v10) rfl (by kernel_rfl) (by kernel_rfl) (by kernel_rfl) (fun _ _ _ h => h) (Or.inl ⟨by rfl, ?hy10⟩) (by assumption) ?rest10
      case hy10 => (intro w hSw; (try dsimp only at hSw); go_simp; try with_reducible rfl)
      try simp only [Act.put, List.getElem_toArray, List.getElem_cons_zero, List.getElem_cons_succ, List.setIfInBounds_toArray, List.set_cons_zero, List.set_cons_succ]
      refine wpAnyH_take (i := 3) (v := ?v11) rfl (by kernel_rfl) (by kernel_rfl) (by kernel_rfl) (fun _ _ _ h => h) (Or.inl ⟨by rfl, ?hy11⟩) (by assumption) ?rest11
      case hy11 => (intro w hSw; (try dsimp only at hSw); go_simp; try with_reducible rfl)
      try simp only [Act.put, List.getElem_toArray, List.getElem_cons_zero, List.getElem_cons_succ, List.setIfInBounds_toArray, List.set_cons_zero, List.set_cons_succ]
      refine wpAnyH_take (i := 4) (v := ?v12) rfl (by kernel_rfl) (by kernel_rfl) (by kernel_rfl) (fun _ _ _ h => h) (Or.inl ⟨by rfl, ?hy12⟩) (by assumption) ?rest12
      case hy12 => (intro w hSw; (try dsimp only at hSw); go_simp; try with_reducible rfl)
      try simp only [Act.put, List.getElem_toArray, List.getElem_cons_zero, List.getElem_cons_succ, List.setIfInBounds_toArray, List.set_cons_zero, List.set_cons_succ]
      refine wpAnyH_take (i := 5) (v := ?v13) rfl (by kernel_rfl) (by kernel_rfl) (by kernel_rfl) (fun _ _ _ h => h) (Or.inl ⟨by rfl, ?hy13⟩) (by assumption) ?rest13
      case hy13 => (intro w hSw; refine held_cut0 (.tmp 58) (.tmp 59) ?_ a1 m1 cap1 Y ?_ ?_ hcY <;> rfl)
      try simp only [Act.put, List.getElem_toArray, List.getElem_cons_zero, List.getElem_cons_succ, List.setIfInBounds_toArray, List.set_cons_zero, List.set_cons_succ]
      refine wpAnyH_take (i := 6) (v := ?v14) rfl (by kernel_rfl) (by kernel_rfl) (by kernel_rfl) (fun _ _ _ h => h) (Or.inl ⟨by rfl, ?hy14⟩) (by assumption) ?rest14
      case hy14 => (intro w hSw; (try dsimp only at hSw); go_simp; try with_reducible rfl)
      try simp only [Act.put, List.getElem_toArray, List.getElem_cons_zero, List.getElem_cons_succ, List.setIfInBounds_toArray, List.set_cons_zero, List.set_cons_succ]
      refine wpAnyH_take (i := 7) (v := ?v15) rfl (by kernel_rfl) (by kernel_rfl) (by kernel_rfl) (fun _ _ _ h => h) (Or.inl ⟨by rfl, ?hy15⟩) (by assumption) ?rest15
      case hy15 => (intro w hSw; (try dsimp only at hSw); go_simp; try with_reducible rfl)
      try simp only [Act.put, List.getElem_toArray, List.getElem_cons_zero, List.getElem_cons_succ, List.setIfInBounds_toArray, List.set_cons_zero, List.set_cons_succ]
      refine wpAnyH_take (i := 8) (v := ?v16) rfl (by kernel_rfl) (by kernel_rfl) (by kernel_rfl) (fun _ _ _ h => h) (Or.inl ⟨by rfl, ?hy16⟩) (by assumption) ?rest16
      case hy16 => (intro w hSw; refine held_cut1 (.tmp 61) (.tmp 62) ?_ a1 A2 m1 cap1 Y ?_ ?_ hYm HA2.out <;> rfl)
      try simp only [Act.put, List.getElem_toArray, List.getElem_cons_zero, List.getElem_cons_succ, List.setIfInBounds_toArray, List.set_cons_zero, List.set_cons_succ]
      refine wpAnyH_take (i := 11) (v := ?v17) rfl (by kernel_rfl) (by kernel_rfl) (by kernel_rfl) (fun _ _ _ h => h) (Or.inl ⟨by rfl, ?hy17⟩) (by assumption) ?rest17
      case hy17 => (intro w hSw; refine held_loadG agg32 (.tmp 8) ?_ g8 ?_ mc HML.out _ hSw.1 <;> rfl)
      try simp only [Act.put, List.getElem_toArray, List.getElem_cons_zero, List.getElem_cons_succ, List.setIfInBounds_toArray, List.set_cons_zero, List.set_cons_succ]
      refine wpAnyH_ready (rs := [9]) (by kernel_rfl) (by simp) ?_
      refine AllReadyH.cons rfl (fun K hK => ?_) AllReadyH.nil
      go_simp
      have F11 : Frm (fun _ => False) W10 (W10.alloc (.cells #[.slice a1 Y cap1, .slice none 0 0, .slice A2 (m1 - Y) (cap1 - Y)] 24)) := Frm.alloc _ _ _
      have Q11 := alloc_rds W10 [.slice a1 Y cap1, .slice none 0 0, .slice A2 (m1 - Y) (cap1 - Y)] 24 (0, 0)
      have X11 := X10.frm F11 (fun h => h)
      have N11 := N10.frm F11 (fun h => h)
      have Z11 := Z10.frm F11 (fun h => h)
      have V11 := V10.frm F11 (fun _ _ _ h => h)
      have R11 := R10.frm F11 (fun _ h => h.elim)
      obtain ⟨W11, hW11⟩ : ∃ W', W' = W10.alloc (.cells #[.slice a1 Y cap1, .slice none 0 0, .slice A2 (m1 - Y) (cap1 - Y)] 24) := ⟨_, rfl⟩
      rw [show W10.alloc (.cells [.slice a1 Y cap1, .slice none 0 0, .slice A2 (m1 - Y) (cap1 - Y)].toArray 24) = W11 from hW11.symm] at Q11
      rw [← hW11] at F11 X11 N11 Z11 V11 R11 ⊢
      clear hW11
      refine hK.out _ _ (⟨X11, N11, Z11⟩) (fun hHeld => ?_)
      clear hK K
      refine wpAnyH_ready (rs := [10]) (by kernel_rfl) (by simp) ?_
      refine AllReadyH.cons rfl (fun K hK => ?_) AllReadyH.nil
      go_simp
      refine (mac_now w _ a0 m0 cap0 x0 (some ⟨W10.heap.size, 0, none⟩) 3 3 [.slice a1 Y cap1, .slice none 0 0, .slice A2 (m1 - Y) (cap1 - Y)] [x1.take Y, [], x1.drop Y] x1 (HR0.out.below R11.below) hc0 (by omega) Q11 (HAL3.out _ R11) HFL3.out R11 (by omega) (by simp)).mono ?_
      rintro e W12 ⟨rfl, F12, _⟩
      rw [HMCE.out]
      have X12 := X11.frm F12 (fun h => h)
      have N12 := N11.frm F12 (fun h => h)
      have Z12 := Z11.frm F12 (fun h => h)
      have V12 := V11.frm F12 (fun _ _ _ h => h)
      have R12 := R11.frm F12 (fun _ h => h.elim)
      refine hK.out _ _ (⟨X12, N12, Z12⟩) (fun hHeld => ?_)
      clear hK K
      refine wpAnyH_take (i := 12) (v := ?v18) rfl (by kernel_rfl) (by kernel_rfl) (by kernel_rfl) (fun _ _ _ h => h) (Or.inl ⟨by rfl, ?hy18⟩) (by assumption) ?rest18
      case hy18 => (intro w hSw; (try dsimp only at hSw); go_simp; try with_reducible rfl)
      try simp only [Act.put, List.getElem_toArray, List.getElem_cons_zero, List.getElem_cons_succ, List.setIfInBounds_toArray, List.set_cons_zero, List.set_cons_succ]
      refine wpAnyH_take (i := 13) (v := ?v19) rfl (by kernel_rfl) (by kernel_rfl) (by kernel_rfl) (fun _ _ _ h => h) (Or.inl ⟨by rfl, ?hy19⟩) (by assumption) ?rest19
      case hy19 => (intro w hSw; (try dsimp only at hSw); go_simp; try with_reducible rfl)
      try simp only [Act.put, List.getElem_toArray, List.getElem_cons_zero, List.getElem_cons_succ, List.setIfInBounds_toArray, List.set_cons_zero, List.set_cons_succ]
      refine wpAnyH_take (i := 14) (v := ?v20) rfl (by kernel_rfl) (by kernel_rfl) (by kernel_rfl) (fun _ _ _ h => h) (Or.inl ⟨by rfl, ?hy20⟩) (by assumption) ?rest20
      case hy20 => (intro w hSw; (try dsimp only at hSw); go_simp; try with_reducible rfl)
      try simp only [Act.put, List.getElem_toArray, List.getElem_cons_zero, List.getElem_cons_succ, List.setIfInBounds_toArray, List.set_cons_zero, List.set_cons_succ]
      refine wpAnyH_take (i := 15) (v := ?v21) rfl (by kernel_rfl) (by kernel_rfl) (by kernel_rfl) (fun _ _ _ h => h) (Or.inl ⟨by rfl, ?hy21⟩) (by assumption) ?rest21
      case hy21 => (intro w hSw; (try dsimp only at hSw); go_simp; try with_reducible rfl)
      try simp only [Act.put, List.getElem_toArray, List.getElem_cons_zero, List.getElem_cons_succ, List.setIfInBounds_toArray, List.set_cons_zero, List.set_cons_succ]
      refine wpAnyH_take (i := 16) (v := ?v22) rfl (by kernel_rfl) (by kernel_rfl) (by kernel_rfl) (fun _ _ _ h => h) (Or.inl ⟨by rfl, ?hy22⟩) (by assumption) ?rest22
      case hy22 => (intro w hSw; (try dsimp only at hSw); go_simp; try with_reducible rfl)
      try simp only [Act.put, List.getElem_toArray, List.getElem_cons_zero, List.getElem_cons_succ, List.setIfInBounds_toArray, List.set_cons_zero, List.set_cons_succ]
      refine wpAnyH_take (i := 19) (v := ?v23) rfl (by kernel_rfl) (by kernel_rfl) (by kernel_rfl) (fun _ _ _ h => h) (Or.inl ⟨by rfl, ?hy23⟩) (by assumption) ?rest23
      case hy23 => (intro w hSw; refine held_loadG agg32 (.tmp 8) ?_ g8 ?_ mc HML.out _ hSw.1 <;> rfl)
      try simp only [Act.put, List.getElem_toArray, List.getElem_cons_zero, List.getElem_cons_succ, List.setIfInBounds_toArray, List.set_cons_zero, List.set_cons_succ]
      refine wpAnyH_ready (rs := [17]) (by kernel_rfl) (by simp) ?_
      refine AllReadyH.cons rfl (fun K hK => ?_) AllReadyH.nil
      go_simp
      have F13 : Frm (fun _ => False) W12 (W12.alloc (.cells #[.slice a1 m1 cap1] 24)) := Frm.alloc _ _ _
      have Q13 := alloc_rds W12 [.slice a1 m1 cap1] 24 (0, 0)
      have X13 := X12.frm F13 (fun h => h)
      have N13 := N12.frm F13 (fun h => h)
      have Z13 := Z12.frm F13 (fun h => h)
      have V13 := V12.frm F13 (fun _ _ _ h => h)
      have R13 := R12.frm F13 (fun _ h => h.elim)
      obtain ⟨W13, hW13⟩ : ∃ W', W' = W12.alloc (.cells #[.slice a1 m1 cap1] 24) := ⟨_, rfl⟩
      rw [show W12.alloc (.cells [.slice a1 m1 cap1].toArray 24) = W13 from hW13.symm] at Q13
      rw [← hW13] at F13 X13 N13 Z13 V13 R13 ⊢
      clear hW13
      refine hK.out _ _ (⟨X13, N13, Z13⟩) (fun hHeld => ?_)
      clear hK K
      refine wpAnyH_ready (rs := [18]) (by kernel_rfl) (by simp) ?_
      refine AllReadyH.cons rfl (fun K hK => ?_) AllReadyH.nil
      go_simp
      refine (mac_now w _ A7 (m0 + 3) c7 (x0 ++ [0, 0, 0]) (some ⟨W12.heap.size, 0, none⟩) 1 1 [.slice a1 m1 cap1] [x1] x1 V13 hc7 (by omega) Q13 (HAL1.out _ R13) (by simp) R13 (by omega) (by simp)).mono ?_
      rintro e W14 ⟨rfl, F14, _⟩
      rw [HZ3.out]
      have X14 := X13.frm F14 (fun h => h)
      have N14 := N13.frm F14 (fun h => h)
      have Z14 := Z13.frm F14 (fun h => h)
      have V14 := V13.frm F14 (fun _ _ _ h => h)
      have R14 := R13.frm F14 (fun _ h => h.elim)
      refine hK.out _ _ (⟨X14, N14, Z14⟩) (fun hHeld => ?_)
      clear hK K
      refine wpAnyH_take (i := 20) (v := ?v24) rfl (by kernel_rfl) (by kernel_rfl) (by kernel_rfl) (fun _ _ _ h => h) (Or.inl ⟨by rfl, ?hy24⟩) (by assumption) ?rest24
      case hy24 => (intro w hSw; (try dsimp only at hSw); go_simp; try with_reducible rfl)
      try simp only [Act.put, List.getElem_toArray, List.getElem_cons_zero, List.getElem_cons_succ, List.setIfInBounds_toArray, List.set_cons_zero, List.set_cons_succ]
      refine wpAnyH_take (i := 21) (v := ?v25) rfl (by kernel_rfl) (by kernel_rfl) (by kernel_rfl) (fun _ _ _ h => h) (Or.inl ⟨by rfl, ?hy25⟩) (by assumption) ?rest25
      case hy25 => (intro w hSw; (try dsimp only at hSw); go_simp; try with_reducible rfl)
      try simp only [Act.put, List.getElem_toArray, List.getElem_cons_zero, List.getElem_cons_succ, List.setIfInBounds_toArray, List.set_cons_zero, List.set_cons_succ]
      refine wpAnyH_take (i := 22) (v := ?v26) rfl (by kernel_rfl) (by kernel_rfl) (by kernel_rfl) (fun _ _ _ h => h) (Or.inl ⟨by rfl, ?hy26⟩) (by assumption) ?rest26
      case hy26 => (intro w hSw; (try dsimp only at hSw); go_simp; try with_reducible rfl)
      try simp only [Act.put, List.getElem_toArray, List.getElem_cons_zero, List.getElem_cons_succ, List.setIfInBounds_toArray, List.set_cons_zero, List.set_cons_succ]
      refine wpAnyH_take (i := 23) (v := ?v27) rfl (by kernel_rfl) (by kernel_rfl) (by kernel_rfl) (fun _ _ _ h => h) (Or.inl ⟨by rfl, ?hy27⟩) (by assumption) ?rest27
      case hy27 => (intro w hSw; (try dsimp only at hSw); go_simp; try with_reducible rfl)
      try simp only [Act.put, List.getElem_toArray, List.getElem_cons_zero, List.getElem_cons_succ, List.setIfInBounds_toArray, List.set_cons_zero, List.set_cons_succ]
      refine wpAnyH_take (i := 24) (v := ?v28) rfl (by kernel_rfl) (by kernel_rfl) (by kernel_rfl) (fun _ _ _ h => h) (Or.inl ⟨by rfl, ?hy28⟩) (by assumption) ?rest28
      case hy28 => (intro w hSw; refine held_conv (.tmp 78) ?_ g12 16 16 ?_ (nc.take 16) (nc.take 16) _ hSw.2.2 (by rw [HSL.out]; exact Nat.le_refl _) (by simp [List.take_take]) <;> rfl)
      try simp only [Act.put, List.getElem_toArray, List.getElem_cons_zero, List.getElem_cons_succ, List.setIfInBounds_toArray, List.set_cons_zero, List.set_cons_succ]
      refine wpAnyH_take (i := 25) (v := ?v29) rfl (by kernel_rfl) (by kernel_rfl) (by kernel_rfl) (fun _ _ _ h => h) (Or.inl ⟨by rfl, ?hy29⟩) (by assumption) ?rest29
      case hy29 => (intro w hSw; (try dsimp only at hSw); go_simp; try with_reducible rfl)
      try simp only [Act.put, List.getElem_toArray, List.getElem_cons_zero, List.getElem_cons_succ, List.setIfInBounds_toArray, List.set_cons_zero, List.set_cons_succ]
      refine wpAnyH_take (i := 26) (v := ?v30) rfl (by kernel_rfl) (by kernel_rfl) (by kernel_rfl) (fun _ _ _ h => h) (Or.inl ⟨by rfl, ?hy30⟩) (by assumption) ?rest30
      case hy30 => (intro w hSw; refine held_conv (.tmp 80) ?_ g11 16 32 ?_ nc (nc.take 16) _ hSw.2.1 (by rw [HNL.out]; omega) rfl <;> rfl)
      try simp only [Act.put, List.getElem_toArray, List.getElem_cons_zero, List.getElem_cons_succ, List.setIfInBounds_toArray, List.set_cons_zero, List.set_cons_succ]
      refine wpAnyH_take (i := 27) (v := ?v31) rfl (by kernel_rfl) (by kernel_rfl) (by kernel_rfl) (fun _ _ _ h => h) (Or.inl ⟨by rfl, ?hy31⟩) (by assumption) ?rest31
      case hy31 => (intro w hSw; (try dsimp only at hSw); go_simp; try with_reducible rfl)
      try simp only [Act.put, List.getElem_toArray, List.getElem_cons_zero, List.getElem_cons_succ, List.setIfInBounds_toArray, List.set_cons_zero, List.set_cons_succ]
      refine wpAnyH_take (i := 28) (v := ?v32) rfl (by kernel_rfl) (by kernel_rfl) (by kernel_rfl) (fun _ _ _ h => h) (Or.inl ⟨by rfl, ?hy32⟩) (by assumption) ?rest32
      case hy32 => (intro w hSw; (try dsimp only at hSw); go_simp; try with_reducible rfl)
      try simp only [Act.put, List.getElem_toArray, List.getElem_cons_zero, List.getElem_cons_succ, List.setIfInBounds_toArray, List.set_cons_zero, List.set_cons_succ]
      refine wpAnyH_take (i := 29) (v := ?v33) rfl (by kernel_rfl) (by kernel_rfl) (by kernel_rfl) (fun _ _ _ h => h) (Or.inl ⟨by rfl, ?hy33⟩) (by assumption) ?rest33
      case hy33 => (intro w hSw; (try dsimp only at hSw); go_simp; try with_reducible rfl)
      try simp only [Act.put, List.getElem_toArray, List.getElem_cons_zero, List.getElem_cons_succ, List.setIfInBounds_toArray, List.set_cons_zero, List.set_cons_succ]
      refine wpAnyH_take (i := 30) (v := ?v34) rfl (by kernel_rfl) (by kernel_rfl) (by kernel_rfl) (fun _ _ _ h => h) (Or.inl ⟨by rfl, ?hy34⟩) (by assumption) ?rest34
      case hy34 => (intro w hSw; (try dsimp only at hSw); go_simp; try with_reducible rfl)
      try simp only [Act.put, List.getElem_toArray, List.getElem_cons_zero, List.getElem_cons_succ, List.setIfInBounds_toArray, List.set_cons_zero, List.set_cons_succ]
      refine wpAnyH_take (i := 31) (v := ?v35) rfl (by kernel_rfl) (by kernel_rfl) (by kernel_rfl) (fun _ _ _ h => h) (Or.inl ⟨by rfl, ?hy35⟩) (by assumption) ?rest35
      case hy35 => (intro w hSw; (try dsimp only at hSw); go_simp; try with_reducible rfl)
      try simp only [Act.put, List.getElem_toArray, List.getElem_cons_zero, List.getElem_cons_succ, List.setIfInBounds_toArray, List.set_cons_zero, List.set_cons_succ]
      by_cases h32 : 32 < m0
      · have h32' : (32 : Int) < (m0 : Int) := by omega
        refine wpAnyH_take (i := 32) (v := ?v36) rfl (by kernel_rfl) (by kernel_rfl) (by kernel_rfl) (fun _ _ _ h => h) (Or.inl ⟨by rfl, ?hy36⟩) (by assumption) ?rest36
        case hy36 => (intro w hSw; (try dsimp only at hSw); go_simp; try with_reducible rfl)
        try simp only [Act.put, List.getElem_toArray, List.getElem_cons_zero, List.getElem_cons_succ, List.setIfInBounds_toArray, List.set_cons_zero, List.set_cons_succ]
        refine wpAnyH_take (i := 33) (v := ?v37) rfl (by kernel_rfl) (by kernel_rfl) (by kernel_rfl) (fun _ _ _ h => h) (Or.inl ⟨by rfl, ?hy37⟩) (by assumption) ?rest37
        case hy37 => (intro w hSw; (try dsimp only at hSw); go_simp; try with_reducible rfl)
        try simp only [Act.put, List.getElem_toArray, List.getElem_cons_zero, List.getElem_cons_succ, List.setIfInBounds_toArray, List.set_cons_zero, List.set_cons_succ]
        refine wpAnyH_take (i := 34) (v := undef) rfl (by kernel_rfl) (by kernel_rfl) (by kernel_rfl) (fun _ _ _ h => h) (Or.inr ⟨by rfl, rfl⟩) (by assumption) ?rest38
        try simp only [Act.put, List.getElem_toArray, List.getElem_cons_zero, List.getElem_cons_succ, List.setIfInBounds_toArray, List.set_cons_zero, List.set_cons_succ]
        refine wpAnyH_take (i := 35) (v := undef) rfl (by kernel_rfl) (by kernel_rfl) (by kernel_rfl) (fun _ _ _ h => h) (Or.inr ⟨by rfl, rfl⟩) (by assumption) ?rest39
        try simp only [Act.put, List.getElem_toArray, List.getElem_cons_zero, List.getElem_cons_succ, List.setIfInBounds_toArray, List.set_cons_zero, List.set_cons_succ]
        refine wpAnyH_take (i := 36) (v := undef) rfl (by kernel_rfl) (by kernel_rfl) (by kernel_rfl) (fun _ _ _ h => h) (Or.inr ⟨by rfl, rfl⟩) (by assumption) ?rest40
        try simp only [Act.put, List.getElem_toArray, List.getElem_cons_zero, List.getElem_cons_succ, List.setIfInBounds_toArray, List.set_cons_zero, List.set_cons_succ]
        refine wpAnyH_take (i := 37) (v := ?v41) rfl (by kernel_rfl) (by kernel_rfl) (by kernel_rfl) (fun _ _ _ h => h) (Or.inl ⟨by rfl, ?hy41⟩) (by assumption) ?rest41
        case hy41 => (intro w hSw; (try dsimp only at hSw); go_simp; try with_reducible rfl)
        try simp only [Act.put, List.getElem_toArray, List.getElem_cons_zero, List.getElem_cons_succ, List.setIfInBounds_toArray, List.set_cons_zero, List.set_cons_succ]
        refine wpAnyH_take (i := 38) (v := ?v42) rfl (by kernel_rfl) (by kernel_rfl) (by kernel_rfl) (fun _ _ _ h => h) (Or.inl ⟨by rfl, ?hy42⟩) (by assumption) ?rest42
        case hy42 => (intro w hSw; (try dsimp only at hSw); go_simp; try with_reducible rfl)
        try simp only [Act.put, List.getElem_toArray, List.getElem_cons_zero, List.getElem_cons_succ, List.setIfInBounds_toArray, List.set_cons_zero, List.set_cons_succ]
        refine wpAnyH_take (i := 39) (v := ?v43) rfl (by kernel_rfl) (by kernel_rfl) (by kernel_rfl) (fun _ _ _ h => h) (Or.inl ⟨by rfl, ?hy43⟩) (by assumption) ?rest43
        case hy43 => (intro w hSw; (try dsimp only at hSw); go_simp; try with_reducible rfl)
        try simp only [Act.put, List.getElem_toArray, List.getElem_cons_zero, List.getElem_cons_succ, List.setIfInBounds_toArray, List.set_cons_zero, List.set_cons_succ]
        refine wpAnyH_done (by kernel_rfl) ?_ _
        go_wp2
        go_ret
        exact ⟨rfl, R14.below⟩
      · have h32' : ¬ ((32 : Int) < (m0 : Int)) := by omega
        have hnm : nc = mc := by rw [← HNCE.out]; rw [HNCE.out]; exact HK32.out (by rw [HX0.out]; omega)
        subst hnm
        refine wpAnyH_take (i := 32) (v := ?v44) rfl (by kernel_rfl) (by kernel_rfl) (by kernel_rfl) (fun _ _ _ h => h) (Or.inl ⟨by rfl, ?hy44⟩) (by assumption) ?rest44
        case hy44 => (intro w hSw; (try dsimp only at hSw); go_simp; try with_reducible rfl)
        try simp only [Act.put, List.getElem_toArray, List.getElem_cons_zero, List.getElem_cons_succ, List.setIfInBounds_toArray, List.set_cons_zero, List.set_cons_succ]
        refine wpAnyH_take (i := 33) (v := ?v45) rfl (by kernel_rfl) (by kernel_rfl) (by kernel_rfl) (fun _ _ _ h => h) (Or.inl ⟨by rfl, ?hy45⟩) (by assumption) ?rest45
        case hy45 => (intro w hSw; (try dsimp only at hSw); go_simp; try with_reducible rfl)
        try simp only [Act.put, List.getElem_toArray, List.getElem_cons_zero, List.getElem_cons_succ, List.setIfInBounds_toArray, List.set_cons_zero, List.set_cons_succ]
        refine wpAnyH_take (i := 34) (v := ?v46) rfl (by kernel_rfl) (by kernel_rfl) (by kernel_rfl) (fun _ _ _ h => h) (Or.inl ⟨by rfl, ?hy46⟩) (by assumption) ?rest46
        case hy46 => (intro w hSw; refine held_loadG agg32 (.tmp 11) ?_ g11 ?_ nc HNL.out _ hSw.2.1 <;> rfl)
        try simp only [Act.put, List.getElem_toArray, List.getElem_cons_zero, List.getElem_cons_succ, List.setIfInBounds_toArray, List.set_cons_zero, List.set_cons_succ]
        refine wpAnyH_take (i := 35) (v := ?v47) rfl (by kernel_rfl) (by kernel_rfl) (by kernel_rfl) (fun _ _ _ h => h) (Or.inl ⟨by rfl, ?hy47⟩) (by assumption) ?rest47
        case hy47 => (intro w hSw; refine held_loadG agg32 (.tmp 8) ?_ g8 ?_ nc HNL.out _ hSw.1 <;> rfl)
        try simp only [Act.put, List.getElem_toArray, List.getElem_cons_zero, List.getElem_cons_succ, List.setIfInBounds_toArray, List.set_cons_zero, List.set_cons_succ]
        refine wpAnyH_take (i := 36) (v := ?v48) rfl (by kernel_rfl) (by kernel_rfl) (by kernel_rfl) (fun _ _ _ h => h) (Or.inl ⟨by rfl, ?hy48⟩) (by assumption) ?rest48
        case hy48 => (intro w hSw; (try dsimp only at hSw); go_simp; try with_reducible rfl)
        try simp only [Act.put, List.getElem_toArray, List.getElem_cons_zero, List.getElem_cons_succ, List.setIfInBounds_toArray, List.set_cons_zero, List.set_cons_succ]
        refine wpAnyH_take (i := 37) (v := ?v49) rfl (by kernel_rfl) (by kernel_rfl) (by kernel_rfl) (fun _ _ _ h => h) (Or.inl ⟨by rfl, ?hy49⟩) (by assumption) ?rest49
        case hy49 => (intro w hSw; (try dsimp only at hSw); go_simp; try with_reducible rfl)
        try simp only [Act.put, List.getElem_toArray, List.getElem_cons_zero, List.getElem_cons_succ, List.setIfInBounds_toArray, List.set_cons_zero, List.set_cons_succ]
        refine wpAnyH_take (i := 38) (v := ?v50) rfl (by kernel_rfl) (by kernel_rfl) (by kernel_rfl) (fun _ _ _ h => h) (Or.inl ⟨by rfl, ?hy50⟩) (by assumption) ?rest50
        case hy50 => (intro w hSw; (try dsimp only at hSw); go_simp; try with_reducible rfl)
        try simp only [Act.put, List.getElem_toArray, List.getElem_cons_zero, List.getElem_cons_succ, List.setIfInBounds_toArray, List.set_cons_zero, List.set_cons_succ]
        refine wpAnyH_take (i := 39) (v := ?v51) rfl (by kernel_rfl) (by kernel_rfl) (by kernel_rfl) (fun _ _ _ h => h) (Or.inl ⟨by rfl, ?hy51⟩) (by assumption) ?rest51
        case hy51 => (intro w hSw; (try dsimp only at hSw); go_simp; try with_reducible rfl)
        try simp only [Act.put, List.getElem_toArray, List.getElem_cons_zero, List.getElem_cons_succ, List.setIfInBounds_toArray, List.set_cons_zero, List.set_cons_succ]
        refine wpAnyH_done (by kernel_rfl) ?_ _
        go_wp2
        go_ret
        exact ⟨rfl, R14.below⟩
    refine AllReadyH.cons rfl (fun K hK => ?_) AllReadyH.nil
    refine step_alloca rfl _ rfl _ zero16 ?_
    intro g12 W2 Z2 hz2 F2
    have hg12 : w.heap.size ≤ g12 := by have := R1.size; omega
    have d8 : g8 ≠ g12 := by have := X1.lt; omega
    have d10 : g10 ≠ g12 := by have := K1.lt; omega
    have d11 : g11 ≠ g12 := by have := N1.lt; omega
    have dV := rds_lt V1
    have hdV : (∀ a, A7 = some a → a.block ≠ g12) := fun a ha => by have := dV a ha; omega
    have X2 := X1.frm F2 (fun h => h)
    have K2 := K1.frm F2 (fun h => h)
    have N2 := N1.frm F2 (fun h => h)
    have V2 := V1.frm F2 (fun _ _ _ h => h)
    have R2 := R1.frm F2 (fun _ h => h.elim)
    have Q2 := Q1.frm F2 (fun _ _ _ h => h)
    refine hK.out _ _ (K2) (fun hHeld => ?_)
    clear hK K
    refine wpAnyH_ready (rs := [8]) (by kernel_rfl) (by simp) ?_
    refine AllReadyH.cons rfl (fun K hK => ?_) AllReadyH.nil
    go_simp
    refine (short_now w _ kk HKl.out (some ⟨W0.heap.size, 0, none⟩) 2 2 [.slice a1 Y cap1, .slice A2 (m1 - Y) (cap1 - Y)] [x1.take Y, x1.drop Y] x1 Q2 (HAL.out _ R2) HFL.out R2 (by omega) (by simp)).mono ?_
    rintro e W3 ⟨rfl, F3, _⟩
    rw [HNCE.out]
    have X3 := X2.frm F3 (fun h => h)
    have K3 := K2.frm F3 (fun h => h)
    have N3 := N2.frm F3 (fun h => h)
    have V3 := V2.frm F3 (fun _ _ _ h => h)
    have R3 := R2.frm F3 (fun _ h => h.elim)
    have Z3 := Z2.frm F3 (fun h => h)
    refine hK.out _ _ (K3) (fun hHeld => ?_)
    clear hK K
    refine wpAnyH_ready (rs := [10]) (by kernel_rfl) (by simp) ?_
    refine AllReadyH.cons rfl (fun K hK => ?_) AllReadyH.nil
    refine step_storea agg16 rfl (.tmp 12) (.tmp 54) rfl g12 (cellsB (nc.take 16)) rfl rfl _ _ Z3 HSC.out rfl (cellsB_one _) ?_
    intro W9 Z9 F9
    have X9 := X3.frm F9 d8
    have N9 := N3.frm F9 d11
    have K9 := K3.frm F9 d10
    have V9 := V3.frm F9 (fun _ a ha => hdV a ha)
    have R9 := R3.frm F9 (fun k hk => by omega)
    refine hK.out _ _ (K9) (fun hHeld => ?_)
    clear hK K
    refine wpAnyH_done (by kernel_rfl) ?_ _
    have FD : Frm (fun _ => False) W9 W9.drew := (Frm.refl _ _).drew
    have X10 := X9.frm FD (fun h => h)
    have N10 := N9.frm FD (fun h => h)
    have Z10 := Z9.frm FD (fun h => h)
    have V10 := V9.frm FD (fun _ _ _ h => h)
    have R10 := R9.frm FD (fun _ h => h.elim)
    clear hHeld
    go_wp2_with fail
    refine wp_region_held_drew (S := fun W => Blk W g8 25 (cellsB mc).toArray ∧ Blk W g11 25 (cellsB nc).toArray ∧ Blk W g12 49 (cellsB (nc.take 16)).toArray) (by kernel_rfl) (⟨X10, N10, Z10⟩) ?_
    intro hHeld
    obtain ⟨W10, hW10⟩ : ∃ W', W' = W9.drew := ⟨_, rfl⟩
    rw [← hW10] at X10 N10 Z10 V10 R10 hHeld ⊢
    clear hW10 FD X9 N9 Z9 V9 R9
    refine wpAnyH_take (i := 0) (v := ?v52) rfl (by kernel_rfl) (by kernel_rfl) (by kernel_rfl) (fun _ _ _ h => h) (Or.inl ⟨by rfl, ?hy52⟩) (by assumption) ?rest52
    case hy52 => (intro w hSw; (try dsimp only at hSw); go_simp; try with_reducible rfl)
    try simp only [Act.put, List.getElem_toArray, List.getElem_cons_zero, List.setIfInBounds_toArray, List.set_cons_zero, List.set_cons_succ]
    refine wpAnyH_take (i := 1) (v := ?v53) rfl (by kernel_rfl) (by kernel_rfl) (by kernel_rfl) (fun _ _ _ h => h) (Or.inl ⟨by rfl, ?hy53⟩) (by assumption) ?rest53
    case hy53 => (intro w hSw; (try dsimp only at hSw); go_simp; try with_reducible rfl)
    try simp only [Act.put, List.getElem_toArray, List.getElem_cons_zero, List.getElem_cons_succ, List.setIfInBounds_toArray, List.set_cons_zero, List.set_cons_succ]
    refine wpAnyH_take (i := 2) (v := ?v54) rfl (by kernel_rfl) (by kernel_rfl) (by kernel_rfl) (fun _ _ _ h => h) (Or.inl ⟨by rfl, ?hy54⟩) (by assumption) ?rest54
    case hy54 => (intro w hSw; (try dsimp only at hSw); go_simp; try with_reducible rfl)
    try simp only [Act.put, List.getElem_toArray, List.getElem_cons_zero, List.getElem_cons_succ, List.setIfInBounds_toArray, List.set_cons_zero, List.set_cons_succ]
    refine wpAnyH_take (i := 3) (v := ?v55) rfl (by kernel_rfl) (by kernel_rfl) (by kernel_rfl) (fun _ _ _ h => h) (Or.inl ⟨by rfl, ?hy55⟩) (by assumption) ?rest55
    case hy55 => (intro w hSw; (try dsimp only at hSw); go_simp; try with_reducible rfl)
    try simp only [Act.put, List.getElem_toArray, List.getElem_cons_zero, List.getElem_cons_succ, List.setIfInBounds_toArray, List.set_cons_zero, List.set_cons_succ]
    refine wpAnyH_take (i := 4) (v := ?v56) rfl (by kernel_rfl) (by kernel_rfl) (by kernel_rfl) (fun _ _ _ h => h) (Or.inl ⟨by rfl, ?hy56⟩) (by assumption) ?rest56
    case hy56 => (intro w hSw; (try dsimp only at hSw); go_simp; try with_reducible rfl)
    try simp only [Act.put, List.getElem_toArray, List.getElem_cons_zero, List.getElem_cons_succ, List.setIfInBounds_toArray, List.set_cons_zero, List.set_cons_succ]
    refine wpAnyH_take (i := 5) (v := ?v57) rfl (by kernel_rfl) (by kernel_rfl) (by kernel_rfl) (fun _ _ _ h => h) (Or.inl ⟨by rfl, ?hy57⟩) (by assumption) ?rest57
    case hy57 => (intro w hSw; refine held_cut0 (.tmp 58) (.tmp 59) ?_ a1 m1 cap1 Y ?_ ?_ hcY <;> rfl)
    try simp only [Act.put, List.getElem_toArray, List.getElem_cons_zero, List.getElem_cons_succ, List.setIfInBounds_toArray, List.set_cons_zero, List.set_cons_succ]
    refine wpAnyH_take (i := 6) (v := ?v58) rfl (by kernel_rfl) (by kernel_rfl) (by kernel_rfl) (fun _ _ _ h => h) (Or.inl ⟨by rfl, ?hy58⟩) (by assumption) ?rest58
    case hy58 => (intro w hSw; (try dsimp only at hSw); go_simp; try with_reducible rfl)
    try simp only [Act.put, List.getElem_toArray, List.getElem_cons_zero, List.getElem_cons_succ, List.setIfInBounds_toArray, List.set_cons_zero, List.set_cons_succ]
    refine wpAnyH_take (i := 7) (v := ?v59) rfl (by kernel_rfl) (by kernel_rfl) (by kernel_rfl) (fun _ _ _ h => h) (Or.inl ⟨by rfl, ?hy59⟩) (by assumption) ?rest59
    case hy59 => (intro w hSw; (try dsimp only at hSw); go_simp; try with_reducible rfl)
    try simp only [Act.put, List.getElem_toArray, List.getElem_cons_zero, List.getElem_cons_succ, List.setIfInBounds_toArray, List.set_cons_zero, List.set_cons_succ]
    refine wpAnyH_take (i := 8) (v := ?v60) rfl (by kernel_rfl) (by kernel_rfl) (by kernel_rfl) (fun _ _ _ h => h) (Or.inl ⟨by rfl, ?hy60⟩) (by assumption) ?rest60
    case hy60 => (intro w hSw; refine held_cut1 (.tmp 61) (.tmp 62) ?_ a1 A2 m1 cap1 Y ?_ ?_ hYm HA2.out <;> rfl)
    try simp only [Act.put, List.getElem_toArray, List.getElem_cons_zero, List.getElem_cons_succ, List.setIfInBounds_toArray, List.set_cons_zero, List.set_cons_succ]
    refine wpAnyH_take (i := 11) (v := ?v61) rfl (by kernel_rfl) (by kernel_rfl) (by kernel_rfl) (fun _ _ _ h => h) (Or.inl ⟨by rfl, ?hy61⟩) (by assumption) ?rest61
    case hy61 => (intro w hSw; refine held_loadG agg32 (.tmp 8) ?_ g8 ?_ mc HML.out _ hSw.1 <;> rfl)
    try simp only [Act.put, List.getElem_toArray, List.getElem_cons_zero, List.getElem_cons_succ, List.setIfInBounds_toArray, List.set_cons_zero, List.set_cons_succ]
    refine wpAnyH_ready (rs := [9]) (by kernel_rfl) (by simp) ?_
    refine AllReadyH.cons rfl (fun K hK => ?_) AllReadyH.nil
    go_simp
    have F11 : Frm (fun _ => False) W10 (W10.alloc (.cells #[.slice a1 Y cap1, .slice none 0 0, .slice A2 (m1 - Y) (cap1 - Y)] 24)) := Frm.alloc _ _ _
    have Q11 := alloc_rds W10 [.slice a1 Y cap1, .slice none 0 0, .slice A2 (m1 - Y) (cap1 - Y)] 24 (0, 0)
    have X11 := X10.frm F11 (fun h => h)
    have N11 := N10.frm F11 (fun h => h)
    have Z11 := Z10.frm F11 (fun h => h)
    have V11 := V10.frm F11 (fun _ _ _ h => h)
    have R11 := R10.frm F11 (fun _ h => h.elim)
    obtain ⟨W11, hW11⟩ : ∃ W', W' = W10.alloc (.cells #[.slice a1 Y cap1, .slice none 0 0, .slice A2 (m1 - Y) (cap1 - Y)] 24) := ⟨_, rfl⟩
    rw [show W10.alloc (.cells [.slice a1 Y cap1, .slice none 0 0, .slice A2 (m1 - Y) (cap1 - Y)].toArray 24) = W11 from hW11.symm] at Q11
    rw [← hW11] at F11 X11 N11 Z11 V11 R11 ⊢
    clear hW11
    refine hK.out _ _ (⟨X11, N11, Z11⟩) (fun hHeld => ?_)
    clear hK K
    refine wpAnyH_ready (rs := [10]) (by kernel_rfl) (by simp) ?_
    refine AllReadyH.cons rfl (fun K hK => ?_) AllReadyH.nil
    go_simp
    refine (mac_now w _ a0 m0 cap0 x0 (some ⟨W10.heap.size, 0, none⟩) 3 3 [.slice a1 Y cap1, .slice none 0 0, .slice A2 (m1 - Y) (cap1 - Y)] [x1.take Y, [], x1.drop Y] x1 (HR0.out.below R11.below) hc0 (by omega) Q11 (HAL3.out _ R11) HFL3.out R11 (by omega) (by simp)).mono ?_
    rintro e W12 ⟨rfl, F12, _⟩
    rw [HMCE.out]
    have X12 := X11.frm F12 (fun h => h)
    have N12 := N11.frm F12 (fun h => h)
    have Z12 := Z11.frm F12 (fun h => h)
    have V12 := V11.frm F12 (fun _ _ _ h => h)
    have R12 := R11.frm F12 (fun _ h => h.elim)
    refine hK.out _ _ (⟨X12, N12, Z12⟩) (fun hHeld => ?_)
    clear hK K
    refine wpAnyH_take (i := 12) (v := ?v62) rfl (by kernel_rfl) (by kernel_rfl) (by kernel_rfl) (fun _ _ _ h => h) (Or.inl ⟨by rfl, ?hy62⟩) (by assumption) ?rest62
    case hy62 => (intro w hSw; (try dsimp only at hSw); go_simp; try with_reducible rfl)
    try simp only [Act.put, List.getElem_toArray, List.getElem_cons_zero, List.getElem_cons_succ, List.setIfInBounds_toArray, List.set_cons_zero, List.set_cons_succ]
    refine wpAnyH_take (i := 13) (v := ?v63) rfl (by kernel_rfl) (by kernel_rfl) (by kernel_rfl) (fun _ _ _ h => h) (Or.inl ⟨by rfl, ?hy63⟩) (by assumption) ?rest63
    case hy63 => (intro w hSw; (try dsimp only at hSw); go_simp; try with_reducible rfl)
    try simp only [Act.put, List.getElem_toArray, List.getElem_cons_zero, List.getElem_cons_succ, List.setIfInBounds_toArray, List.set_cons_zero, List.set_cons_succ]
    refine wpAnyH_take (i := 14) (v := ?v64) rfl (by kernel_rfl) (by kernel_rfl) (by kernel_rfl) (fun _ _ _ h => h) (Or.inl ⟨by rfl, ?hy64⟩) (by assumption) ?rest64
    case hy64 => (intro w hSw; (try dsimp only at hSw); go_simp; try with_reducible rfl)
    try simp only [Act.put, List.getElem_toArray, List.getElem_cons_zero, List.getElem_cons_succ, List.setIfInBounds_toArray, List.set_cons_zero, List.set_cons_succ]
    refine wpAnyH_take (i := 15) (v := ?v65) rfl (by kernel_rfl) (by kernel_rfl) (by kernel_rfl) (fun _ _ _ h => h) (Or.inl ⟨by rfl, ?hy65⟩) (by assumption) ?rest65
    case hy65 => (intro w hSw; (try dsimp only at hSw); go_simp; try with_reducible rfl)
    try simp only [Act.put, List.getElem_toArray, List.getElem_cons_zero, List.getElem_cons_succ, List.setIfInBounds_toArray, List.set_cons_zero, List.set_cons_succ]
    refine wpAnyH_take (i := 16) (v := ?v66) rfl (by kernel_rfl) (by kernel_rfl) (by kernel_rfl) (fun _ _ _ h => h) (Or.inl ⟨by rfl, ?hy66⟩) (by assumption) ?rest66
    case hy66 => (intro w hSw; (try dsimp only at hSw); go_simp; try with_reducible rfl)
    try simp only [Act.put, List.getElem_toArray, List.getElem_cons_zero, List.getElem_cons_succ, List.setIfInBounds_toArray, List.set_cons_zero, List.set_cons_succ]
    refine wpAnyH_take (i := 19) (v := ?v67) rfl (by kernel_rfl) (by kernel_rfl) (by kernel_rfl) (fun _ _ _ h => h) (Or.inl ⟨by rfl, ?hy67⟩) (by assumption) ?rest67
    case hy67 => (intro w hSw; refine held_loadG agg32 (.tmp 8) ?_ g8 ?_ mc HML.out _ hSw.1 <;> rfl)
    try simp only [Act.put, List.getElem_toArray, List.getElem_cons_zero, List.getElem_cons_succ, List.setIfInBounds_toArray, List.set_cons_zero, List.set_cons_succ]
    refine wpAnyH_ready (rs := [17]) (by kernel_rfl) (by simp) ?_
    refine AllReadyH.cons rfl (fun K hK => ?_) AllReadyH.nil
    go_simp
    have F13 : Frm (fun _ => False) W12 (W12.alloc (.cells #[.slice a1 m1 cap1] 24)) := Frm.alloc _ _ _
    have Q13 := alloc_rds W12 [.slice a1 m1 cap1] 24 (0, 0)
    have X13 := X12.frm F13 (fun h => h)
    have N13 := N12.frm F13 (fun h => h)
    have Z13 := Z12.frm F13 (fun h => h)
    have V13 := V12.frm F13 (fun _ _ _ h => h)
    have R13 := R12.frm F13 (fun _ h => h.elim)
    obtain ⟨W13, hW13⟩ : ∃ W', W' = W12.alloc (.cells #[.slice a1 m1 cap1] 24) := ⟨_, rfl⟩
    rw [show W12.alloc (.cells [.slice a1 m1 cap1].toArray 24) = W13 from hW13.symm] at Q13
    rw [← hW13] at F13 X13 N13 Z13 V13 R13 ⊢
    clear hW13
    refine hK.out _ _ (⟨X13, N13, Z13⟩) (fun hHeld => ?_)
    clear hK K
    refine wpAnyH_ready (rs := [18]) (by kernel_rfl) (by simp) ?_
    refine AllReadyH.cons rfl (fun K hK => ?_) AllReadyH.nil
    go_simp
    refine (mac_now w _ A7 (m0 + 3) c7 (x0 ++ [0, 0, 0]) (some ⟨W12.heap.size, 0, none⟩) 1 1 [.slice a1 m1 cap1] [x1] x1 V13 hc7 (by omega) Q13 (HAL1.out _ R13) (by simp) R13 (by omega) (by simp)).mono ?_
    rintro e W14 ⟨rfl, F14, _⟩
    rw [HZ3.out]
    have X14 := X13.frm F14 (fun h => h)
    have N14 := N13.frm F14 (fun h => h)
    have Z14 := Z13.frm F14 (fun h => h)
    have V14 := V13.frm F14 (fun _ _ _ h => h)
    have R14 := R13.frm F14 (fun _ h => h.elim)
    refine hK.out _ _ (⟨X14, N14, Z14⟩) (fun hHeld => ?_)
    clear hK K
    refine wpAnyH_take (i := 20) (v := ?v68) rfl (by kernel_rfl) (by kernel_rfl) (by kernel_rfl) (fun _ _ _ h => h) (Or.inl ⟨by rfl, ?hy68⟩) (by assumption) ?rest68
    case hy68 => (intro w hSw; (try dsimp only at hSw); go_simp; try with_reducible rfl)
    try simp only [Act.put, List.getElem_toArray, List.getElem_cons_zero, List.getElem_cons_succ, List.setIfInBounds_toArray, List.set_cons_zero, List.set_cons_succ]
    refine wpAnyH_take (i := 21) (v := ?v69) rfl (by kernel_rfl) (by kernel_rfl) (by kernel_rfl) (fun _ _ _ h => h) (Or.inl ⟨by rfl, ?hy69⟩) (by assumption) ?rest69
    case hy69 => (intro w hSw; (try dsimp only at hSw); go_simp; try with_reducible rfl)
    try simp only [Act.put, List.getElem_toArray, List.getElem_cons_zero, List.getElem_cons_succ, List.setIfInBounds_toArray, List.set_cons_zero, List.set_cons_succ]
    refine wpAnyH_take (i := 22) (v := ?v70) rfl (by kernel_rfl) (by kernel_rfl) (by kernel_rfl) (fun _ _ _ h => h) (Or.inl ⟨by rfl, ?hy70⟩) (by assumption) ?rest70
    case hy70 => (intro w hSw; (try dsimp only at hSw); go_simp; try with_reducible rfl)
    try simp only [Act.put, List.getElem_toArray, List.getElem_cons_zero, List.getElem_cons_succ, List.setIfInBounds_toArray, List.set_cons_zero, List.set_cons_succ]
    refine wpAnyH_take (i := 23) (v := ?v71) rfl (by kernel_rfl) (by kernel_rfl) (by kernel_rfl) (fun _ _ _ h => h) (Or.inl ⟨by rfl, ?hy71⟩) (by assumption) ?rest71
    case hy71 => (intro w hSw; (try dsimp only at hSw); go_simp; try with_reducible rfl)
    try simp only [Act.put, List.getElem_toArray, List.getElem_cons_zero, List.getElem_cons_succ, List.setIfInBounds_toArray, List.set_cons_zero, List.set_cons_succ]
    refine wpAnyH_take (i := 24) (v := ?v72) rfl (by kernel_rfl) (by kernel_rfl) (by kernel_rfl) (fun _ _ _ h => h) (Or.inl ⟨by rfl, ?hy72⟩) (by assumption) ?rest72
    case hy72 => (intro w hSw; refine held_conv (.tmp 78) ?_ g12 16 16 ?_ (nc.take 16) (nc.take 16) _ hSw.2.2 (by rw [HSL.out]; exact Nat.le_refl _) (by simp [List.take_take]) <;> rfl)
    try simp only [Act.put, List.getElem_toArray, List.getElem_cons_zero, List.getElem_cons_succ, List.setIfInBounds_toArray, List.set_cons_zero, List.set_cons_succ]
    refine wpAnyH_take (i := 25) (v := ?v73) rfl (by kernel_rfl) (by kernel_rfl) (by kernel_rfl) (fun _ _ _ h => h) (Or.inl ⟨by rfl, ?hy73⟩) (by assumption) ?rest73
    case hy73 => (intro w hSw; (try dsimp only at hSw); go_simp; try with_reducible rfl)
    try simp only [Act.put, List.getElem_toArray, List.getElem_cons_zero, List.getElem_cons_succ, List.setIfInBounds_toArray, List.set_cons_zero, List.set_cons_succ]
    refine wpAnyH_take (i := 26) (v := ?v74) rfl (by kernel_rfl) (by kernel_rfl) (by kernel_rfl) (fun _ _ _ h => h) (Or.inl ⟨by rfl, ?hy74⟩) (by assumption) ?rest74
    case hy74 => (intro w hSw; refine held_conv (.tmp 80) ?_ g11 16 32 ?_ nc (nc.take 16) _ hSw.2.1 (by rw [HNL.out]; omega) rfl <;> rfl)
    try simp only [Act.put, List.getElem_toArray, List.getElem_cons_zero, List.getElem_cons_succ, List.setIfInBounds_toArray, List.set_cons_zero, List.set_cons_succ]
    refine wpAnyH_take (i := 27) (v := ?v75) rfl (by kernel_rfl) (by kernel_rfl) (by kernel_rfl) (fun _ _ _ h => h) (Or.inl ⟨by rfl, ?hy75⟩) (by assumption) ?rest75
    case hy75 => (intro w hSw; (try dsimp only at hSw); go_simp; try with_reducible rfl)
    try simp only [Act.put, List.getElem_toArray, List.getElem_cons_zero, List.getElem_cons_succ, List.setIfInBounds_toArray, List.set_cons_zero, List.set_cons_succ]
    refine wpAnyH_take (i := 28) (v := ?v76) rfl (by kernel_rfl) (by kernel_rfl) (by kernel_rfl) (fun _ _ _ h => h) (Or.inl ⟨by rfl, ?hy76⟩) (by assumption) ?rest76
    case hy76 => (intro w hSw; (try dsimp only at hSw); go_simp; try with_reducible rfl)
    try simp only [Act.put, List.getElem_toArray, List.getElem_cons_zero, List.getElem_cons_succ, List.setIfInBounds_toArray, List.set_cons_zero, List.set_cons_succ]
    refine wpAnyH_take (i := 29) (v := ?v77) rfl (by kernel_rfl) (by kernel_rfl) (by kernel_rfl) (fun _ _ _ h => h) (Or.inl ⟨by rfl, ?hy77⟩) (by assumption) ?rest77
    case hy77 => (intro w hSw; (try dsimp only at hSw); go_simp; try with_reducible rfl)
    try simp only [Act.put, List.getElem_toArray, List.getElem_cons_zero, List.getElem_cons_succ, List.setIfInBounds_toArray, List.set_cons_zero, List.set_cons_succ]
    refine wpAnyH_take (i := 30) (v := ?v78) rfl (by kernel_rfl) (by kernel_rfl) (by kernel_rfl) (fun _ _ _ h => h) (Or.inl ⟨by rfl, ?hy78⟩) (by assumption) ?rest78
    case hy78 => (intro w hSw; (try dsimp only at hSw); go_simp; try with_reducible rfl)
    try simp only [Act.put, List.getElem_toArray, List.getElem_cons_zero, List.getElem_cons_succ, List.setIfInBounds_toArray, List.set_cons_zero, List.set_cons_succ]
    refine wpAnyH_take (i := 31) (v := ?v79) rfl (by kernel_rfl) (by kernel_rfl) (by kernel_rfl) (fun _ _ _ h => h) (Or.inl ⟨by rfl, ?hy79⟩) (by assumption) ?rest79
    case hy79 => (intro w hSw; (try dsimp only at hSw); go_simp; try with_reducible rfl)
    try simp only [Act.put, List.getElem_toArray, List.getElem_cons_zero, List.getElem_cons_succ, List.setIfInBounds_toArray, List.set_cons_zero, List.set_cons_succ]
    by_cases h32 : 32 < m0
    · have h32' : (32 : Int) < (m0 : Int) := by omega
      refine wpAnyH_take (i := 32) (v := ?v80) rfl (by kernel_rfl) (by kernel_rfl) (by kernel_rfl) (fun _ _ _ h => h) (Or.inl ⟨by rfl, ?hy80⟩) (by assumption) ?rest80
      case hy80 => (intro w hSw; (try dsimp only at hSw); go_simp; try with_reducible rfl)
      try simp only [Act.put, List.getElem_toArray, List.getElem_cons_zero, List.getElem_cons_succ, List.setIfInBounds_toArray, List.set_cons_zero, List.set_cons_succ]
      refine wpAnyH_take (i := 33) (v := ?v81) rfl (by kernel_rfl) (by kernel_rfl) (by kernel_rfl) (fun _ _ _ h => h) (Or.inl ⟨by rfl, ?hy81⟩) (by assumption) ?rest81
      case hy81 => (intro w hSw; (try dsimp only at hSw); go_simp; try with_reducible rfl)
      try simp only [Act.put, List.getElem_toArray, List.getElem_cons_zero, List.getElem_cons_succ, List.setIfInBounds_toArray, List.set_cons_zero, List.set_cons_succ]
      refine wpAnyH_take (i := 34) (v := undef) rfl (by kernel_rfl) (by kernel_rfl) (by kernel_rfl) (fun _ _ _ h => h) (Or.inr ⟨by rfl, rfl⟩) (by assumption) ?rest82
      try simp only [Act.put, List.getElem_toArray, List.getElem_cons_zero, List.getElem_cons_succ, List.setIfInBounds_toArray, List.set_cons_zero, List.set_cons_succ]
      refine wpAnyH_take (i := 35) (v := undef) rfl (by kernel_rfl) (by kernel_rfl) (by kernel_rfl) (fun _ _ _ h => h) (Or.inr ⟨by rfl, rfl⟩) (by assumption) ?rest83
      try simp only [Act.put, List.getElem_toArray, List.getElem_cons_zero, List.getElem_cons_succ, List.setIfInBounds_toArray, List.set_cons_zero, List.set_cons_succ]
      refine wpAnyH_take (i := 36) (v := undef) rfl (by kernel_rfl) (by kernel_rfl) (by kernel_rfl) (fun _ _ _ h => h) (Or.inr ⟨by rfl, rfl⟩) (by assumption) ?rest84
      try simp only [Act.put, List.getElem_toArray, List.getElem_cons_zero, List.getElem_cons_succ, List.setIfInBounds_toArray, List.set_cons_zero, List.set_cons_succ]
      refine wpAnyH_take (i := 37) (v := ?v85) rfl (by kernel_rfl) (by kernel_rfl) (by kernel_rfl) (fun _ _ _ h => h) (Or.inl ⟨by rfl, ?hy85⟩) (by assumption) ?rest85
      case hy85 => (intro w hSw; (try dsimp only at hSw); go_simp; try with_reducible rfl)
      try simp only [Act.put, List.getElem_toArray, List.getElem_cons_zero, List.getElem_cons_succ, List.setIfInBounds_toArray, List.set_cons_zero, List.set_cons_succ]
      refine wpAnyH_take (i := 38) (v := ?v86) rfl (by kernel_rfl) (by kernel_rfl) (by kernel_rfl) (fun _ _ _ h => h) (Or.inl ⟨by rfl, ?hy86⟩) (by assumption) ?rest86
      case hy86 => (intro w hSw; (try dsimp only at hSw); go_simp; try with_reducible rfl)
      try simp only [Act.put, List.getElem_toArray, List.getElem_cons_zero, List.getElem_cons_succ, List.setIfInBounds_toArray, List.set_cons_zero, List.set_cons_succ]
      refine wpAnyH_take (i := 39) (v := ?v87) rfl (by kernel_rfl) (by kernel_rfl) (by kernel_rfl) (fun _ _ _ h => h) (Or.inl ⟨by rfl, ?hy87⟩) (by assumption) ?rest87
      case hy87 => (intro w hSw; (try dsimp only at hSw); go_simp; try with_reducible rfl)
      try simp only [Act.put, List.getElem_toArray, List.getElem_cons_zero, List.getElem_cons_succ, List.setIfInBounds_toArray, List.set_cons_zero, List.set_cons_succ]
      refine wpAnyH_done (by kernel_rfl) ?_ _
      go_wp2
      go_ret
      exact ⟨rfl, R14.below⟩
    · have h32' : ¬ ((32 : Int) < (m0 : Int)) := by omega
      have hnm : nc = mc := by rw [← HNCE.out]; rw [HNCE.out]; exact HK32.out (by rw [HX0.out]; omega)
      subst hnm
      refine wpAnyH_take (i := 32) (v := ?v88) rfl (by kernel_rfl) (by kernel_rfl) (by kernel_rfl) (fun _ _ _ h => h) (Or.inl ⟨by rfl, ?hy88⟩) (by assumption) ?rest88
      case hy88 => (intro w hSw; (try dsimp only at hSw); go_simp; try with_reducible rfl)
      try simp only [Act.put, List.getElem_toArray, List.getElem_cons_zero, List.getElem_cons_succ, List.setIfInBounds_toArray, List.set_cons_zero, List.set_cons_succ]
      refine wpAnyH_take (i := 33) (v := ?v89) rfl (by kernel_rfl) (by kernel_rfl) (by kernel_rfl) (fun _ _ _ h => h) (Or.inl ⟨by rfl, ?hy89⟩) (by assumption) ?rest89
      case hy89 => (intro w hSw; (try dsimp only at hSw); go_simp; try with_reducible rfl)
      try simp only [Act.put, List.getElem_toArray, List.getElem_cons_zero, List.getElem_cons_succ, List.setIfInBounds_toArray, List.set_cons_zero, List.set_cons_succ]
      refine wpAnyH_take (i := 34) (v := ?v90) rfl (by kernel_rfl) (by kernel_rfl) (by kernel_rfl) (fun _ _ _ h => h) (Or.inl ⟨by rfl, ?hy90⟩) (by assumption) ?rest90
      case hy90 => (intro w hSw; refine held_loadG agg32 (.tmp 11) ?_ g11 ?_ nc HNL.out _ hSw.2.1 <;> rfl)
      try simp only [Act.put, List.getElem_toArray, List.getElem_cons_zero, List.getElem_cons_succ, List.setIfInBounds_toArray, List.set_cons_zero, List.set_cons_succ]
      refine wpAnyH_take (i := 35) (v := ?v91) rfl (by kernel_rfl) (by kernel_rfl) (by kernel_rfl) (fun _ _ _ h => h) (Or.inl ⟨by rfl, ?hy91⟩) (by assumption) ?rest91
      case hy91 => (intro w hSw; refine held_loadG agg32 (.tmp 8) ?_ g8 ?_ nc HNL.out _ hSw.1 <;> rfl)
      try simp only [Act.put, List.getElem_toArray, List.getElem_cons_zero, List.getElem_cons_succ, List.setIfInBounds_toArray, List.set_cons_zero, List.set_cons_succ]
      refine wpAnyH_take (i := 36) (v := ?v92) rfl (by kernel_rfl) (by kernel_rfl) (by kernel_rfl) (fun _ _ _ h => h) (Or.inl ⟨by rfl, ?hy92⟩) (by assumption) ?rest92
      case hy92 => (intro w hSw; (try dsimp only at hSw); go_simp; try with_reducible rfl)
      try simp only [Act.put, List.getElem_toArray, List.getElem_cons_zero, List.getElem_cons_succ, List.setIfInBounds_toArray, List.set_cons_zero, List.set_cons_succ]
      refine wpAnyH_take (i := 37) (v := ?v93) rfl (by kernel_rfl) (by kernel_rfl) (by kernel_rfl) (fun _ _ _ h => h) (Or.inl ⟨by rfl, ?hy93⟩) (by assumption) ?rest93
      case hy93 => (intro w hSw; (try dsimp only at hSw); go_simp; try with_reducible rfl)
      try simp only [Act.put, List.getElem_toArray, List.getElem_cons_zero, List.getElem_cons_succ, List.setIfInBounds_toArray, List.set_cons_zero, List.set_cons_succ]
      refine wpAnyH_take (i := 38) (v := ?v94) rfl (by kernel_rfl) (by kernel_rfl) (by kernel_rfl) (fun _ _ _ h => h) (Or.inl ⟨by rfl, ?hy94⟩) (by assumption) ?rest94
      case hy94 => (intro w hSw; (try dsimp only at hSw); go_simp; try with_reducible rfl)
      try simp only [Act.put, List.getElem_toArray, List.getElem_cons_zero, List.getElem_cons_succ, List.setIfInBounds_toArray, List.set_cons_zero, List.set_cons_succ]
      refine wpAnyH_take (i := 39) (v := ?v95) rfl (by kernel_rfl) (by kernel_rfl) (by kernel_rfl) (fun _ _ _ h => h) (Or.inl ⟨by rfl, ?hy95⟩) (by assumption) ?rest95
      case hy95 => (intro w hSw; (try dsimp only at hSw); go_simp; try with_reducible rfl)
      try simp only [Act.put, List.getElem_toArray, List.getElem_cons_zero, List.getElem_cons_succ, List.setIfInBounds_toArray, List.set_cons_zero, List.set_cons_succ]
      refine wpAnyH_done (by kernel_rfl) ?_ _
      go_wp2
      go_ret
      exact ⟨rfl, R14.below⟩
  refine AllReadyH.cons rfl (fun K hK => ?_) AllReadyH.nil
  refine step_alloca rfl _ rfl _ zero16 ?_
  intro g12 W1 Z1 hz1 F1
  have hg12 : w.heap.size ≤ g12 := by have := R0.size; omega
  have d8 : g8 ≠ g12 := by have := X0.lt; omega
  have d10 : g10 ≠ g12 := by have := K0.lt; omega
  have d11 : g11 ≠ g12 := by have := N0.lt; omega
  have dV := rds_lt V0
  have hdV : (∀ a, A7 = some a → a.block ≠ g12) := fun a ha => by have := dV a ha; omega
  have X1 := X0.frm F1 (fun h => h)
  have K1 := K0.frm F1 (fun h => h)
  have N1 := N0.frm F1 (fun h => h)
  have V1 := V0.frm F1 (fun _ _ _ h => h)
  have R1 := R0.frm F1 (fun _ h => h.elim)
  refine hK.out _ _ (K1) (fun hHeld => ?_)
  clear hK K
  refine wpAnyH_ready (rs := [7]) (by kernel_rfl) (by simp) ?_
  refine AllReadyH.cons rfl (fun K hK => ?_) AllReadyH.nil
  go_simp
  have F2 : Frm (fun _ => False) W1 (W1.alloc (.cells #[.slice a1 Y cap1, .slice A2 (m1 - Y) (cap1 - Y)] 24)) := Frm.alloc _ _ _
  have Q2 := alloc_rds W1 [.slice a1 Y cap1, .slice A2 (m1 - Y) (cap1 - Y)] 24 (0, 0)
  have X2 := X1.frm F2 (fun h => h)
  have K2 := K1.frm F2 (fun h => h)
  have N2 := N1.frm F2 (fun h => h)
  have V2 := V1.frm F2 (fun _ _ _ h => h)
  have R2 := R1.frm F2 (fun _ h => h.elim)
  have Z2 := Z1.frm F2 (fun h => h)
  obtain ⟨W2, hW2⟩ : ∃ W', W' = W1.alloc (.cells #[.slice a1 Y cap1, .slice A2 (m1 - Y) (cap1 - Y)] 24) := ⟨_, rfl⟩
  rw [show W1.alloc (.cells [.slice a1 Y cap1, .slice A2 (m1 - Y) (cap1 - Y)].toArray 24) = W2 from hW2.symm] at Q2
  rw [← hW2] at F2 X2 K2 N2 V2 R2 Z2 ⊢
  clear hW2
  refine hK.out _ _ (K2) (fun hHeld => ?_)
  clear hK K
  refine wpAnyH_ready (rs := [8]) (by kernel_rfl) (by simp) ?_
  refine AllReadyH.cons rfl (fun K hK => ?_) AllReadyH.nil
  go_simp
  refine (short_now w _ kk HKl.out (some ⟨W1.heap.size, 0, none⟩) 2 2 [.slice a1 Y cap1, .slice A2 (m1 - Y) (cap1 - Y)] [x1.take Y, x1.drop Y] x1 Q2 (HAL.out _ R2) HFL.out R2 (by omega) (by simp)).mono ?_
  rintro e W3 ⟨rfl, F3, _⟩
  rw [HNCE.out]
  have X3 := X2.frm F3 (fun h => h)
  have K3 := K2.frm F3 (fun h => h)
  have N3 := N2.frm F3 (fun h => h)
  have V3 := V2.frm F3 (fun _ _ _ h => h)
  have R3 := R2.frm F3 (fun _ h => h.elim)
  have Z3 := Z2.frm F3 (fun h => h)
  refine hK.out _ _ (K3) (fun hHeld => ?_)
  clear hK K
  refine wpAnyH_ready (rs := [10]) (by kernel_rfl) (by simp) ?_
  refine AllReadyH.cons rfl (fun K hK => ?_) AllReadyH.nil
  refine step_storea agg16 rfl (.tmp 12) (.tmp 54) rfl g12 (cellsB (nc.take 16)) rfl rfl _ _ Z3 HSC.out rfl (cellsB_one _) ?_
  intro W9 Z9 F9
  have X9 := X3.frm F9 d8
  have N9 := N3.frm F9 d11
  have K9 := K3.frm F9 d10
  have V9 := V3.frm F9 (fun _ a ha => hdV a ha)
  have R9 := R3.frm F9 (fun k hk => by omega)
  refine hK.out _ _ (K9) (fun hHeld => ?_)
  clear hK K
  refine wpAnyH_done (by kernel_rfl) ?_ _
  have FD : Frm (fun _ => False) W9 W9.drew := (Frm.refl _ _).drew
  have X10 := X9.frm FD (fun h => h)
  have N10 := N9.frm FD (fun h => h)
  have Z10 := Z9.frm FD (fun h => h)
  have V10 := V9.frm FD (fun _ _ _ h => h)
  have R10 := R9.frm FD (fun _ h => h.elim)
  clear hHeld
  go_wp2_with fail
  refine wp_region_held_drew (S := fun W => Blk W g8 25 (cellsB mc).toArray ∧ Blk W g11 25 (cellsB nc).toArray ∧ Blk W g12 49 (cellsB (nc.take 16)).toArray) (by kernel_rfl) (⟨X10, N10, Z10⟩) ?_
  intro hHeld
  obtain ⟨W10, hW10⟩ : ∃ W', W' = W9.drew := ⟨_, rfl⟩
  rw [← hW10] at X10 N10 Z10 V10 R10 hHeld ⊢
  clear hW10 FD X9 N9 Z9 V9 R9
  refine wpAnyH_take (i := 0) (v := ?v96) rfl (by kernel_rfl) (by kernel_rfl) (by kernel_rfl) (fun _ _ _ h => h) (Or.inl ⟨by rfl, ?hy96⟩) (by assumption) ?rest96
  case hy96 => (intro w hSw; (try dsimp only at hSw); go_simp; try with_reducible rfl)
  try simp only [Act.put, List.getElem_toArray, List.getElem_cons_zero, List.setIfInBounds_toArray, List.set_cons_zero, List.set_cons_succ]
  refine wpAnyH_take (i := 1) (v := ?v97) rfl (by kernel_rfl) (by kernel_rfl) (by kernel_rfl) (fun _ _ _ h => h) (Or.inl ⟨by rfl, ?hy97⟩) (by assumption) ?rest97
  case hy97 => (intro w hSw; (try dsimp only at hSw); go_simp; try with_reducible rfl)
  try simp only [Act.put, List.getElem_toArray, List.getElem_cons_zero, List.getElem_cons_succ, List.setIfInBounds_toArray, List.set_cons_zero, List.set_cons_succ]
  refine wpAnyH_take (i := 2) (v := ?v98) rfl (by kernel_rfl) (by kernel_rfl) (by kernel_rfl) (fun _ _ _ h => h) (Or.inl ⟨by rfl, ?hy98⟩) (by assumption) ?rest98
  case hy98 => (intro w hSw; (try dsimp only at hSw); go_simp; try with_reducible rfl)
  try simp only [Act.put, List.getElem_toArray, List.getElem_cons_zero, List.getElem_cons_succ, List.setIfInBounds_toArray, List.set_cons_zero, List.set_cons_succ]
  refine wpAnyH_take (i := 3) (v := ?v99) rfl (by kernel_rfl) (by kernel_rfl) (by kernel_rfl) (fun _ _ _ h => h) (Or.inl ⟨by rfl, ?hy99⟩) (by assumption) ?rest99
  case hy99 => (intro w hSw; (try dsimp only at hSw); go_simp; try with_reducible rfl)
  try simp only [Act.put, List.getElem_toArray, List.getElem_cons_zero, List.getElem_cons_succ, List.setIfInBounds_toArray, List.set_cons_zero, List.set_cons_succ]
  refine wpAnyH_take (i := 4) (v := ?v100) rfl (by kernel_rfl) (by kernel_rfl) (by kernel_rfl) (fun _ _ _ h => h) (Or.inl ⟨by rfl, ?hy100⟩) (by assumption) ?rest100
  case hy100 => (intro w hSw; (try dsimp only at hSw); go_simp; try with_reducible rfl)
  try simp only [Act.put, List.getElem_toArray, List.getElem_cons_zero, List.getElem_cons_succ, List.setIfInBounds_toArray, List.set_cons_zero, List.set_cons_succ]
  refine wpAnyH_take (i := 5) (v := ?v101) rfl (by kernel_rfl) (by kernel_rfl) (by kernel_rfl) (fun _ _ _ h => h) (Or.inl ⟨by rfl, ?hy101⟩) (by assumption) ?rest101
  case hy101 => (intro w hSw; refine held_cut0 (.tmp 58) (.tmp 59) ?_ a1 m1 cap1 Y ?_ ?_ hcY <;> rfl)
  try simp only [Act.put, List.getElem_toArray, List.getElem_cons_zero, List.getElem_cons_succ, List.setIfInBounds_toArray, List.set_cons_zero, List.set_cons_succ]
  refine wpAnyH_take (i := 6) (v := ?v102) rfl (by kernel_rfl) (by kernel_rfl) (by kernel_rfl) (fun _ _ _ h => h) (Or.inl ⟨by rfl, ?hy102⟩) (by assumption) ?rest102
  case hy102 => (intro w hSw; (try dsimp only at hSw); go_simp; try with_reducible rfl)
  try simp only [Act.put, List.getElem_toArray, List.getElem_cons_zero, List.getElem_cons_succ, List.setIfInBounds_toArray, List.set_cons_zero, List.set_cons_succ]
  refine wpAnyH_take (i := 7) (v := ?v103) rfl (by kernel_rfl) (by kernel_rfl) (by kernel_rfl) (fun _ _ _ h => h) (Or.inl ⟨by rfl, ?hy103⟩) (by assumption) ?rest103
  case hy103 => (intro w hSw; (try dsimp only at hSw); go_simp; try with_reducible rfl)
  try simp only [Act.put, List.getElem_toArray, List.getElem_cons_zero, List.getElem_cons_succ, List.setIfInBounds_toArray, List.set_cons_zero, List.set_cons_succ]
  refine wpAnyH_take (i := 8) (v := ?v104) rfl (by kernel_rfl) (by kernel_rfl) (by kernel_rfl) (fun _ _ _ h => h) (Or.inl ⟨by rfl, ?hy104⟩) (by assumption) ?rest104
  case hy104 => (intro w hSw; refine held_cut1 (.tmp 61) (.tmp 62) ?_ a1 A2 m1 cap1 Y ?_ ?_ hYm HA2.out <;> rfl)
  try simp only [Act.put, List.getElem_toArray, List.getElem_cons_zero, List.getElem_cons_succ, List.setIfInBounds_toArray, List.set_cons_zero, List.set_cons_succ]
  refine wpAnyH_take (i := 11) (v := ?v105) rfl (by kernel_rfl) (by kernel_rfl) (by kernel_rfl) (fun _ _ _ h => h) (Or.inl ⟨by rfl, ?hy105⟩) (by assumption) ?rest105
  case hy105 => (intro w hSw; refine held_loadG agg32 (.tmp 8) ?_ g8 ?_ mc HML.out _ hSw.1 <;> rfl)
  try simp only [Act.put, List.getElem_toArray, List.getElem_cons_zero, List.getElem_cons_succ, List.setIfInBounds_toArray, List.set_cons_zero, List.set_cons_succ]
  refine wpAnyH_ready (rs := [9]) (by kernel_rfl) (by simp) ?_
  refine AllReadyH.cons rfl (fun K hK => ?_) AllReadyH.nil
  go_simp
  have F11 : Frm (fun _ => False) W10 (W10.alloc (.cells #[.slice a1 Y cap1, .slice none 0 0, .slice A2 (m1 - Y) (cap1 - Y)] 24)) := Frm.alloc _ _ _
  have Q11 := alloc_rds W10 [.slice a1 Y cap1, .slice none 0 0, .slice A2 (m1 - Y) (cap1 - Y)] 24 (0, 0)
  have X11 := X10.frm F11 (fun h => h)
  have N11 := N10.frm F11 (fun h => h)
  have Z11 := Z10.frm F11 (fun h => h)
  have V11 := V10.frm F11 (fun _ _ _ h => h)
  have R11 := R10.frm F11 (fun _ h => h.elim)
  obtain ⟨W11, hW11⟩ : ∃ W', W' = W10.alloc (.cells #[.slice a1 Y cap1, .slice none 0 0, .slice A2 (m1 - Y) (cap1 - Y)] 24) := ⟨_, rfl⟩
  rw [show W10.alloc (.cells [.slice a1 Y cap1, .slice none 0 0, .slice A2 (m1 - Y) (cap1 - Y)].toArray 24) = W11 from hW11.symm] at Q11
  rw [← hW11] at F11 X11 N11 Z11 V11 R11 ⊢
  clear hW11
  refine hK.out _ _ (⟨X11, N11, Z11⟩) (fun hHeld => ?_)
  clear hK K
  refine wpAnyH_ready (rs := [10]) (by kernel_rfl) (by simp) ?_
  refine AllReadyH.cons rfl (fun K hK => ?_) AllReadyH.nil
  go_simp
  refine (mac_now w _ a0 m0 cap0 x0 (some ⟨W10.heap.size, 0, none⟩) 3 3 [.slice a1 Y cap1, .slice none 0 0, .slice A2 (m1 - Y) (cap1 - Y)] [x1.take Y, [], x1.drop Y] x1 (HR0.out.below R11.below) hc0 (by omega) Q11 (HAL3.out _ R11) HFL3.out R11 (by omega) (by simp)).mono ?_
  rintro e W12 ⟨rfl, F12, _⟩
  rw [HMCE.out]
  have X12 := X11.frm F12 (fun h => h)
  have N12 := N11.frm F12 (fun h => h)
  have Z12 := Z11.frm F12 (fun h => h)
  have V12 := V11.frm F12 (fun _ _ _ h => h)
  have R12 := R11.frm F12 (fun _ h => h.elim)
  refine hK.out _ _ (⟨X12, N12, Z12⟩) (fun hHeld => ?_)
  clear hK K
  refine wpAnyH_take (i := 12) (v := ?v106) rfl (by kernel_rfl) (by kernel_rfl) (by kernel_rfl) (fun _ _ _ h => h) (Or.inl ⟨by rfl, ?hy106⟩) (by assumption) ?rest106
  case hy106 => (intro w hSw; (try dsimp only at hSw); go_simp; try with_reducible rfl)
  try simp only [Act.put, List.getElem_toArray, List.getElem_cons_zero, List.getElem_cons_succ, List.setIfInBounds_toArray, List.set_cons_zero, List.set_cons_succ]
  refine wpAnyH_take (i := 13) (v := ?v107) rfl (by kernel_rfl) (by kernel_rfl) (by kernel_rfl) (fun _ _ _ h => h) (Or.inl ⟨by rfl, ?hy107⟩) (by assumption) ?rest107
  case hy107 => (intro w hSw; (try dsimp only at hSw); go_simp; try with_reducible rfl)
  try simp only [Act.put, List.getElem_toArray, List.getElem_cons_zero, List.getElem_cons_succ, List.setIfInBounds_toArray, List.set_cons_zero, List.set_cons_succ]
  refine wpAnyH_take (i := 14) (v := ?v108) rfl (by kernel_rfl) (by kernel_rfl) (by kernel_rfl) (fun _ _ _ h => h) (Or.inl ⟨by rfl, ?hy108⟩) (by assumption) ?rest108
  case hy108 => (intro w hSw; (try dsimp only at hSw); go_simp; try with_reducible rfl)
  try simp only [Act.put, List.getElem_toArray, List.getElem_cons_zero, List.getElem_cons_succ, List.setIfInBounds_toArray, List.set_cons_zero, List.set_cons_succ]
  refine wpAnyH_take (i := 15) (v := ?v109) rfl (by kernel_rfl) (by kernel_rfl) (by kernel_rfl) (fun _ _ _ h => h) (Or.inl ⟨by rfl, ?hy109⟩) (by assumption) ?rest109
  case hy109 => (intro w hSw; (try dsimp only at hSw); go_simp; try with_reducible rfl)
  try simp only [Act.put, List.getElem_toArray, List.getElem_cons_zero, List.getElem_cons_succ, List.setIfInBounds_toArray, List.set_cons_zero, List.set_cons_succ]
  refine wpAnyH_take (i := 16) (v := ?v110) rfl (by kernel_rfl) (by kernel_rfl) (by kernel_rfl) (fun _ _ _ h => h) (Or.inl ⟨by rfl, ?hy110⟩) (by assumption) ?rest110
  case hy110 => (intro w hSw; (try dsimp only at hSw); go_simp; try with_reducible rfl)
  try simp only [Act.put, List.getElem_toArray, List.getElem_cons_zero, List.getElem_cons_succ, List.setIfInBounds_toArray, List.set_cons_zero, List.set_cons_succ]
  refine wpAnyH_take (i := 19) (v := ?v111) rfl (by kernel_rfl) (by kernel_rfl) (by kernel_rfl) (fun _ _ _ h => h) (Or.inl ⟨by rfl, ?hy111⟩) (by assumption) ?rest111
  case hy111 => (intro w hSw; refine held_loadG agg32 (.tmp 8) ?_ g8 ?_ mc HML.out _ hSw.1 <;> rfl)
  try simp only [Act.put, List.getElem_toArray, List.getElem_cons_zero, List.getElem_cons_succ, List.setIfInBounds_toArray, List.set_cons_zero, List.set_cons_succ]
  refine wpAnyH_ready (rs := [17]) (by kernel_rfl) (by simp) ?_
  refine AllReadyH.cons rfl (fun K hK => ?_) AllReadyH.nil
  go_simp
  have F13 : Frm (fun _ => False) W12 (W12.alloc (.cells #[.slice a1 m1 cap1] 24)) := Frm.alloc _ _ _
  have Q13 := alloc_rds W12 [.slice a1 m1 cap1] 24 (0, 0)
  have X13 := X12.frm F13 (fun h => h)
  have N13 := N12.frm F13 (fun h => h)
  have Z13 := Z12.frm F13 (fun h => h)
  have V13 := V12.frm F13 (fun _ _ _ h => h)
  have R13 := R12.frm F13 (fun _ h => h.elim)
  obtain ⟨W13, hW13⟩ : ∃ W', W' = W12.alloc (.cells #[.slice a1 m1 cap1] 24) := ⟨_, rfl⟩
  rw [show W12.alloc (.cells [.slice a1 m1 cap1].toArray 24) = W13 from hW13.symm] at Q13
  rw [← hW13] at F13 X13 N13 Z13 V13 R13 ⊢
  clear hW13
  refine hK.out _ _ (⟨X13, N13, Z13⟩) (fun hHeld => ?_)
  clear hK K
  refine wpAnyH_ready (rs := [18]) (by kernel_rfl) (by simp) ?_
  refine AllReadyH.cons rfl (fun K hK => ?_) AllReadyH.nil
  go_simp
  refine (mac_now w _ A7 (m0 + 3) c7 (x0 ++ [0, 0, 0]) (some ⟨W12.heap.size, 0, none⟩) 1 1 [.slice a1 m1 cap1] [x1] x1 V13 hc7 (by omega) Q13 (HAL1.out _ R13) (by simp) R13 (by omega) (by simp)).mono ?_
  rintro e W14 ⟨rfl, F14, _⟩
  rw [HZ3.out]
  have X14 := X13.frm F14 (fun h => h)
  have N14 := N13.frm F14 (fun h => h)
  have Z14 := Z13.frm F14 (fun h => h)
  have V14 := V13.frm F14 (fun _ _ _ h => h)
  have R14 := R13.frm F14 (fun _ h => h.elim)
  refine hK.out _ _ (⟨X14, N14, Z14⟩) (fun hHeld => ?_)
  clear hK K
  refine wpAnyH_take (i := 20) (v := ?v112) rfl (by kernel_rfl) (by kernel_rfl) (by kernel_rfl) (fun _ _ _ h => h) (Or.inl ⟨by rfl, ?hy112⟩) (by assumption) ?rest112
  case hy112 => (intro w hSw; (try dsimp only at hSw); go_simp; try with_reducible rfl)
  try simp only [Act.put, List.getElem_toArray, List.getElem_cons_zero, List.getElem_cons_succ, List.setIfInBounds_toArray, List.set_cons_zero, List.set_cons_succ]
  refine wpAnyH_take (i := 21) (v := ?v113) rfl (by kernel_rfl) (by kernel_rfl) (by kernel_rfl) (fun _ _ _ h => h) (Or.inl ⟨by rfl, ?hy113⟩) (by assumption) ?rest113
  case hy113 => (intro w hSw; (try dsimp only at hSw); go_simp; try with_reducible rfl)
  try simp only [Act.put, List.getElem_toArray, List.getElem_cons_zero, List.getElem_cons_succ, List.setIfInBounds_toArray, List.set_cons_zero, List.set_cons_succ]
  refine wpAnyH_take (i := 22) (v := ?v114) rfl (by kernel_rfl) (by kernel_rfl) (by kernel_rfl) (fun _ _ _ h => h) (Or.inl ⟨by rfl, ?hy114⟩) (by assumption) ?rest114
  case hy114 => (intro w hSw; (try dsimp only at hSw); go_simp; try with_reducible rfl)
  try simp only [Act.put, List.getElem_toArray, List.getElem_cons_zero, List.getElem_cons_succ, List.setIfInBounds_toArray, List.set_cons_zero, List.set_cons_succ]
  refine wpAnyH_take (i := 23) (v := ?v115) rfl (by kernel_rfl) (by kernel_rfl) (by kernel_rfl) (fun _ _ _ h => h) (Or.inl ⟨by rfl, ?hy115⟩) (by assumption) ?rest115
  case hy115 => (intro w hSw; (try dsimp only at hSw); go_simp; try with_reducible rfl)
  try simp only [Act.put, List.getElem_toArray, List.getElem_cons_zero, List.getElem_cons_succ, List.setIfInBounds_toArray, List.set_cons_zero, List.set_cons_succ]
  refine wpAnyH_take (i := 24) (v := ?v116) rfl (by kernel_rfl) (by kernel_rfl) (by kernel_rfl) (fun _ _ _ h => h) (Or.inl ⟨by rfl, ?hy116⟩) (by assumption) ?rest116
  case hy116 => (intro w hSw; refine held_conv (.tmp 78) ?_ g12 16 16 ?_ (nc.take 16) (nc.take 16) _ hSw.2.2 (by rw [HSL.out]; exact Nat.le_refl _) (by simp [List.take_take]) <;> rfl)
  try simp only [Act.put, List.getElem_toArray, List.getElem_cons_zero, List.getElem_cons_succ, List.setIfInBounds_toArray, List.set_cons_zero, List.set_cons_succ]
  refine wpAnyH_take (i := 25) (v := ?v117) rfl (by kernel_rfl) (by kernel_rfl) (by kernel_rfl) (fun _ _ _ h => h) (Or.inl ⟨by rfl, ?hy117⟩) (by assumption) ?rest117
  case hy117 => (intro w hSw; (try dsimp only at hSw); go_simp; try with_reducible rfl)
  try simp only [Act.put, List.getElem_toArray, List.getElem_cons_zero, List.getElem_cons_succ, List.setIfInBounds_toArray, List.set_cons_zero, List.set_cons_succ]
  refine wpAnyH_take (i := 26) (v := ?v118) rfl (by kernel_rfl) (by kernel_rfl) (by kernel_rfl) (fun _ _ _ h => h) (Or.inl ⟨by rfl, ?hy118⟩) (by assumption) ?rest118
  case hy118 => (intro w hSw; refine held_conv (.tmp 80) ?_ g11 16 32 ?_ nc (nc.take 16) _ hSw.2.1 (by rw [HNL.out]; omega) rfl <;> rfl)
  try simp only [Act.put, List.getElem_toArray, List.getElem_cons_zero, List.getElem_cons_succ, List.setIfInBounds_toArray, List.set_cons_zero, List.set_cons_succ]
  refine wpAnyH_take (i := 27) (v := ?v119) rfl (by kernel_rfl) (by kernel_rfl) (by kernel_rfl) (fun _ _ _ h => h) (Or.inl ⟨by rfl, ?hy119⟩) (by assumption) ?rest119
  case hy119 => (intro w hSw; (try dsimp only at hSw); go_simp; try with_reducible rfl)
  try simp only [Act.put, List.getElem_toArray, List.getElem_cons_zero, List.getElem_cons_succ, List.setIfInBounds_toArray, List.set_cons_zero, List.set_cons_succ]
  refine wpAnyH_take (i := 28) (v := ?v120) rfl (by kernel_rfl) (by kernel_rfl) (by kernel_rfl) (fun _ _ _ h => h) (Or.inl ⟨by rfl, ?hy120⟩) (by assumption) ?rest120
  case hy120 => (intro w hSw; (try dsimp only at hSw); go_simp; try with_reducible rfl)
  try simp only [Act.put, List.getElem_toArray, List.getElem_cons_zero, List.getElem_cons_succ, List.setIfInBounds_toArray, List.set_cons_zero, List.set_cons_succ]
  refine wpAnyH_take (i := 29) (v := ?v121) rfl (by kernel_rfl) (by kernel_rfl) (by kernel_rfl) (fun _ _ _ h => h) (Or.inl ⟨by rfl, ?hy121⟩) (by assumption) ?rest121
  case hy121 => (intro w hSw; (try dsimp only at hSw); go_simp; try with_reducible rfl)
  try simp only [Act.put, List.getElem_toArray, List.getElem_cons_zero, List.getElem_cons_succ, List.setIfInBounds_toArray, List.set_cons_zero, List.set_cons_succ]
  refine wpAnyH_take (i := 30) (v := ?v122) rfl (by kernel_rfl) (by kernel_rfl) (by kernel_rfl) (fun _ _ _ h => h) (Or.inl ⟨by rfl, ?hy122⟩) (by assumption) ?rest122
  case hy122 => (intro w hSw; (try dsimp only at hSw); go_simp; try with_reducible rfl)
  try simp only [Act.put, List.getElem_toArray, List.getElem_cons_zero, List.getElem_cons_succ, List.setIfInBounds_toArray, List.set_cons_zero, List.set_cons_succ]
  refine wpAnyH_take (i := 31) (v := ?v123) rfl (by kernel_rfl) (by kernel_rfl) (by kernel_rfl) (fun _ _ _ h => h) (Or.inl ⟨by rfl, ?hy123⟩) (by assumption) ?rest123
  case hy123 => (intro w hSw; (try dsimp only at hSw); go_simp; try with_reducible rfl)
  try simp only [Act.put, List.getElem_toArray, List.getElem_cons_zero, List.getElem_cons_succ, List.setIfInBounds_toArray, List.set_cons_zero, List.set_cons_succ]
  by_cases h32 : 32 < m0
  · have h32' : (32 : Int) < (m0 : Int) := by omega
    refine wpAnyH_take (i := 32) (v := ?v124) rfl (by kernel_rfl) (by kernel_rfl) (by kernel_rfl) (fun _ _ _ h => h) (Or.inl ⟨by rfl, ?hy124⟩) (by assumption) ?rest124
    case hy124 => (intro w hSw; (try dsimp only at hSw); go_simp; try with_reducible rfl)
    try simp only [Act.put, List.getElem_toArray, List.getElem_cons_zero, List.getElem_cons_succ, List.setIfInBounds_toArray, List.set_cons_zero, List.set_cons_succ]
    refine wpAnyH_take (i := 33) (v := ?v125) rfl (by kernel_rfl) (by kernel_rfl) (by kernel_rfl) (fun _ _ _ h => h) (Or.inl ⟨by rfl, ?hy125⟩) (by assumption) ?rest125
    case hy125 => (intro w hSw; (try dsimp only at hSw); go_simp; try with_reducible rfl)
    try simp only [Act.put, List.getElem_toArray, List.getElem_cons_zero, List.getElem_cons_succ, List.setIfInBounds_toArray, List.set_cons_zero, List.set_cons_succ]
    refine wpAnyH_take (i := 34) (v := undef) rfl (by kernel_rfl) (by kernel_rfl) (by kernel_rfl) (fun _ _ _ h => h) (Or.inr ⟨by rfl, rfl⟩) (by assumption) ?rest126
    try simp only [Act.put, List.getElem_toArray, List.getElem_cons_zero, List.getElem_cons_succ, List.setIfInBounds_toArray, List.set_cons_zero, List.set_cons_succ]
    refine wpAnyH_take (i := 35) (v := undef) rfl (by kernel_rfl) (by kernel_rfl) (by kernel_rfl) (fun _ _ _ h => h) (Or.inr ⟨by rfl, rfl⟩) (by assumption) ?rest127
    try simp only [Act.put, List.getElem_toArray, List.getElem_cons_zero, List.getElem_cons_succ, List.setIfInBounds_toArray, List.set_cons_zero, List.set_cons_succ]
    refine wpAnyH_take (i := 36) (v := undef) rfl (by kernel_rfl) (by kernel_rfl) (by kernel_rfl) (fun _ _ _ h => h) (Or.inr ⟨by rfl, rfl⟩) (by assumption) ?rest128
    try simp only [Act.put, List.getElem_toArray, List.getElem_cons_zero, List.getElem_cons_succ, List.setIfInBounds_toArray, List.set_cons_zero, List.set_cons_succ]
    refine wpAnyH_take (i := 37) (v := ?v129) rfl (by kernel_rfl) (by kernel_rfl) (by kernel_rfl) (fun _ _ _ h => h) (Or.inl ⟨by rfl, ?hy129⟩) (by assumption) ?rest129
    case hy129 => (intro w hSw; (try dsimp only at hSw); go_simp; try with_reducible rfl)
    try simp only [Act.put, List.getElem_toArray, List.getElem_cons_zero, List.getElem_cons_succ, List.setIfInBounds_toArray, List.set_cons_zero, List.set_cons_succ]
    refine wpAnyH_take (i := 38) (v := ?v130) rfl (by kernel_rfl) (by kernel_rfl) (by kernel_rfl) (fun _ _ _ h => h) (Or.inl ⟨by rfl, ?hy130⟩) (by assumption) ?rest130
    case hy130 => (intro w hSw; (try dsimp only at hSw); go_simp; try with_reducible rfl)
    try simp only [Act.put, List.getElem_toArray, List.getElem_cons_zero, List.getElem_cons_succ, List.setIfInBounds_toArray, List.set_cons_zero, List.set_cons_succ]
    refine wpAnyH_take (i := 39) (v := ?v131) rfl (by kernel_rfl) (by kernel_rfl) (by kernel_rfl) (fun _ _ _ h => h) (Or.inl ⟨by rfl, ?hy131⟩) (by assumption) ?rest131
    case hy131 => (intro w hSw; (try dsimp only at hSw); go_simp; try with_reducible rfl)
    try simp only [Act.put, List.getElem_toArray, List.getElem_cons_zero, List.getElem_cons_succ, List.setIfInBounds_toArray, List.set_cons_zero, List.set_cons_succ]
    refine wpAnyH_done (by kernel_rfl) ?_ _
    go_wp2
    go_ret
    exact ⟨rfl, R14.below⟩
  · have h32' : ¬ ((32 : Int) < (m0 : Int)) := by omega
    have hnm : nc = mc := by rw [← HNCE.out]; rw [HNCE.out]; exact HK32.out (by rw [HX0.out]; omega)
    subst hnm
    refine wpAnyH_take (i := 32) (v := ?v132) rfl (by kernel_rfl) (by kernel_rfl) (by kernel_rfl) (fun _ _ _ h => h) (Or.inl ⟨by rfl, ?hy132⟩) (by assumption) ?rest132
    case hy132 => (intro w hSw; (try dsimp only at hSw); go_simp; try with_reducible rfl)
    try simp only [Act.put, List.getElem_toArray, List.getElem_cons_zero, List.getElem_cons_succ, List.setIfInBounds_toArray, List.set_cons_zero, List.set_cons_succ]
    refine wpAnyH_take (i := 33) (v := ?v133) rfl (by kernel_rfl) (by kernel_rfl) (by kernel_rfl) (fun _ _ _ h => h) (Or.inl ⟨by rfl, ?hy133⟩) (by assumption) ?rest133
    case hy133 => (intro w hSw; (try dsimp only at hSw); go_simp; try with_reducible rfl)
    try simp only [Act.put, List.getElem_toArray, List.getElem_cons_zero, List.getElem_cons_succ, List.setIfInBounds_toArray, List.set_cons_zero, List.set_cons_succ]
    refine wpAnyH_take (i := 34) (v := ?v134) rfl (by kernel_rfl) (by kernel_rfl) (by kernel_rfl) (fun _ _ _ h => h) (Or.inl ⟨by rfl, ?hy134⟩) (by assumption) ?rest134
    case hy134 => (intro w hSw; refine held_loadG agg32 (.tmp 11) ?_ g11 ?_ nc HNL.out _ hSw.2.1 <;> rfl)
    try simp only [Act.put, List.getElem_toArray, List.getElem_cons_zero, List.getElem_cons_succ, List.setIfInBounds_toArray, List.set_cons_zero, List.set_cons_succ]
    refine wpAnyH_take (i := 35) (v := ?v135) rfl (by kernel_rfl) (by kernel_rfl) (by kernel_rfl) (fun _ _ _ h => h) (Or.inl ⟨by rfl, ?hy135⟩) (by assumption) ?rest135
    case hy135 => (intro w hSw; refine held_loadG agg32 (.tmp 8) ?_ g8 ?_ nc HNL.out _ hSw.1 <;> rfl)
    try simp only [Act.put, List.getElem_toArray, List.getElem_cons_zero, List.getElem_cons_succ, List.setIfInBounds_toArray, List.set_cons_zero, List.set_cons_succ]
    refine wpAnyH_take (i := 36) (v := ?v136) rfl (by kernel_rfl) (by kernel_rfl) (by kernel_rfl) (fun _ _ _ h => h) (Or.inl ⟨by rfl, ?hy136⟩) (by assumption) ?rest136
    case hy136 => (intro w hSw; (try dsimp only at hSw); go_simp; try with_reducible rfl)
    try simp only [Act.put, List.getElem_toArray, List.getElem_cons_zero, List.getElem_cons_succ, List.setIfInBounds_toArray, List.set_cons_zero, List.set_cons_succ]
    refine wpAnyH_take (i := 37) (v := ?v137) rfl (by kernel_rfl) (by kernel_rfl) (by kernel_rfl) (fun _ _ _ h => h) (Or.inl ⟨by rfl, ?hy137⟩) (by assumption) ?rest137
    case hy137 => (intro w hSw; (try dsimp only at hSw); go_simp; try with_reducible rfl)
    try simp only [Act.put, List.getElem_toArray, List.getElem_cons_zero, List.getElem_cons_succ, List.setIfInBounds_toArray, List.set_cons_zero, List.set_cons_succ]
    refine wpAnyH_take (i := 38) (v := ?v138) rfl (by kernel_rfl) (by kernel_rfl) (by kernel_rfl) (fun _ _ _ h => h) (Or.inl ⟨by rfl, ?hy138⟩) (by assumption) ?rest138
    case hy138 => (intro w hSw; (try dsimp only at hSw); go_simp; try with_reducible rfl)
    try simp only [Act.put, List.getElem_toArray, List.getElem_cons_zero, List.getElem_cons_succ, List.setIfInBounds_toArray, List.set_cons_zero, List.set_cons_succ]
    refine wpAnyH_take (i := 39) (v := ?v139) rfl (by kernel_rfl) (by kernel_rfl) (by kernel_rfl) (fun _ _ _ h => h) (Or.inl ⟨by rfl, ?hy139⟩) (by assumption) ?rest139
    case hy139 => (intro w hSw; (try dsimp only at hSw); go_simp; try with_reducible rfl)
    try simp only [Act.put, List.getElem_toArray, List.getElem_cons_zero, List.getElem_cons_succ, List.setIfInBounds_toArray, List.set_cons_zero, List.set_cons_succ]
    refine wpAnyH_done (by kernel_rfl) ?_ _
    go_wp2
    go_ret
    exact ⟨rfl, R14.below⟩
end Go.Proofs.YtbicjcpdcopbhaaDoor
