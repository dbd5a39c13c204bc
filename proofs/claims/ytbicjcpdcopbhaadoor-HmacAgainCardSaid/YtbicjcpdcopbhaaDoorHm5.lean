/-
  Short codes; rows compared; keys derived.
-/
import Derived.Test.YtbicjcpdcopbhaaDoorHm4
import Derived.Test.YtbicjcpdcopbhaaDoorWr32
namespace Go.Proofs.YtbicjcpdcopbhaaDoor
set_option linter.unusedVariables false
open Go.RowKit

theorem agg16 : Agg Tryd.prog 49 16 := Agg.of (by kernel_rfl) (by kernel_rfl)
theorem zero16 : (Tryd.prog.info? 49).map (fun i => i.zero) = some (some (.agg (cellsB (List.replicate 16 0)).toArray)) := by kernel_rfl
theorem under16 : Tryd.prog.underlying 49 = some (.array 16 5) := by kernel_rfl
theorem aggK : Agg Tryd.prog 43 32 := Agg.of (by kernel_rfl) (by kernel_rfl)
theorem zeroK : (Tryd.prog.info? 43).map (fun i => i.zero) = some (some (.agg (cellsB (List.replicate 32 0)).toArray)) := by kernel_rfl
theorem underK32 : Tryd.prog.underlying 43 = some (.array 32 5) := by kernel_rfl
theorem slK (g : Nat) (w : World) : Sem.run Tryd.prog (Instr.sliceAt 43 (.pointer (some ⟨g, 0, none⟩)) none none none) w = .ok (.slice (some ⟨g, 0, none⟩) 32 32) w := run_slice_arr0 (P := Tryd.prog) (t := 43) (e := 5) (N := 32) underK32 size8 g 0 (by omega) w
theorem sl16 (g : Nat) (w : World) : Sem.run Tryd.prog (Instr.sliceAt 49 (.pointer (some ⟨g, 0, none⟩)) none none none) w = .ok (.slice (some ⟨g, 0, none⟩) 16 16) w := run_slice_arr0 (P := Tryd.prog) (t := 49) (e := 5) (N := 16) under16 size8 g 0 (by omega) w
theorem sl32 (g : Nat) (w : World) : Sem.run Tryd.prog (Instr.sliceAt 25 (.pointer (some ⟨g, 0, none⟩)) none none none) w = .ok (.slice (some ⟨g, 0, none⟩) 32 32) w := run_slice_arr0 (P := Tryd.prog) (t := 25) (e := 5) (N := 32) under25 size8 g 0 (by omega) w
theorem Prt.frm0 {w w' : World} {v : Value} {l : List UInt8} (h : Prt w v l) (f : Frm (fun _ => False) w w') : Prt w' v l := h.below (f.below (Nat.le_refl _) (fun _ h => h.elim))
theorem Prts.frm0 {w w' : World} {PA : Option Addr} {vs : List Value} {ls : List (List UInt8)} (h : Prts w PA vs ls) (f : Frm (fun _ => False) w w') : Prts w' PA vs ls :=
  ⟨h.1.frm f (fun _ _ _ h => h), fun k hk => by obtain ⟨v, h1, h2⟩ := h.2 k hk; exact ⟨v, h1, h2.frm0 f⟩⟩
theorem step_copyR {ops : Array Oper} {op : Oper} {a : Act} {w : World} {K : Act → World → Prop} {Q : Exit → Act → World → Prop} {E : Prop} (hgd : op.guard = none) (d s : Operand)
    (ho : op.op = .call { callee := .builtin .copy, args := #[d, s], argTypes := #[24, 24] })
    (g dLen dCap gs sLen sCap m : Nat) (hd : a.eval d = .slice (some ⟨g, 0, none⟩) dLen dCap) (hs : a.eval s = .slice (some ⟨gs, 0, none⟩) sLen sCap)
    (cur : List Value) (t : TypeId) (hg : Blk w g t cur.toArray) (x : List UInt8) (hr : Rds w (some ⟨gs, 0, none⟩) sLen (cellsB x)) (hn : m = Nat.min sLen dLen) (hfit : dLen ≤ cur.length)
    (h : ∀ w', Blk w' g t (splice cur 0 (cellsB (x.take m))).toArray → Frm (fun k => k = g) w w' → K (a.put op.dst (.int .i64 (m : Int))) w') : if Region.wanted op (yielded ops a.tmps) = true then Oper.wp Tryd.prog op a w K Q else E := by
  have hw : Region.wanted op (yielded ops a.tmps) = true := by simp [Region.wanted, hgd]
  rw [if_pos hw]
  have hms : m ≤ sLen := by rw [hn]; exact Nat.min_le_left _ _
  have hmd : m ≤ dLen := by rw [hn]; exact Nat.min_le_right _ _
  have hxl : x.length = sLen := by have := hr.1; rwa [cellsB_length] at this
  have hcl : (cellsB (x.take m)).length = m := by rw [cellsB_length, List.length_take]; omega
  have hrun := run_copy_row (P := Tryd.prog) w 24 24 op.type 5 g 0 dLen dCap ⟨gs, 0, none⟩ sLen sCap cur.toArray t (cellsB (x.take m)) under24 size8 hg (by rw [hcl]; exact hn) (fun j v hv => by
    have hj : j < m := by rw [← hcl]; exact (List.getElem?_eq_some_iff.1 hv).1
    obtain ⟨a', ha', hc⟩ := hr.2 (by omega)
    injection ha' with ha'
    subst ha'
    refine hc j v ?_
    rw [← cellsB_take, List.getElem?_take, if_pos hj] at hv
    exact hv) (by simp only [List.size_toArray]; omega) (cellsB_one _)
  have h3 := h _ (by have := Blk.setRow hg (cur.take 0 ++ (cellsB (x.take m) ++ cur.drop (0 + (cellsB (x.take m)).length))).toArray; simpa [splice] using this) (Frm.setRow _ _ _)
  unfold Oper.wp execOp
  simp only [ho, resolve, invoke, builtin, Sem.run_bind, Sem.run_pure, Result.andThen_ok, List.map_toArray, List.map_cons, List.map_nil, hd, hs, hrun]
  simpa [Oper.upon, hcl, goInt] using h3

set_option maxHeartbeats 4000000 in
theorem short_any (key : List UInt8) (hk : key.length = 32) (PA : Option Addr) (pc : Nat) (vs : List Value) (ls : List (List UInt8)) (w : World) (hG : Gl w) (hg0 : 2 ≤ w.heap.size)
    (hP : Prts w PA vs ls) (hl : ls.flatten.length ≤ 1000000000) (hln : ls.length ≤ 1000000) :
    Calls Tryd.prog 28 #[.agg (cellsB key).toArray, .slice PA ls.length pc] w fun e w' => e = .returned (.agg (cellsB ((macL key ls.flatten).take 16)).toArray) ∧ Below w.heap.size w w' := by
  have HP := hide hP
  have hslK := slK
  have hsl16 := sl16
  have hsl32 := sl32
  have hF0 : Frm (fun _ => False) w (w.alloc (.cells (cellsB key).toArray 43)) := Frm.alloc _ _ _
  have hBK := Blk.new w 43 (cellsB key).toArray
  have hRK := hBK.rds
  rw [cellsB_length, hk] at hRK
  obtain ⟨N, hnn⟩ : ∃ n, n = ls.length := ⟨_, rfl⟩
  have HN := hide hnn
  rw [← hnn] at ⊢
  have HM := fun w0 hG h2 hr hp => mac_any (some ⟨w.heap.size, 0, none⟩) 32 32 key PA pc vs ls w0 hG h2 hr (Nat.le_refl _) (by omega) hp hl hln
  rw [← hnn] at HM
  have HML := hide (macL_length key ls.flatten)
  have HMC : Hid ((cellsB (macL key ls.flatten)).length = 32) := by show _ = _; rw [cellsB_length]; exact HML.out
  clear hP hnn hl hln hBK
  go_enter Tryd.func28, Tryd.ntmps28
  go_wp2_with ((with_reducible refine wpl_alloca (op := ⟨some 4, _, _, _, _, _⟩) rfl _ rfl _ zero16 ?_); intro g4 w1 hB1 hs1 hF1)
  have hF01 := hF0.trans hF1 (fun _ _ h => h)
  refine (HM w1 (hG.frm hF01 (fun h => h) (fun h => h)) (by have := hF01.size; omega) (hRK.frm hF1 (fun _ _ _ h => h)) (HP.out.frm0 hF01)).mono ?_
  rintro e w2 ⟨rfl, hb2⟩
  have hF2 : Frm (fun _ => False) w1 w2 := Frm.of_below hb2
  have hF02 := hF01.trans hF2 (fun _ _ h => h)
  have h4 := hB1.frm hF2 (fun h => h)
  have hg4 : w.heap.size ≤ g4 := by have := hF0.size; omega
  clear HM HP hG hb2 hRK hF0 hF1 hF2 hF01 hB1 hs1
  obtain ⟨mc, hmc⟩ : ∃ mc, mc = macL key ls.flatten := ⟨_, rfl⟩
  have HMCE := hide hmc
  rw [← hmc] at HML HMC ⊢
  clear hmc
  go_wp2_with (first
    | ((with_reducible refine wpl_alloca (op := ⟨some 5, _, _, _, _, _⟩) rfl _ rfl _ zero32 ?_); intro g5 w3 hB3 hs3 hF3)
    | ((with_reducible refine wpl_storea agg32 rfl (.tmp 5) (.tmp 9) rfl g5 (cellsB mc) rfl rfl _ _ hB3 HMC.out zero32_size (cellsB_one _) ?_); intro w4 hB4 hF4)
    | ((with_reducible refine wpl_alloca (op := ⟨some 6, _, _, _, _, _⟩) rfl _ rfl _ zero16 ?_); intro g6 w5 hB5 hs5 hF5))
  have hn45 : g4 ≠ g5 := by have := h4.lt; omega
  have hn46 : g4 ≠ g6 := by have := h4.lt; have := hF3.size; have := hF4.size; omega
  have hn56 : g5 ≠ g6 := by have := hB4.lt; omega
  have hg5 : w.heap.size ≤ g5 := by have := hF02.size; omega
  have hg6 : w.heap.size ≤ g6 := by have := hF02.size; have := hF3.size; have := hF4.size; omega
  have FD : Frm (fun _ => False) w5 w5.drew := (Frm.refl _ _).drew
  have F05 : Frm (fun k => k = g5) w w5.drew := ((((hF02.trans hF3 (fun _ _ h => h)).mono (T := fun k => k = g5) (fun _ _ h => h.elim)).trans hF4 (fun _ _ h => h)).trans hF5 (fun _ _ h => h.elim)).trans FD (fun _ _ h => h.elim)
  have X4 := (((h4.frm hF3 (fun h => h)).frm hF4 hn45).frm hF5 (fun h => h)).frm FD (fun h => h)
  have X5 := ((hB4.frm hF5 (fun h => h)).frm FD (fun h => h)).rds
  rw [HMC.out] at X5
  have X6 := hB5.frm FD (fun h => h)
  have HSP : Hid (splice (cellsB (List.replicate 16 0)) 0 (cellsB (mc.take 16)) = cellsB (mc.take 16)) := splice_all _ _ (by rw [cellsB_length, cellsB_length, List.length_take, HML.out]; rfl)
  have HL16 : Hid ((cellsB (mc.take 16)).length = 16) := by show _ = _; rw [cellsB_length, List.length_take, HML.out]; rfl
  have HX2 : Hid (((cellsB (mc.take 16)).drop 0).take 16 = cellsB (mc.take 16)) := by show _ = _; rw [List.drop_zero, List.take_of_length_le (by rw [HL16.out]; exact Nat.le_refl _)]
  clear hB3 hB4 hB5 hF3 hF4 hF5 FD h4 hF02
  refine wp_region_held_drew (S := fun _ => True) (by kernel_rfl) (True.intro) ?_
  intro hHeld
  obtain ⟨W0, hW0⟩ : ∃ W0, W0 = w5.drew := ⟨_, rfl⟩
  rw [← hW0] at X4 X5 X6 F05 ⊢
  clear hW0
  refine wpAnyH_take (i := 0) (v := ?v1) rfl (by kernel_rfl) (by kernel_rfl) (by kernel_rfl) (fun _ _ _ h => h) (Or.inl ⟨by rfl, ?hy1⟩) (by assumption) ?rest1
  case hy1 => (intro w hSw; (try dsimp only at hSw); go_simp; try with_reducible rfl)
  try simp only [Act.put, List.getElem_toArray, List.getElem_cons_zero, List.setIfInBounds_toArray, List.set_cons_zero, List.set_cons_succ]
  refine wpAnyH_take (i := 1) (v := ?v2) rfl (by kernel_rfl) (by kernel_rfl) (by kernel_rfl) (fun _ _ _ h => h) (Or.inl ⟨by rfl, ?hy2⟩) (by assumption) ?rest2
  case hy2 => (intro w hSw; (try dsimp only at hSw); go_simp; try with_reducible rfl)
  try simp only [Act.put, List.getElem_toArray, List.getElem_cons_zero, List.getElem_cons_succ, List.setIfInBounds_toArray, List.set_cons_zero, List.set_cons_succ]
  refine wpAnyH_ready (rs := [2]) (by kernel_rfl) (by simp) ?_
  refine AllReadyH.cons rfl (fun K hK => ?_) AllReadyH.nil
  refine step_copyR rfl (.tmp 10) (.tmp 11) rfl g6 16 16 g5 32 32 16 rfl rfl (cellsB (List.replicate 16 0)) _ X6 mc X5 rfl (by decide) ?_
  intro W3 hB3 hF3
  rw [HSP.out] at hB3
  refine hK.out _ _ (True.intro) (fun hHeld => ?_)
  clear hK K
  refine wpAnyH_done (by kernel_rfl) ?_ _
  have Y4 := X4.frm hF3 hn46
  go_wp2_with (first
    | (with_reducible refine wpl_loada (op := ⟨some 13, _, _, _, _, _⟩) agg16 rfl _ rfl g6 0 rfl _ _ _ hB3 HX2.out (by rw [HL16.out]; exact Nat.le_refl _) ?_)
    | ((with_reducible refine wpl_storea agg16 rfl (.tmp 4) (.tmp 13) rfl g4 (cellsB (mc.take 16)) rfl rfl _ _ Y4 HL16.out rfl (cellsB_one _) ?_); intro w10 hB10 hF10))
  have FF : Frm (fun k => k = g5 ∨ k = g6 ∨ k = g4) w w10 := ((F05.mono (T := fun k => k = g5 ∨ k = g6 ∨ k = g4) (fun _ _ h => .inl h)).trans hF3 (fun _ _ h => .inr (.inl h))).trans hF10 (fun _ _ h => .inr (.inr h))
  exact ret_agg agg16 rfl rfl g4 _ _ rfl hB10 HL16.out ⟨by rw [HMCE.out], FF.below (Nat.le_refl _) (fun k hk => by omega)⟩

theorem snoc_iff (p q : List UInt8) (x y : UInt8) : p ++ [x] = q ++ [y] ↔ p = q ∧ x = y :=
  ⟨fun h => by have := List.append_inj' h rfl; exact ⟨this.1, by simpa using this.2⟩, by rintro ⟨rfl, rfl⟩; rfl⟩

set_option maxHeartbeats 2000000 in
theorem same_any (A B : Option Addr) (n m c d : Nat) (a b : List UInt8) (w : World) (hA : Rds w A n (cellsB a)) (hB : Rds w B m (cellsB b)) (hn : n ≤ 1000000) (hm : m ≤ 1000000) :
    Calls Tryd.prog 33 #[.slice A n c, .slice B m d] w fun e w' => e = .returned (.bool (decide (a = b))) ∧ ∃ q, w' = w.drewN q := by
  have hal : a.length = n := by have := hA.1; rwa [cellsB_length] at this
  have hbl : b.length = m := by have := hB.1; rwa [cellsB_length] at this
  by_cases hnm : n = m
  · subst hnm
    have Hal := hide hal
    have Hbl := hide hbl
    have HA := hide hA
    have HB := hide hB
    clear hA hB hal hbl
    go_enter Tryd.func33, Tryd.ntmps33
    go_wp2_with fail
    go_loopw [5, 14] (fun x i wr => ∃ (k q : Nat) (u : UInt8), k ≤ n ∧ i = .int .i64 k ∧ x = .int .u8 (u.toNat : Int) ∧ (u = 0 ↔ a.take k = b.take k) ∧ wr = w.drewN q) (fun _ i _ => n - (intOf i).toNat)
    case atStart => exact ⟨0, 0, 0, by omega, rfl, rfl, by simp, rfl⟩
    case round =>
      obtain ⟨k, q, u, hk, rfl, rfl, hu, rfl⟩ := hrel
      by_cases hlt : k < n
      · obtain ⟨pa, rfl, hca⟩ := HA.out.2 (by omega)
        obtain ⟨pb, rfl, hcb⟩ := HB.out.2 (by omega)
        have ca := hca k _ (getD_byte a k (by rw [Hal.out]; exact hlt))
        have cb := hcb k _ (getD_byte b k (by rw [Hbl.out]; exact hlt))
        have ca' : ∀ q, (w.drewN q).cell? (pa.add k) = some (.int .u8 ((a.getD k 0).toNat : Int)) := fun _ => ca
        have cb' : ∀ q, (w.drewN q).cell? (pb.add k) = some (.int .u8 ((b.getD k 0).toNat : Int)) := fun _ => cb
        have HU : Hid ((u ||| (a.getD k 0 ^^^ b.getD k 0)) = 0 ↔ a.take (k + 1) = b.take (k + 1)) := by
          show _ ↔ _
          have ta : a.take (k + 1) = a.take k ++ [a.getD k 0] := by rw [List.take_succ_eq_append_getElem (by rw [Hal.out]; exact hlt), List.getD_eq_getElem?_getD, List.getElem?_eq_getElem (by rw [Hal.out]; exact hlt)]; rfl
          have tb : b.take (k + 1) = b.take k ++ [b.getD k 0] := by rw [List.take_succ_eq_append_getElem (by rw [Hbl.out]; exact hlt), List.getD_eq_getElem?_getD, List.getElem?_eq_getElem (by rw [Hbl.out]; exact hlt)]; rfl
          rw [ta, tb, snoc_iff, ← hu]
          constructor
          · intro h
            have h1 : u.toNat ||| (a.getD k 0).toNat ^^^ (b.getD k 0).toNat = 0 := by have := congrArg UInt8.toNat h; simpa [UInt8.toNat_or, UInt8.toNat_xor] using this
            have h2 := Nat.or_eq_zero_iff.1 h1
            exact ⟨UInt8.toNat_inj.1 (by simpa using h2.1), UInt8.toNat_inj.1 (by have h3 : (a.getD k 0).toNat ^^^ ((a.getD k 0).toNat ^^^ (b.getD k 0).toNat) = (b.getD k 0).toNat := (by rw [← Nat.xor_assoc, Nat.xor_self, Nat.zero_xor]); rw [h2.2, Nat.xor_zero] at h3; exact h3)⟩
          · rintro ⟨rfl, h⟩
            rw [h]
            simp
        have x1 := byte_xor (a.getD k 0) (b.getD k 0)
        have x2 := byte_or u (a.getD k 0 ^^^ b.getD k 0)
        generalize (a.getD k 0 ^^^ b.getD k 0) = xy at *
        generalize hz : u ||| xy = z at *
        clear hz hu ca cb hca hcb
        generalize (a.getD k 0).toNat = xa at *
        generalize (b.getD k 0).toNat = xb at *
        generalize xy.toNat = xx at *
        go_wp2_with fail
        go_quiet (fail)
        go_wp2
        go_roundw
        case rel => exact ⟨k + 1, _, z, by omega, by go_num, rfl, HU.out, rfl⟩
        case measure => simp [intOf]; omega
      · obtain rfl : k = n := by omega
        rw [List.take_of_length_le (by rw [Hal.out]; exact Nat.le_refl _), List.take_of_length_le (by rw [Hbl.out]; exact Nat.le_refl _)] at hu
        have hd : ((u.toNat : Int) == 0) = decide (a = b) := by
          show decide ((u.toNat : Int) = 0) = decide (a = b)
          rw [decide_eq_decide, ← hu]
          constructor
          · intro h; exact UInt8.toNat_inj.1 (by simpa using h)
          · rintro rfl; rfl
        have HD := hide hd
        clear hd hu
        generalize u.toNat = ux at *
        go_wp2_with fail
        go_ret
        exact ⟨by rw [← HD.out]; rfl, _, rfl⟩
  · have hd : decide (a = b) = false := by simp; rintro rfl; omega
    have HD := hide hd
    have hni : ¬ ((n : Int) = (m : Int)) := by omega
    clear hd hal hbl hA hB
    go_enter Tryd.func33, Tryd.ntmps33
    go_wp2_with fail
    go_ret
    exact ⟨by rw [HD.out]; rfl, 0, rfl⟩
end Go.Proofs.YtbicjcpdcopbhaaDoor
