/-
  ShaParts, walked.
-/
import Derived.Test.YtohkpmohlhmpkaaDoorSha11
namespace Go.Proofs.YtohkpmohlhmpkaaDoor
set_option linter.unusedVariables false
open Go.RowKit

theorem run_cut2 (A : Option Addr) (n c i j : Nat) (hij : i ≤ j) (hj : j ≤ c) (w : World) :
    (Instr.sliceAt 24 (.slice A n c) (some (.int .i64 (i : Int))) (some (.int .i64 (j : Int))) none).run Tryd.prog w = .ok (.slice (if c = i then A else A.map (·.add i)) (j - i) (c - i)) w := by
  have hinfo := size8
  cases hq : Tryd.prog.info? 5 with
  | none => rw [hq] at hinfo; cases hinfo
  | some d =>
    rw [hq] at hinfo
    have hs : d.size = 1 := by simpa using hinfo
    simp [Instr.sliceAt, Instr.slice, run_underlying under24, Instr.sliceBounds, Instr.sliceBound, asIntOf, sizeOf, typeInfo, hq, hs, hij, hj]
theorem run_cut1 (A : Option Addr) (n c i : Nat) (hi : i ≤ n) (w : World) :
    (Instr.sliceAt 24 (.slice A n c) (some (.int .i64 (i : Int))) none none).run Tryd.prog w = .ok (.slice (if c = i then A else A.map (·.add i)) (n - i) (c - i)) w := by
  have hinfo := size8
  cases hq : Tryd.prog.info? 5 with
  | none => rw [hq] at hinfo; cases hinfo
  | some d =>
    rw [hq] at hinfo
    have hs : d.size = 1 := by simpa using hinfo
    simp [Instr.sliceAt, Instr.slice, run_underlying under24, Instr.sliceBounds, Instr.sliceBound, asIntOf, sizeOf, typeInfo, hq, hs, hi]
theorem run_cut0 (A : Option Addr) (n c j : Nat) (hj : j ≤ c) (w : World) :
    (Instr.sliceAt 24 (.slice A n c) none (some (.int .i64 (j : Int))) none).run Tryd.prog w = .ok (.slice A j c) w := by
  have hinfo := size8
  have h0 : A.map (·.add 0) = A := by cases A <;> simp [Addr.add]
  cases hq : Tryd.prog.info? 5 with
  | none => rw [hq] at hinfo; cases hinfo
  | some d =>
    rw [hq] at hinfo
    have hs : d.size = 1 := by simpa using hinfo
    simp [Instr.sliceAt, Instr.slice, run_underlying under24, Instr.sliceBounds, Instr.sliceBound, asIntOf, sizeOf, typeInfo, hq, hj, h0]
theorem wpl_cut2 {ops : Array Oper} {rest : List Oper} {op : Oper} {a : Act} {w : World} {Q : Exit → Act → World → Prop} (hgd : op.guard = none) (x lo hi : Operand)
    (ho : op.op = .slice 24 x (some lo) (some hi) none) (A A' : Option Addr) (n c i j : Nat) (J : Int) (hx : a.eval x = .slice A n c) (hl : a.eval lo = .int .i64 (i : Int)) (hh : a.eval hi = .int .i64 J) (hJ : J = (j : Int)) (hij : i ≤ j) (hj : j ≤ c) (n2 : Nat) (hn2 : n2 = j - i)
    (hA : A' = if c = i then A else A.map (·.add i)) (h : wpList Tryd.prog ops Q rest (a.put op.dst (.slice A' n2 (c - i))) w) : wpList Tryd.prog ops Q (op :: rest) a w := by
  subst hA hJ hn2
  refine wpList_plain hgd fun K hK => ?_
  unfold Oper.wp execOp
  simp only [ho, Option.map_some, Option.map_none, hx, hl, hh, run_cut2 A n c i j hij hj, Sem.run_bind, Result.andThen_ok]
  exact hK _ _ h
theorem held_cut2 {o : Oper} {a : Act} {w : World} (x lo hi : Operand) (ho : o.op = .slice 24 x (some lo) (some hi) none) (A A' : Option Addr) (n c i j : Nat) (hx : a.eval x = .slice A n c) (hl : a.eval lo = .int .i64 (i : Int)) (hh : a.eval hi = .int .i64 (j : Int)) (hij : i ≤ j) (hj : j ≤ c) (hA : A' = if c = i then A else A.map (·.add i)) :
    (execOp a.eval o).run Tryd.prog w = .ok (.value (.slice A' (j - i) (c - i))) w := by
  subst hA
  unfold execOp
  simp only [ho, Option.map_some, Option.map_none, hx, hl, hh, run_cut2 A n c i j hij hj, Sem.run_bind, Result.andThen_ok, Sem.run_pure]
theorem held_cut1 {o : Oper} {a : Act} {w : World} (x lo : Operand) (ho : o.op = .slice 24 x (some lo) none none) (A A' : Option Addr) (n c i : Nat) (hx : a.eval x = .slice A n c) (hl : a.eval lo = .int .i64 (i : Int)) (hi : i ≤ n) (hA : A' = if c = i then A else A.map (·.add i)) :
    (execOp a.eval o).run Tryd.prog w = .ok (.value (.slice A' (n - i) (c - i))) w := by
  subst hA
  unfold execOp
  simp only [ho, Option.map_some, Option.map_none, hx, hl, run_cut1 A n c i hi, Sem.run_bind, Result.andThen_ok, Sem.run_pure]
theorem held_cut0 {o : Oper} {a : Act} {w : World} (x hi : Operand) (ho : o.op = .slice 24 x none (some hi) none) (A : Option Addr) (n c j : Nat) (hx : a.eval x = .slice A n c) (hh : a.eval hi = .int .i64 (j : Int)) (hj : j ≤ c) :
    (execOp a.eval o).run Tryd.prog w = .ok (.value (.slice A j c)) w := by
  unfold execOp
  simp only [ho, Option.map_some, Option.map_none, hx, hh, run_cut0 A n c j hj, Sem.run_bind, Result.andThen_ok, Sem.run_pure]
theorem Rds.mid {w : World} {A : Option Addr} {n : Nat} {l : List UInt8} (h : Rds w A n (cellsB l)) (c i j : Nat) (hij : i ≤ j) (hj : j ≤ n) (hc : n ≤ c) : Rds w (if c = i then A else A.map (·.add i)) (j - i) (cellsB ((l.drop i).take (j - i))) := by
  have := (h.cut c i (by omega) hc).take (j - i) (by omega)
  rwa [cellsB_drop, cellsB_take] at this

structure TInv (w : World) (gs gt g8 : Nat) (x t : List UInt8) (wr : World) : Prop where
  s : St wr gs x
  t : St wr gt t
  run : Run w wr
  keep : Blk wr g8 25 (cellsB (shaL x)).toArray

set_option maxHeartbeats 8000000 in
set_option maxRecDepth 100000 in
theorem sparts_walk (a0 : Option Addr) (len0 cap0 : Nat) (l0 : List UInt8) (x y : Int) (w : World) (hG : Gl w) (hg0 : 2 ≤ w.heap.size)
    (h0 : Rds w a0 len0 (cellsB l0)) (hl0 : len0 ≤ cap0) (hm0 : cap0 ≤ 9223372036854775807) :
    Calls Tryd.prog 5 #[.slice a0 len0 cap0, .int .i64 x, .int .i64 y] w fun e w' => e = .returned (.bool true) ∧ Below w.heap.size w w' := by
  obtain ⟨m0, HM0, ml0, mr0, me0⟩ := nat_min len0 2000
  clear me0
  have HR0 := hide (h0.take m0 ml0)
  rw [cellsB_take] at HR0
  have HX0 : Hid ((l0.take m0).length = m0) := by have := HR0.out.1; rwa [cellsB_length] at this
  generalize l0.take m0 = x0 at *
  have hy0 : x0.length ≤ 2000 := by rw [HX0.out]; exact mr0
  have hc0 : m0 ≤ cap0 := by omega
  clear h0
  obtain ⟨p, hp, hp6⟩ := mask_nat x
  obtain ⟨q, hq, hq6⟩ := mask_nat y
  obtain ⟨X, hX⟩ : ∃ X, X = p % (m0 + 1) := ⟨_, rfl⟩
  obtain ⟨D, hD⟩ : ∃ D, D = m0 - X := ⟨_, rfl⟩
  obtain ⟨r, hr⟩ : ∃ r, r = q % (D + 1) := ⟨_, rfl⟩
  obtain ⟨Y, hY⟩ : ∃ Y, Y = X + r := ⟨_, rfl⟩
  have hXm : X ≤ m0 := by have := Nat.mod_lt p (show 0 < m0 + 1 by omega); omega
  have hrD : r ≤ D := by have := Nat.mod_lt q (show 0 < D + 1 by omega); omega
  have hYm : Y ≤ m0 := by omega
  have hXY : X ≤ Y := by omega
  have e1 : (p : Int) % ((m0 : Int) + 1) = (X : Int) := by rw [hX]; simp
  have e1' : Int.tmod (p : Int) ((m0 : Int) + 1) = (X : Int) := by rw [Int.tmod_eq_emod_of_nonneg (by omega)]; exact e1
  have e2 : (m0 : Int) - (X : Int) = (D : Int) := by omega
  have e3 : (q : Int) % ((D : Int) + 1) = (r : Int) := by rw [hr]; simp
  have e3' : Int.tmod (q : Int) ((D : Int) + 1) = (r : Int) := by rw [Int.tmod_eq_emod_of_nonneg (by omega)]; exact e3
  have e4 : (X : Int) + (r : Int) = (Y : Int) := by omega
  have n1 : ¬ ((m0 : Int) + 1 = 0) := by omega
  have n2 : ¬ ((D : Int) + 1 = 0) := by omega
  clear hX hD hr hY
  go_enter Tryd.func5, Tryd.ntmps5
  go_wp2_with fail
  refine (shown_run w hG hg0).mono ?_
  rintro e w1 ⟨rfl, hR⟩
  go_wp2_with (refine wpl_min rfl (.tmp 15) (.const (.int .i64 2000)) _ _ rfl _ (len0 : Int) 2000 (m0 : Int) rfl rfl HM0.out ?_)
  clear e1 e1' e2 e3 e3' e4 n1 n2 hp hq
  refine (sums_run w w1 [.slice a0 m0 cap0] [x0] x0 (All2.cons (prt_old HR0.out HX0.out hc0 hR.below) All2.nil) (by simp) hR (by omega) (by simp)).mono ?_
  rintro e w2 ⟨rfl, hF2, hR2⟩
  clear hR hF2
  go_wp2_with (first
    | ((with_reducible refine wpl_alloca (op := ⟨some 8, _, _, _, _, _⟩) rfl _ rfl _ zero32 ?_); intro g8 w3 hB3 hs3 hF3)
    | ((with_reducible refine wpl_storea agg32 rfl (.tmp 8) (.tmp 36) rfl g8 (cellsB (shaL x0)) rfl rfl _ _ hB3 (shaC_length _) zero32_size (cellsB_one _) ?_); intro w4 hB4 hF4)
    | ((with_reducible refine wpl_alloca (op := ⟨some 9, _, _, _, _, _⟩) rfl _ rfl _ zeroS ?_); intro gs w5 hB5 hs5 hF5))
  have hg8 : w.heap.size ≤ g8 := by have := hR2.size; omega
  have hR4 := (hR2.frm hF3 (fun _ h => h.elim)).frm hF4 (fun k hk => by omega)
  have hgs : w.heap.size ≤ gs := by have := hR4.size; omega
  have hn8 : g8 ≠ gs := by have := hB4.lt; omega
  have hX5 := hB4.frm hF5 (fun h => h)
  have hR5 := hR4.frm hF5 (fun _ h => h.elim)
  have hS5 : St w5 gs [] := St_nil hB5
  have HRY := hide (HR0.out.take Y hYm)
  rw [cellsB_take] at HRY
  have HXY : Hid ((x0.take Y).length = Y) := by have := HRY.out.1; rwa [cellsB_length] at this
  obtain ⟨A2, hA2⟩ : ∃ A2, A2 = if cap0 = Y then a0 else a0.map (·.add Y) := ⟨_, rfl⟩
  have HRD := hide (HR0.out.cut cap0 Y hYm hc0)
  rw [cellsB_drop, ← hA2] at HRD
  have HXD : Hid ((x0.drop Y).length = m0 - Y) := by have := HRD.out.1; rwa [cellsB_length] at this
  have HA2 := hide hA2
  have HTD : Hid (x0.take Y ++ x0.drop Y = x0) := List.take_append_drop _ _
  clear hB3 hF3 hB4 hF4 hB5 hF5 hR2 hR4 hA2 hG
  refine (write_old gs [] (x0.take Y) a0 Y cap0 w w5 HRY.out HXY.out (by omega) hR5 hgs hS5 (by rw [List.length_nil]; omega)).mono ?_
  rintro e w6 ⟨rfl, hS6, hF6, hR6⟩
  rw [List.nil_append] at hS6
  have hX6 := hX5.frm hF6 hn8
  clear hX5 hS5 hR5 hF6
  go_wp2_with fail
  refine (write_nil gs (x0.take Y) w w6 hR6 hgs hS6 (by rw [HXY.out]; omega)).mono ?_
  rintro e w7 ⟨rfl, hS7, hF7, hR7⟩
  have hX7 := hX6.frm hF7 hn8
  clear hX6 hS6 hR6 hF7
  go_wp2_with (with_reducible refine wpl_cut (op := ⟨some 44, _, _, _, _, _⟩) rfl _ _ rfl a0 A2 m0 cap0 Y .i64 rfl rfl hYm hc0 HA2.out ?_)
  refine (write_old gs (x0.take Y) (x0.drop Y) A2 (m0 - Y) (cap0 - Y) w w7 HRD.out HXD.out (by omega) hR7 hgs hS7 (by rw [HXY.out]; omega)).mono ?_
  rintro e w8 ⟨rfl, hS8, hF8, hR8⟩
  rw [HTD.out] at hS8
  have hX8 := hX7.frm hF8 hn8
  clear hX7 hS7 hR7 hF8
  go_wp2_with ((with_reducible refine wpl_alloca (op := ⟨some 10, _, _, _, _, _⟩) rfl _ rfl _ zeroS ?_); intro gt w9 hB9 hs9 hF9)
  have hgt : w.heap.size ≤ gt := by have := hR8.size; omega
  have hn1 : gs ≠ gt := by have := hS8.lt; omega
  have hn2 : g8 ≠ gt := by have := hX8.lt; omega
  have HI : Hid (TInv w gs gt g8 x0 (x0.take 0) w9) := ⟨hS8.frm hF9 (fun h => h), St_nil hB9, hR8.frm hF9 (fun _ h => h.elim), hX8.frm hF9 (fun h => h)⟩
  clear hS8 hX8 hR8 hB9 hF9
  go_loopw [11] (fun i wr => ∃ k : Nat, k ≤ m0 ∧ i = .int .i64 k ∧ TInv w gs gt g8 x0 (x0.take k) wr) (fun i _ => m0 - (intOf i).toNat)
  case atStart => exact ⟨0, by omega, rfl, HI.out⟩
  case round =>
    clear HI
    obtain ⟨k, hk, rfl, hi⟩ := hrel
    by_cases hlt : k < m0
    · obtain ⟨A3, hA3⟩ : ∃ A3, A3 = if cap0 = k then a0 else a0.map (·.add k) := ⟨_, rfl⟩
      have HRM := hide (HR0.out.mid cap0 k (k + 1) (by omega) (by omega) hc0)
      rw [← hA3] at HRM
      rw [Nat.add_sub_cancel_left] at HRM
      have HXM : Hid (((x0.drop k).take 1).length = 1) := by have := HRM.out.1; rwa [cellsB_length] at this
      have HTT : Hid (x0.take k ++ (x0.drop k).take 1 = x0.take (k + 1)) := by show _ = _; rw [List.take_add]
      have HA3 := hide hA3
      have hle : (x0.take k).length ≤ 2000 := by rw [List.length_take]; omega
      have HH := hide hi
      clear hA3 hi
      go_wp2_with (with_reducible refine wpl_cut2 (op := ⟨some 56, _, _, _, _, _⟩) rfl _ _ _ rfl a0 A3 m0 cap0 k (k + 1) _ rfl rfl rfl (by omega) (by omega) (by omega) 1 (by omega) HA3.out ?_)
      refine (write_old gt (x0.take k) _ A3 1 (cap0 - k) w wr HRM.out HXM.out (by omega) HH.out.run hgt HH.out.t (by omega)).mono ?_
      rintro e w10 ⟨rfl, hS10, hF10, hR10⟩
      rw [HTT.out] at hS10
      have FIN : Hid (TInv w gs gt g8 x0 (x0.take (k + 1)) w10) := ⟨HH.out.s.frm hF10 hn1, hS10, hR10, HH.out.keep.frm hF10 hn2⟩
      go_wp2_with fail
      go_roundw
      case rel => first | exact ⟨k + 1, by omega, by go_num, FIN.out⟩ | ((repeat apply Exists.intro); exact ⟨⟨k + 1, by omega, by go_num, FIN.out⟩, rfl⟩)
      case measure => simp [intOf]; omega
    · obtain rfl : k = m0 := by omega
      have hall : x0.take k = x0 := List.take_of_length_le (by rw [HX0.out]; exact Nat.le_refl _)
      rw [hall] at hi
      obtain ⟨A4, hA4⟩ : ∃ A4, A4 = if cap0 = X then a0 else a0.map (·.add X) := ⟨_, rfl⟩
      have HRX := hide (HR0.out.take X hXm)
      rw [cellsB_take] at HRX
      have HXX : Hid ((x0.take X).length = X) := by have := HRX.out.1; rwa [cellsB_length] at this
      have HRM := hide (HR0.out.mid cap0 X Y hXY hYm hc0)
      rw [← hA4] at HRM
      have HXM : Hid (((x0.drop X).take (Y - X)).length = Y - X) := by have := HRM.out.1; rwa [cellsB_length] at this
      have HFL : Hid ([x0.take X, (x0.drop X).take (Y - X), [], x0.drop Y].flatten = x0) := by
        show _ = _
        have h1 : (x0.drop X).take (Y - X) ++ x0.drop Y = x0.drop X := by
          have := List.take_append_drop (Y - X) (x0.drop X)
          rwa [List.drop_drop, show X + (Y - X) = Y by omega] at this
        have h2 := List.take_append_drop X x0
        simp only [List.flatten_cons, List.flatten_nil, List.append_nil, List.nil_append]
        rw [h1, h2]
      have HA4 := hide hA4
      have FD : Frm (fun _ => False) wr wr.drew := (Frm.refl _ _).drew
      have S0 := hi.s.frm FD (fun h => h)
      have T0 := hi.t.frm FD (fun h => h)
      have R0 := hi.run.frm FD (fun _ h => h.elim)
      have X0 := hi.keep.frm FD (fun h => h)
      have q1 := eq_same (shaL x0) (shaL_length _)
      have hgd := guard32
      have hcX : X ≤ cap0 := by omega
      have hcY : Y ≤ cap0 := by omega
      clear hi hall hA4 FD
      go_wp2_with fail
      refine wp_region_held_drew (S := fun W => Blk W g8 25 (cellsB (shaL x0)).toArray) (by kernel_rfl) (X0) ?_
      intro hHeld
      obtain ⟨W0, hW0⟩ : ∃ W0, W0 = wr.drew := ⟨_, rfl⟩
      rw [← hW0] at S0 T0 R0 X0 hHeld ⊢
      clear hW0
      refine wpAnyH_take (i := 0) (v := ?v1) rfl (by kernel_rfl) (by kernel_rfl) (by kernel_rfl) (fun _ _ _ h => h) (Or.inl ⟨by rfl, ?hy1⟩) (by assumption) ?rest1
      case hy1 => (intro w hSw; (try dsimp only at hSw); go_simp; try with_reducible rfl)
      try simp only [Act.put, List.getElem_toArray, List.getElem_cons_zero, List.setIfInBounds_toArray, List.set_cons_zero, List.set_cons_succ]
      refine wpAnyH_take (i := 1) (v := ?v2) rfl (by kernel_rfl) (by kernel_rfl) (by kernel_rfl) (fun _ _ _ h => h) (Or.inl ⟨by rfl, ?hy2⟩) (by assumption) ?rest2
      case hy2 => (intro w hSw; (try dsimp only at hSw); go_simp; try with_reducible rfl)
      try simp only [Act.put, List.getElem_toArray, List.getElem_cons_zero, List.getElem_cons_succ, List.setIfInBounds_toArray, List.set_cons_zero, List.set_cons_succ]
      refine wpAnyH_take (i := 2) (v := ?v3) rfl (by kernel_rfl) (by kernel_rfl) (by kernel_rfl) (fun _ _ _ h => h) (Or.inl ⟨by rfl, ?hy3⟩) (by assumption) ?rest3
      case hy3 => (intro w hSw; (try dsimp only at hSw); go_simp; try with_reducible rfl)
      try simp only [Act.put, List.getElem_toArray, List.getElem_cons_zero, List.getElem_cons_succ, List.setIfInBounds_toArray, List.set_cons_zero, List.set_cons_succ]
      refine wpAnyH_take (i := 3) (v := ?v4) rfl (by kernel_rfl) (by kernel_rfl) (by kernel_rfl) (fun _ _ _ h => h) (Or.inl ⟨by rfl, ?hy4⟩) (by assumption) ?rest4
      case hy4 => (intro w hSw; (try dsimp only at hSw); go_simp; try with_reducible rfl)
      try simp only [Act.put, List.getElem_toArray, List.getElem_cons_zero, List.getElem_cons_succ, List.setIfInBounds_toArray, List.set_cons_zero, List.set_cons_succ]
      refine wpAnyH_take (i := 4) (v := ?v5) rfl (by kernel_rfl) (by kernel_rfl) (by kernel_rfl) (fun _ _ _ h => h) (Or.inl ⟨by rfl, ?hy5⟩) (by assumption) ?rest5
      case hy5 => (intro w hSw; refine held_cut0 (.tmp 60) (.tmp 61) ?_ a0 k cap0 X ?_ ?_ hcX <;> rfl)
      try simp only [Act.put, List.getElem_toArray, List.getElem_cons_zero, List.getElem_cons_succ, List.setIfInBounds_toArray, List.set_cons_zero, List.set_cons_succ]
      refine wpAnyH_take (i := 5) (v := ?v6) rfl (by kernel_rfl) (by kernel_rfl) (by kernel_rfl) (fun _ _ _ h => h) (Or.inl ⟨by rfl, ?hy6⟩) (by assumption) ?rest6
      case hy6 => (intro w hSw; (try dsimp only at hSw); go_simp; try with_reducible rfl)
      try simp only [Act.put, List.getElem_toArray, List.getElem_cons_zero, List.getElem_cons_succ, List.setIfInBounds_toArray, List.set_cons_zero, List.set_cons_succ]
      refine wpAnyH_take (i := 6) (v := ?v7) rfl (by kernel_rfl) (by kernel_rfl) (by kernel_rfl) (fun _ _ _ h => h) (Or.inl ⟨by rfl, ?hy7⟩) (by assumption) ?rest7
      case hy7 => (intro w hSw; (try dsimp only at hSw); go_simp; try with_reducible rfl)
      try simp only [Act.put, List.getElem_toArray, List.getElem_cons_zero, List.getElem_cons_succ, List.setIfInBounds_toArray, List.set_cons_zero, List.set_cons_succ]
      refine wpAnyH_take (i := 7) (v := ?v8) rfl (by kernel_rfl) (by kernel_rfl) (by kernel_rfl) (fun _ _ _ h => h) (Or.inl ⟨by rfl, ?hy8⟩) (by assumption) ?rest8
      case hy8 => (intro w hSw; (try dsimp only at hSw); go_simp; try with_reducible rfl)
      try simp only [Act.put, List.getElem_toArray, List.getElem_cons_zero, List.getElem_cons_succ, List.setIfInBounds_toArray, List.set_cons_zero, List.set_cons_succ]
      refine wpAnyH_take (i := 8) (v := ?v9) rfl (by kernel_rfl) (by kernel_rfl) (by kernel_rfl) (fun _ _ _ h => h) (Or.inl ⟨by rfl, ?hy9⟩) (by assumption) ?rest9
      case hy9 => (intro w hSw; refine held_cut2 (.tmp 63) (.tmp 64) (.tmp 65) ?_ a0 A4 k cap0 X Y ?_ ?_ ?_ hXY hcY HA4.out <;> rfl)
      try simp only [Act.put, List.getElem_toArray, List.getElem_cons_zero, List.getElem_cons_succ, List.setIfInBounds_toArray, List.set_cons_zero, List.set_cons_succ]
      refine wpAnyH_take (i := 9) (v := ?v10) rfl (by kernel_rfl) (by kernel_rfl) (by kernel_rfl) (fun _ _ _ h => h) (Or.inl ⟨by rfl, ?hy10⟩) (by assumption) ?rest10
      case hy10 => (intro w hSw; (try dsimp only at hSw); go_simp; try with_reducible rfl)
      try simp only [Act.put, List.getElem_toArray, List.getElem_cons_zero, List.getElem_cons_succ, List.setIfInBounds_toArray, List.set_cons_zero, List.set_cons_succ]
      refine wpAnyH_take (i := 10) (v := ?v11) rfl (by kernel_rfl) (by kernel_rfl) (by kernel_rfl) (fun _ _ _ h => h) (Or.inl ⟨by rfl, ?hy11⟩) (by assumption) ?rest11
      case hy11 => (intro w hSw; (try dsimp only at hSw); go_simp; try with_reducible rfl)
      try simp only [Act.put, List.getElem_toArray, List.getElem_cons_zero, List.getElem_cons_succ, List.setIfInBounds_toArray, List.set_cons_zero, List.set_cons_succ]
      refine wpAnyH_take (i := 11) (v := ?v12) rfl (by kernel_rfl) (by kernel_rfl) (by kernel_rfl) (fun _ _ _ h => h) (Or.inl ⟨by rfl, ?hy12⟩) (by assumption) ?rest12
      case hy12 => (intro w hSw; refine held_cut1 (.tmp 67) (.tmp 68) ?_ a0 A2 k cap0 Y ?_ ?_ hYm HA2.out <;> rfl)
      try simp only [Act.put, List.getElem_toArray, List.getElem_cons_zero, List.getElem_cons_succ, List.setIfInBounds_toArray, List.set_cons_zero, List.set_cons_succ]
      refine wpAnyH_take (i := 14) (v := ?v13) rfl (by kernel_rfl) (by kernel_rfl) (by kernel_rfl) (fun _ _ _ h => h) (Or.inl ⟨by rfl, ?hy13⟩) (by assumption) ?rest13
      case hy13 => (intro w hSw; refine held_load (.tmp 8) ?_ g8 ?_ (shaL x0) (shaL_length _) hSw <;> rfl)
      try simp only [Act.put, List.getElem_toArray, List.getElem_cons_zero, List.getElem_cons_succ, List.setIfInBounds_toArray, List.set_cons_zero, List.set_cons_succ]
      refine wpAnyH_ready (rs := [12]) (by kernel_rfl) (by simp) ?_
      refine AllReadyH.cons rfl (fun K hK => ?_) AllReadyH.nil
      go_simp
      have F1 : Frm (fun _ => False) W0 (W0.alloc (.cells #[.slice a0 X cap0, .slice A4 (Y - X) (cap0 - X), .slice none 0 0, .slice A2 (k - Y) (cap0 - Y)] 24)) := Frm.alloc _ _ _
      have R1 := R0.frm F1 (fun _ h => h.elim)
      have S1 := S0.frm F1 (fun h => h)
      have T1 := T0.frm F1 (fun h => h)
      have X1 := X0.frm F1 (fun h => h)
      refine hK.out _ _ (X1) (fun hHeld => ?_)
      clear hK K
      refine wpAnyH_ready (rs := [13]) (by kernel_rfl) (by simp) ?_
      refine AllReadyH.cons rfl (fun K hK => ?_) AllReadyH.nil
      go_simp
      refine (sums_run w W0 [.slice a0 X cap0, .slice A4 (Y - X) (cap0 - X), .slice none 0 0, .slice A2 (k - Y) (cap0 - Y)] [x0.take X, (x0.drop X).take (Y - X), [], x0.drop Y] x0 (All2.cons (prt_old HRX.out HXX.out hcX R0.below) (All2.cons (prt_old HRM.out HXM.out (by omega) R0.below) (All2.cons (nil_prt _) (All2.cons (prt_old HRD.out HXD.out (by omega) R0.below) All2.nil)))) HFL.out R0 (by omega) (by simp)).mono ?_
      rintro e W2 ⟨rfl, F2, R2⟩
      have S2 := S0.frm F2 (fun h => h)
      have T2 := T0.frm F2 (fun h => h)
      have X2 := X0.frm F2 (fun h => h)
      refine hK.out _ _ (X2) (fun hHeld => ?_)
      clear hK K
      refine wpAnyH_take (i := 15) (v := ?v14) rfl (by kernel_rfl) (by kernel_rfl) (by kernel_rfl) (fun _ _ _ h => h) (Or.inl ⟨by rfl, ?hy14⟩) (by assumption) ?rest14
      case hy14 => (intro w hSw; (try dsimp only at hSw); go_simp; try with_reducible rfl)
      try simp only [Act.put, List.getElem_toArray, List.getElem_cons_zero, List.getElem_cons_succ, List.setIfInBounds_toArray, List.set_cons_zero, List.set_cons_succ]
      refine wpAnyH_take (i := 16) (v := ?v15) rfl (by kernel_rfl) (by kernel_rfl) (by kernel_rfl) (fun _ _ _ h => h) (Or.inl ⟨by rfl, ?hy15⟩) (by assumption) ?rest15
      case hy15 => (intro w hSw; (try dsimp only at hSw); go_simp; try with_reducible rfl)
      try simp only [Act.put, List.getElem_toArray, List.getElem_cons_zero, List.getElem_cons_succ, List.setIfInBounds_toArray, List.set_cons_zero, List.set_cons_succ]
      refine wpAnyH_take (i := 17) (v := ?v16) rfl (by kernel_rfl) (by kernel_rfl) (by kernel_rfl) (fun _ _ _ h => h) (Or.inl ⟨by rfl, ?hy16⟩) (by assumption) ?rest16
      case hy16 => (intro w hSw; (try dsimp only at hSw); go_simp; try with_reducible rfl)
      try simp only [Act.put, List.getElem_toArray, List.getElem_cons_zero, List.getElem_cons_succ, List.setIfInBounds_toArray, List.set_cons_zero, List.set_cons_succ]
      refine wpAnyH_take (i := 19) (v := ?v17) rfl (by kernel_rfl) (by kernel_rfl) (by kernel_rfl) (fun _ _ _ h => h) (Or.inl ⟨by rfl, ?hy17⟩) (by assumption) ?rest17
      case hy17 => (intro w hSw; refine held_load (.tmp 8) ?_ g8 ?_ (shaL x0) (shaL_length _) hSw <;> rfl)
      try simp only [Act.put, List.getElem_toArray, List.getElem_cons_zero, List.getElem_cons_succ, List.setIfInBounds_toArray, List.set_cons_zero, List.set_cons_succ]
      refine wpAnyH_ready (rs := [18]) (by kernel_rfl) (by simp) ?_
      refine AllReadyH.cons rfl (fun K hK => ?_) AllReadyH.nil
      go_simp
      refine (sum_run gs x0 w _ R2 S2 (by omega)).mono ?_
      rintro e W3 ⟨rfl, F3, R3⟩
      have S3 := S2.frm F3 (fun h => h)
      have T3 := T2.frm F3 (fun h => h)
      have X3 := X2.frm F3 (fun h => h)
      refine hK.out _ _ (X3) (fun hHeld => ?_)
      clear hK K
      refine wpAnyH_take (i := 20) (v := ?v18) rfl (by kernel_rfl) (by kernel_rfl) (by kernel_rfl) (fun _ _ _ h => h) (Or.inl ⟨by rfl, ?hy18⟩) (by assumption) ?rest18
      case hy18 => (intro w hSw; (try dsimp only at hSw); go_simp; try with_reducible rfl)
      try simp only [Act.put, List.getElem_toArray, List.getElem_cons_zero, List.getElem_cons_succ, List.setIfInBounds_toArray, List.set_cons_zero, List.set_cons_succ]
      refine wpAnyH_take (i := 21) (v := ?v19) rfl (by kernel_rfl) (by kernel_rfl) (by kernel_rfl) (fun _ _ _ h => h) (Or.inl ⟨by rfl, ?hy19⟩) (by assumption) ?rest19
      case hy19 => (intro w hSw; (try dsimp only at hSw); go_simp; try with_reducible rfl)
      try simp only [Act.put, List.getElem_toArray, List.getElem_cons_zero, List.getElem_cons_succ, List.setIfInBounds_toArray, List.set_cons_zero, List.set_cons_succ]
      refine wpAnyH_take (i := 22) (v := ?v20) rfl (by kernel_rfl) (by kernel_rfl) (by kernel_rfl) (fun _ _ _ h => h) (Or.inl ⟨by rfl, ?hy20⟩) (by assumption) ?rest20
      case hy20 => (intro w hSw; (try dsimp only at hSw); go_simp; try with_reducible rfl)
      try simp only [Act.put, List.getElem_toArray, List.getElem_cons_zero, List.getElem_cons_succ, List.setIfInBounds_toArray, List.set_cons_zero, List.set_cons_succ]
      refine wpAnyH_take (i := 24) (v := ?v21) rfl (by kernel_rfl) (by kernel_rfl) (by kernel_rfl) (fun _ _ _ h => h) (Or.inl ⟨by rfl, ?hy21⟩) (by assumption) ?rest21
      case hy21 => (intro w hSw; refine held_load (.tmp 8) ?_ g8 ?_ (shaL x0) (shaL_length _) hSw <;> rfl)
      try simp only [Act.put, List.getElem_toArray, List.getElem_cons_zero, List.getElem_cons_succ, List.setIfInBounds_toArray, List.set_cons_zero, List.set_cons_succ]
      refine wpAnyH_ready (rs := [23]) (by kernel_rfl) (by simp) ?_
      refine AllReadyH.cons rfl (fun K hK => ?_) AllReadyH.nil
      go_simp
      refine (sum_run gt x0 w _ R3 T3 (by omega)).mono ?_
      rintro e W4 ⟨rfl, F4, R4⟩
      have S4 := S3.frm F4 (fun h => h)
      have T4 := T3.frm F4 (fun h => h)
      have X4 := X3.frm F4 (fun h => h)
      refine hK.out _ _ (X4) (fun hHeld => ?_)
      clear hK K
      refine wpAnyH_take (i := 25) (v := ?v22) rfl (by kernel_rfl) (by kernel_rfl) (by kernel_rfl) (fun _ _ _ h => h) (Or.inl ⟨by rfl, ?hy22⟩) (by assumption) ?rest22
      case hy22 => (intro w hSw; (try dsimp only at hSw); go_simp; try with_reducible rfl)
      try simp only [Act.put, List.getElem_toArray, List.getElem_cons_zero, List.getElem_cons_succ, List.setIfInBounds_toArray, List.set_cons_zero, List.set_cons_succ]
      refine wpAnyH_take (i := 26) (v := ?v23) rfl (by kernel_rfl) (by kernel_rfl) (by kernel_rfl) (fun _ _ _ h => h) (Or.inl ⟨by rfl, ?hy23⟩) (by assumption) ?rest23
      case hy23 => (intro w hSw; (try dsimp only at hSw); go_simp; try with_reducible rfl)
      try simp only [Act.put, List.getElem_toArray, List.getElem_cons_zero, List.getElem_cons_succ, List.setIfInBounds_toArray, List.set_cons_zero, List.set_cons_succ]
      refine wpAnyH_take (i := 27) (v := ?v24) rfl (by kernel_rfl) (by kernel_rfl) (by kernel_rfl) (fun _ _ _ h => h) (Or.inl ⟨by rfl, ?hy24⟩) (by assumption) ?rest24
      case hy24 => (intro w hSw; (try dsimp only at hSw); go_simp; try with_reducible rfl)
      try simp only [Act.put, List.getElem_toArray, List.getElem_cons_zero, List.getElem_cons_succ, List.setIfInBounds_toArray, List.set_cons_zero, List.set_cons_succ]
      refine wpAnyH_done (by kernel_rfl) ?_ _
      go_wp2
      go_ret
      exact ⟨rfl, R4.below⟩
end Go.Proofs.YtohkpmohlhmpkaaDoor
