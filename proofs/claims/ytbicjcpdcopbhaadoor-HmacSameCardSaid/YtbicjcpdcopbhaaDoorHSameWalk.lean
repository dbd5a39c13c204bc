/-
  HmacSame, walked.
-/
import Derived.Test.YtbicjcpdcopbhaaDoorHm7
namespace Go.Proofs.YtbicjcpdcopbhaaDoor
set_option linter.unusedVariables false
open Go.RowKit

theorem conv_txt4 (w : World) (A : Option Addr) (n c : Nat) (l : List UInt8) (h : Rds w A n (cellsB l)) : Sem.run Tryd.prog (convert 24 9 (.slice A n c)) w = .ok (.string ⟨l.toArray⟩) w :=
  conv_rds w 24 9 5 under24 under5 under9 A n c l h
theorem turned_iff (x : List UInt8) (k : Nat) (u : UInt8) (hk : k < x.length) : (x = x.set k (x.getD k 0 ^^^ u)) ↔ u = 0 := by
  have hx : x[k]? = some (x.getD k 0) := by rw [List.getD_eq_getElem?_getD, List.getElem?_eq_getElem hk]; rfl
  constructor
  · intro h
    have h1 : x[k]? = some (x.getD k 0 ^^^ u) := by
      conv => lhs; rw [h]
      rw [List.getElem?_set, if_pos rfl, if_pos hk]
    rw [hx] at h1
    injection h1 with h1
    have h2 : (x.getD k 0) ^^^ (x.getD k 0) = (x.getD k 0) ^^^ ((x.getD k 0) ^^^ u) := congrArg ((x.getD k 0) ^^^ ·) h1
    rw [← UInt8.xor_assoc, UInt8.xor_self, UInt8.zero_xor] at h2
    exact h2.symm
  · rintro rfl
    rw [UInt8.xor_zero]
    apply List.ext_getElem?
    intro j
    rw [List.getElem?_set]
    split
    · next e => subst e; rw [hx]
    · rfl
theorem step_appW {P : Program} {t e : TypeId} {z : Value} {bytes : Nat} (o : One P t e z bytes) {ops : Array Oper} {op : Oper} {a : Act} {K : Act → World → Prop} {Q : Exit → Act → World → Prop} {E : Prop} (hw : Region.wanted op (yielded ops a.tmps) = true) (s x : Operand)
    (ho : op.op = .call { callee := .builtin .append, args := #[s, x], argTypes := #[t, t] }) (w : World) (base : Nat) (v : Value) (n : Nat) (xs : List Value) (hs : a.eval s = v) (hown : w.ownsRow base e 1 v n xs)
    (A : Option Addr) (m c : Nat) (news : List Value) (hx : a.eval x = .slice A m c) (hr : Rds w A m news) (h1 : ∀ u ∈ news, u.oneCell' = true) (hsm : (n + m) * bytes ≤ 140737488355328) (hsl : n + m ≤ 140737488355328) (hb : base ≤ w.heap.size)
    (h : ∀ A' c' w', w'.ownsRow base e 1 (.slice A' (n + m) c') (n + m) (xs ++ news) → w.grownBy w' v.ownBlock → ((Value.slice A' (n + m) c').ownBlock = v.ownBlock ∨ (Value.slice A' (n + m) c').ownBlock = some w.heap.size) → K (a.put op.dst (.slice A' (n + m) c')) w') :
    if Region.wanted op (yielded ops a.tmps) = true then Oper.wp P op a w K Q else E := by
  rw [if_pos hw]
  exact wp_app o s x ho w base v n xs hs hown A m c news hx hr h1 hsm hsl hb h
theorem snoc_ne (x : List UInt8) (u : UInt8) : ¬ x = x ++ [u] := fun h => by have := congrArg List.length h; simp at this

set_option maxHeartbeats 8000000 in
set_option maxRecDepth 100000 in
theorem hsame_walk (a0 : Option Addr) (len0 cap0 : Nat) (l0 : List UInt8) (a1 : Option Addr) (len1 cap1 : Nat) (l1 : List UInt8) (a2 a3 : Int) (w : World) (hG : Gl w) (hg0 : 2 ≤ w.heap.size) (h0 : Rds w a0 len0 (cellsB l0)) (hl0 : len0 ≤ cap0) (hm0 : cap0 ≤ 9223372036854775807) (h1 : Rds w a1 len1 (cellsB l1)) (hl1 : len1 ≤ cap1) (hm1 : cap1 ≤ 9223372036854775807) (hb3 : 0 ≤ a3 ∧ a3 < 256) :
    Calls Tryd.prog 10 #[.slice a0 len0 cap0, .slice a1 len1 cap1, .int .i64 a2, .int .u8 a3] w fun e w' => e = .returned (.bool true) ∧ Below w.heap.size w w' := by
  obtain ⟨m0, HM0, ml0, mr0, me0⟩ := nat_min len0 200
  clear me0
  have HR0 := hide (h0.take m0 ml0)
  rw [cellsB_take] at HR0
  have HX0 : Hid ((l0.take m0).length = m0) := by have := HR0.out.1; rwa [cellsB_length] at this
  generalize l0.take m0 = x0 at *
  have hy0 : x0.length ≤ 200 := by rw [HX0.out]; exact mr0
  have hc0 : m0 ≤ cap0 := by omega
  clear h0
  obtain ⟨m1, HM1, ml1, mr1, me1⟩ := nat_min len1 200
  clear me1
  have HR1 := hide (h1.take m1 ml1)
  rw [cellsB_take] at HR1
  have HX1 : Hid ((l1.take m1).length = m1) := by have := HR1.out.1; rwa [cellsB_length] at this
  generalize l1.take m1 = x1 at *
  have hy1 : x1.length ≤ 200 := by rw [HX1.out]; exact mr1
  have hc1 : m1 ≤ cap1 := by omega
  clear h1
  obtain ⟨b3, hb3⟩ : ∃ u : UInt8, a3 = (u.toNat : Int) := ⟨UInt8.ofNat a3.toNat, by rw [UInt8.toNat_ofNat']; omega⟩
  subst hb3
  go_enter Tryd.func10, Tryd.ntmps10
  go_wp2_with fail
  refine (hshown_run w hG hg0).mono ?_
  rintro e w1 ⟨rfl, hR⟩
  have hsw1 := hR.size
  have hov := World.ownsRow_made (e := 5) (size := 1) (base := w1.heap.size) w1 #[] 0 (Nat.le_refl _) (by simp [maxLen]) (by simp)
  have hFa : Frm (fun _ => False) w1 (w1.alloc (.cells #[] 5)) := Frm.alloc _ _ _
  have HRW := hide ((HR0.out.below hR.below).frm hFa (fun _ _ _ h => h))
  have hb1 : (0 + m0) * 1 ≤ 140737488355328 := by omega
  have hb2 : 0 + m0 ≤ 140737488355328 := by omega
  go_wp2_with (first
    | (refine wpl_min rfl (.tmp 14) (.const (.int .i64 200)) _ _ rfl _ (len0 : Int) 200 (m0 : Int) rfl rfl HM0.out ?_)
    | (refine wpl_min rfl (.tmp 19) (.const (.int .i64 200)) _ _ rfl _ (len1 : Int) 200 (m1 : Int) rfl rfl HM1.out ?_)
    | (refine wpl_app one_u8 rfl (.tmp 22) (.tmp 23) rfl _ w1.heap.size (.slice (some ⟨w1.heap.size, 0, none⟩) 0 0) 0 _ rfl hov a0 m0 cap0 (cellsB x0) rfl HRW.out (cellsB_one _) hb1 hb2 hFa.size ?_; intro A3 c3 w3 hown3 hg3 hat3))
  have F13 : Frm (fun k => k = w1.heap.size) w1 w3 := (hFa.mono (T := fun k => k = w1.heap.size) (fun _ _ h => h.elim)).trans (Frm.of_grown hg3) (fun j _ h => (by simpa [Value.ownBlock] using h : j = w1.heap.size))
  have hR3 := hR.frm F13 (fun k hk => by have := hR.size; omega)
  rw [Nat.zero_add, List.nil_append] at hown3
  have FD : Frm (fun _ => False) w3 w3.drew := (Frm.refl _ _).drew
  have R0 := hR3.frm FD (fun _ h => h.elim)
  have O0 := own_frm hown3 FD (fun _ _ h => h)
  have hs0 : w1.heap.size ≤ w3.drew.heap.size := F13.size
  clear hov HRW hg3 hat3 F13 hFa hb1 hb2 hR hown3 hR3 FD
  have HCV : Hid (∀ W, Run w W → (Sem.run Tryd.prog (convert 24 9 (.slice a0 m0 cap0)) W = .ok (.string ⟨x0.toArray⟩) W ∧ Sem.run Tryd.prog (convert 24 9 (.slice a1 m1 cap1)) W = .ok (.string ⟨x1.toArray⟩) W)) := fun W hR => ⟨conv_txt4 W _ _ _ _ (HR0.out.below hR.below), conv_txt4 W _ _ _ _ (HR1.out.below hR.below)⟩
  refine wp_region_held_drew (S := fun W => Sem.run Tryd.prog (convert 24 9 (.slice a0 m0 cap0)) W = .ok (.string ⟨x0.toArray⟩) W ∧ Sem.run Tryd.prog (convert 24 9 (.slice a1 m1 cap1)) W = .ok (.string ⟨x1.toArray⟩) W) (by kernel_rfl) (HCV.out _ R0) ?_
  intro hHeld
  obtain ⟨W0, hW0⟩ : ∃ W0, W0 = w3.drew := ⟨_, rfl⟩
  rw [← hW0] at R0 O0 hs0 hHeld ⊢
  clear hW0
  refine wpAnyH_take (i := 0) (v := ?v1) rfl (by kernel_rfl) (by kernel_rfl) (by kernel_rfl) (fun _ _ _ h => h) (Or.inl ⟨by rfl, ?hy1⟩) (by assumption) ?rest1
  case hy1 => (intro w hSw; (try dsimp only at hSw); go_simp; try with_reducible rfl)
  try simp only [Act.put, List.getElem_toArray, List.getElem_cons_zero, List.setIfInBounds_toArray, List.set_cons_zero, List.set_cons_succ]
  refine wpAnyH_take (i := 1) (v := ?v2) rfl (by kernel_rfl) (by kernel_rfl) (by kernel_rfl) (fun _ _ _ h => h) (Or.inl ⟨by rfl, ?hy2⟩) (by assumption) ?rest2
  case hy2 => (intro w hSw; (try dsimp only at hSw); go_simp; try with_reducible rfl)
  try simp only [Act.put, List.getElem_toArray, List.getElem_cons_zero, List.getElem_cons_succ, List.setIfInBounds_toArray, List.set_cons_zero, List.set_cons_succ]
  refine wpAnyH_take (i := 3) (v := ?v3) rfl (by kernel_rfl) (by kernel_rfl) (by kernel_rfl) (fun _ _ _ h => h) (Or.inl ⟨by rfl, ?hy3⟩) (by assumption) ?rest3
  case hy3 => (intro w hSw; (try dsimp only at hSw); go_simp; try with_reducible rfl)
  try simp only [Act.put, List.getElem_toArray, List.getElem_cons_zero, List.getElem_cons_succ, List.setIfInBounds_toArray, List.set_cons_zero, List.set_cons_succ]
  refine wpAnyH_take (i := 4) (v := ?v4) rfl (by kernel_rfl) (by kernel_rfl) (by kernel_rfl) (fun _ _ _ h => h) (Or.inl ⟨by rfl, ?hy4⟩) (by assumption) ?rest4
  case hy4 => (intro w hSw; (try dsimp only at hSw); go_simp; try with_reducible rfl)
  try simp only [Act.put, List.getElem_toArray, List.getElem_cons_zero, List.getElem_cons_succ, List.setIfInBounds_toArray, List.set_cons_zero, List.set_cons_succ]
  refine wpAnyH_take (i := 5) (v := ?v5) rfl (by kernel_rfl) (by kernel_rfl) (by kernel_rfl) (fun _ _ _ h => h) (Or.inl ⟨by rfl, ?hy5⟩) (by assumption) ?rest5
  case hy5 => (intro w hSw; (try dsimp only at hSw); go_simp; try with_reducible rfl)
  try simp only [Act.put, List.getElem_toArray, List.getElem_cons_zero, List.getElem_cons_succ, List.setIfInBounds_toArray, List.set_cons_zero, List.set_cons_succ]
  refine wpAnyH_take (i := 6) (v := ?v6) rfl (by kernel_rfl) (by kernel_rfl) (by kernel_rfl) (fun _ _ _ h => h) (Or.inl ⟨by rfl, ?hy6⟩) (by assumption) ?rest6
  case hy6 => (intro w hSw; (try dsimp only at hSw); go_simp; try with_reducible rfl)
  try simp only [Act.put, List.getElem_toArray, List.getElem_cons_zero, List.getElem_cons_succ, List.setIfInBounds_toArray, List.set_cons_zero, List.set_cons_succ]
  refine wpAnyH_take (i := 7) (v := ?v7) rfl (by kernel_rfl) (by kernel_rfl) (by kernel_rfl) (fun _ _ _ h => h) (Or.inl ⟨by rfl, ?hy7⟩) (by assumption) ?rest7
  case hy7 => (intro w hSw; (try dsimp only at hSw); go_simp; try with_reducible rfl)
  try simp only [Act.put, List.getElem_toArray, List.getElem_cons_zero, List.getElem_cons_succ, List.setIfInBounds_toArray, List.set_cons_zero, List.set_cons_succ]
  have hE : (x0 == x1) = decide (x0 = x1) := by rw [Bool.eq_iff_iff]; simp
  rw [hE]
  clear hE
  have HSA := hide (fun W (hR : Run w W) => same_any a0 a1 m0 m1 cap0 cap1 x0 x1 W (HR0.out.below hR.below) (HR1.out.below hR.below) (by omega) (by omega))
  generalize decide (x0 = x1) = E at *
  refine wpAnyH_ready (rs := [2]) (by kernel_rfl) (by simp) ?_
  refine AllReadyH.cons rfl (fun K hK => ?_) AllReadyH.nil
  go_simp
  refine (HSA.out _ R0).mono ?_
  rintro e W1 ⟨rfl, q1, rfl⟩
  have F1 : Frm (fun _ => False) W0 (W0.drewN q1) := (Frm.refl _ _).drewN _
  have R1 := R0.frm F1 (fun _ h => h.elim)
  have O1 := own_frm O0 F1 (fun _ _ h => h)
  clear R0 O0 F1 HSA
  refine hK.out _ _ (HCV.out _ R1) (fun hHeld => ?_)
  clear hK K
  refine wpAnyH_take (i := 8) (v := ?v8) rfl (by kernel_rfl) (by kernel_rfl) (by kernel_rfl) (fun _ _ _ h => h) (Or.inl ⟨by rfl, ?hy8⟩) (by assumption) ?rest8
  case hy8 => (intro w hSw; (try dsimp only at hSw); go_simp; try with_reducible rfl)
  try simp only [Act.put, List.getElem_toArray, List.getElem_cons_zero, List.getElem_cons_succ, List.setIfInBounds_toArray, List.set_cons_zero, List.set_cons_succ]
  refine wpAnyH_take (i := 9) (v := ?v9) rfl (by kernel_rfl) (by kernel_rfl) (by kernel_rfl) (fun _ _ _ h => h) (Or.inl ⟨by rfl, ?hy9⟩) (by assumption) ?rest9
  case hy9 => (intro w hSw; (try dsimp only at hSw); go_simp; try with_reducible rfl)
  try simp only [Act.put, List.getElem_toArray, List.getElem_cons_zero, List.getElem_cons_succ, List.setIfInBounds_toArray, List.set_cons_zero, List.set_cons_succ]
  refine wpAnyH_take (i := 10) (v := ?v10) rfl (by kernel_rfl) (by kernel_rfl) (by kernel_rfl) (fun _ _ _ h => h) (Or.inl ⟨by rfl, ?hy10⟩) (by assumption) ?rest10
  case hy10 => (intro w hSw; (try dsimp only at hSw); go_simp; try with_reducible rfl)
  try simp only [Act.put, List.getElem_toArray, List.getElem_cons_zero, List.getElem_cons_succ, List.setIfInBounds_toArray, List.set_cons_zero, List.set_cons_succ]
  refine wpAnyH_take (i := 11) (v := ?v11) rfl (by kernel_rfl) (by kernel_rfl) (by kernel_rfl) (fun _ _ _ h => h) (Or.inl ⟨by rfl, ?hy11⟩) (by assumption) ?rest11
  case hy11 => (intro w hSw; (try dsimp only at hSw); go_simp; try with_reducible rfl)
  try simp only [Act.put, List.getElem_toArray, List.getElem_cons_zero, List.getElem_cons_succ, List.setIfInBounds_toArray, List.set_cons_zero, List.set_cons_succ]
  refine wpAnyH_ready (rs := [12]) (by kernel_rfl) (by simp) ?_
  refine AllReadyH.cons rfl (fun K hK => ?_) AllReadyH.nil
  go_simp
  refine (same_any a0 A3 m0 m0 cap0 c3 x0 x0 _ (HR0.out.below R1.below) (Seg.of_own O1).rds (by omega) (by omega)).mono ?_
  rintro e W2 ⟨rfl, q2, rfl⟩
  have hd2 : decide (x0 = x0) = true := by simp
  rw [hd2]
  have F2 : Frm (fun _ => False) (W0.drewN q1) ((W0.drewN q1).drewN q2) := (Frm.refl _ _).drewN _
  have R2 := R1.frm F2 (fun _ h => h.elim)
  have O2 := own_frm O1 F2 (fun _ _ h => h)
  clear R1 O1 F2 hd2
  refine hK.out _ _ (HCV.out _ R2) (fun hHeld => ?_)
  clear hK K
  refine wpAnyH_take (i := 13) (v := ?v12) rfl (by kernel_rfl) (by kernel_rfl) (by kernel_rfl) (fun _ _ _ h => h) (Or.inl ⟨by rfl, ?hy12⟩) (by assumption) ?rest12
  case hy12 => (intro w hSw; (try dsimp only at hSw); go_simp; try with_reducible rfl)
  try simp only [Act.put, List.getElem_toArray, List.getElem_cons_zero, List.getElem_cons_succ, List.setIfInBounds_toArray, List.set_cons_zero, List.set_cons_succ]
  refine wpAnyH_take (i := 14) (v := ?v13) rfl (by kernel_rfl) (by kernel_rfl) (by kernel_rfl) (fun _ _ _ h => h) (Or.inl ⟨by rfl, ?hy13⟩) (by assumption) ?rest13
  case hy13 => (intro w hSw; (try dsimp only at hSw); go_simp; try with_reducible rfl)
  try simp only [Act.put, List.getElem_toArray, List.getElem_cons_zero, List.getElem_cons_succ, List.setIfInBounds_toArray, List.set_cons_zero, List.set_cons_succ]
  refine wpAnyH_take (i := 15) (v := ?v14) rfl (by kernel_rfl) (by kernel_rfl) (by kernel_rfl) (fun _ _ _ h => h) (Or.inl ⟨by rfl, ?hy14⟩) (by assumption) ?rest14
  case hy14 => (intro w hSw; (try dsimp only at hSw); go_simp; try with_reducible rfl)
  try simp only [Act.put, List.getElem_toArray, List.getElem_cons_zero, List.getElem_cons_succ, List.setIfInBounds_toArray, List.set_cons_zero, List.set_cons_succ]
  refine wpAnyH_take (i := 16) (v := ?v15) rfl (by kernel_rfl) (by kernel_rfl) (by kernel_rfl) (fun _ _ _ h => h) (Or.inl ⟨by rfl, ?hy15⟩) (by assumption) ?rest15
  case hy15 => (intro w hSw; (try dsimp only at hSw); go_simp; try with_reducible rfl)
  try simp only [Act.put, List.getElem_toArray, List.getElem_cons_zero, List.getElem_cons_succ, List.setIfInBounds_toArray, List.set_cons_zero, List.set_cons_succ]
  refine wpAnyH_take (i := 17) (v := ?v16) rfl (by kernel_rfl) (by kernel_rfl) (by kernel_rfl) (fun _ _ _ h => h) (Or.inl ⟨by rfl, ?hy16⟩) (by assumption) ?rest16
  case hy16 => (intro w hSw; (try dsimp only at hSw); go_simp; try with_reducible rfl)
  try simp only [Act.put, List.getElem_toArray, List.getElem_cons_zero, List.getElem_cons_succ, List.setIfInBounds_toArray, List.set_cons_zero, List.set_cons_succ]
  refine wpAnyH_ready (rs := [18]) (by kernel_rfl) (by simp) ?_
  refine AllReadyH.cons rfl (fun K hK => ?_) AllReadyH.nil
  go_simp
  obtain ⟨W2, hW2⟩ : ∃ W2, W2 = (W0.drewN (q1 + q2)) := ⟨_, rfl⟩
  have hW2' : (W0.drewN q1).drewN q2 = W2 := by rw [hW2]; simp
  rw [hW2'] at R2 O2
  rw [← hW2]
  have F3 : Frm (fun _ => False) W2 (W2.alloc (.cells #[.int .u8 0] 5)) := Frm.alloc _ _ _
  have R3 := R2.frm F3 (fun _ h => h.elim)
  have O3 := own_frm O2 F3 (fun _ _ h => h)
  have r3 := Rds.new1 W2 5 (.int .u8 0)
  have hs2 : W2.heap.size = W0.heap.size := by rw [hW2]; rfl
  rw [hs2] at r3
  clear hW2'
  refine hK.out _ _ (HCV.out _ R3) (fun hHeld => ?_)
  clear hK K
  refine wpAnyH_ready (rs := [19]) (by kernel_rfl) (by simp) ?_
  refine AllReadyH.cons rfl (fun K hK => ?_) AllReadyH.nil
  refine step_appW one_u8 rfl (.tmp 42) (.tmp 43) rfl (W2.alloc (.cells #[.int .u8 0] 5)) w1.heap.size (.slice A3 m0 c3) m0 _ rfl O3 (some ⟨W0.heap.size, 0, none⟩) 1 1 [.int .u8 0] rfl r3 (one1 _ _) (by omega) (by omega) (by have := F3.size; omega) ?_
  intro A5 c5 W5 hown5 hg5 hat5
  have R5 := R3.frm (Frm.of_grown hg5) (fun j hj => by have := (O3.lt j hj.symm).1; have := hsw1; omega)
  refine hK.out _ _ (HCV.out _ R5) (fun hHeld => ?_)
  clear hK K
  refine wpAnyH_ready (rs := [20]) (by kernel_rfl) (by simp) ?_
  refine AllReadyH.cons rfl (fun K hK => ?_) AllReadyH.nil
  go_simp
  have hr5 : Rds W5 A5 (m0 + 1) (cellsB (x0 ++ [0])) := by have := (Seg.of_own hown5).rds; rw [cellsB_append]; exact this
  refine (same_any a0 A5 m0 (m0 + 1) cap0 c5 x0 (x0 ++ [0]) _ (HR0.out.below R5.below) hr5 (by omega) (by omega)).mono ?_
  rintro e W6 ⟨rfl, q6, rfl⟩
  have hd6 : decide (x0 = x0 ++ [0]) = false := by simp
  rw [hd6]
  have F6 : Frm (fun _ => False) W5 (W5.drewN q6) := (Frm.refl _ _).drewN _
  have R6 := R5.frm F6 (fun _ h => h.elim)
  clear hr5 hd6 F6
  generalize W5.drewN q6 = W6 at *
  refine hK.out _ _ (HCV.out _ R6) (fun hHeld => ?_)
  clear hK K
  refine wpAnyH_take (i := 21) (v := ?v17) rfl (by kernel_rfl) (by kernel_rfl) (by kernel_rfl) (fun _ _ _ h => h) (Or.inl ⟨by rfl, ?hy17⟩) (by assumption) ?rest17
  case hy17 => (intro w hSw; (try dsimp only at hSw); go_simp; try with_reducible rfl)
  try simp only [Act.put, List.getElem_toArray, List.getElem_cons_zero, List.getElem_cons_succ, List.setIfInBounds_toArray, List.set_cons_zero, List.set_cons_succ]
  refine wpAnyH_done (by kernel_rfl) ?_ _
  clear hHeld R5 hown5 hg5 hat5 O3 R3 r3 F3 R2 O2 hs2 hW2 hs0
  by_cases hz : m0 = 0
  · have hz' : (m0 : Int) = 0 := by omega
    go_wp2_with fail
    go_ret
    exact ⟨rfl, R6.below⟩
  · have hz' : ¬ ((m0 : Int) = 0) := by omega
    have hov := World.ownsRow_made (e := 5) (size := 1) (base := W6.heap.size) W6 #[] 0 (Nat.le_refl _) (by simp [maxLen]) (by simp)
    have hFa : Frm (fun _ => False) W6 (W6.alloc (.cells #[] 5)) := Frm.alloc _ _ _
    have HRW := hide ((HR0.out.below R6.below).frm hFa (fun _ _ _ h => h))
    have hb1 : (0 + m0) * 1 ≤ 140737488355328 := by omega
    have hb2 : 0 + m0 ≤ 140737488355328 := by omega
    go_wp2_with (at_builtin; refine wpl_app one_u8 rfl (.tmp 51) (.tmp 52) rfl _ W6.heap.size (.slice (some ⟨W6.heap.size, 0, none⟩) 0 0) 0 _ rfl hov a0 m0 cap0 (cellsB x0) rfl HRW.out (cellsB_one _) hb1 hb2 hFa.size ?_; intro A7 c7 w7 hown7 hg7 hat7)
    have F67 : Frm (fun k => k = W6.heap.size) W6 w7 := (hFa.mono (T := fun k => k = W6.heap.size) (fun _ _ h => h.elim)).trans (Frm.of_grown hg7) (fun j _ h => (by simpa [Value.ownBlock] using h : j = W6.heap.size))
    have R7 := R6.frm F67 (fun k hk => by have := R6.size; omega)
    rw [Nat.zero_add, List.nil_append] at hown7
    obtain ⟨g7, cur7, rfl, hg7b, hB7, hn7, ht7, hc7⟩ := own_block hown7 (by omega)
    obtain ⟨M, hM1, hM2⟩ := mask_nat a2
    obtain ⟨k, hk⟩ : ∃ k, k = M % m0 := ⟨_, rfl⟩
    have hkm : k < m0 := by rw [hk]; exact Nat.mod_lt _ (by omega)
    have e1 : Int.tmod (M : Int) (m0 : Int) = (k : Int) := by rw [Int.tmod_eq_emod_of_nonneg (by omega), hk]; omega
    have e1' : (M : Int) % (m0 : Int) = (k : Int) := by rw [hk]; omega
    have e2 : IntKind.i64.wrap (k : Int) = (k : Int) := IntWalk.i64_in _ (by omega)
    have e3 : (k : Int) < (m0 : Int) := by omega
    have hcell : w7.drew.cell? ⟨g7, k, none⟩ = some (.int .u8 ((x0.getD k 0).toNat : Int)) := by show w7.cell? ⟨g7, k, none⟩ = _; rw [hB7.cell]; exact own_get hn7 ht7 hkm
    have hfz : w7.drew.frozen? ⟨g7, k, none⟩ = false := hB7.frozen k
    have hput := own_put (w := w7.drew) hB7 hn7 ht7 (x0.getD k 0 ^^^ b3) hkm
    have F78 : Frm (fun j => j = g7) w7 (w7.drew.setCell ⟨g7, k, none⟩ (.int .u8 ((x0.getD k 0 ^^^ b3).toNat : Int))) := ((Frm.refl _ _).drew).trans (Frm.setCell _ _ _ (fun j => j = g7) rfl) (fun _ _ h => h)
    have R8 := R7.frm F78 (fun j hj => by have := R6.size; omega)
    have HTI := hide (turned_iff x0 k b3 (by rw [HX0.out]; exact hkm))
    have HPUT := hide hput
    have HR8 := hide R8
    have x1 := byte_xor (x0.getD k 0) b3
    have hb3l := b3.toNat_lt
    generalize x0.getD k 0 ^^^ b3 = z at *
    generalize (x0.getD k 0).toNat = xa at *
    clear hk hput F78 R8 R7 F67 hown7 hg7 hat7 hov hFa HRW hb1 hb2 R6 ht7 hB7
    go_still_tail 17, (by kernel_rfl)
    change wpList _ _ _ _ _ w7.drew
    go_wp2_with fail
    refine (same_any a0 (some ⟨g7, 0, none⟩) m0 m0 cap0 c7 x0 (x0.set k z) _ (HR0.out.below HR8.out.below) HPUT.out (by omega) (by omega)).mono ?_
    rintro e W9 ⟨rfl, q9, rfl⟩
    have hd9 : decide (x0 = x0.set k z) = decide (b3.toNat = 0) := by
      rw [decide_eq_decide, HTI.out]
      exact ⟨fun h => by rw [h]; rfl, fun h => UInt8.toNat_inj.1 h⟩
    rw [hd9]
    have R9 := hide (below_drewN HR8.out.below q9)
    clear hd9 HTI HPUT HR8 hcell hfz
    generalize (w7.drew.setCell ⟨g7, k, none⟩ (.int .u8 (z.toNat : Int))).drewN q9 = W9 at *
    generalize b3.toNat = bn at *
    by_cases hbn : bn = 0
    · have hbn' : (bn : Int) = 0 := by omega
      go_wp2_with fail
      go_ret
      exact ⟨rfl, R9.out⟩
    · have hbn' : ¬ ((bn : Int) = 0) := by omega
      have hbq : ((bn : Int) == 0) = false := by simp; omega
      go_wp2_with fail
      go_ret
      exact ⟨rfl, R9.out⟩
end Go.Proofs.YtbicjcpdcopbhaaDoor
