/-
  ShaNone, walked.
-/
import Derived.Test.YtohkpmohlhmpkaaDoorSha11
namespace Go.Proofs.YtohkpmohlhmpkaaDoor
set_option linter.unusedVariables false
open Go.RowKit

theorem one_sl : One Tryd.prog 22 24 (.slice none 0 0) 24 := One.of (by kernel_rfl) (by kernel_rfl) rfl
theorem step_appW {P : Program} {t e : TypeId} {z : Value} {bytes : Nat} (o : One P t e z bytes) {ops : Array Oper} {op : Oper} {a : Act} {K : Act → World → Prop} {Q : Exit → Act → World → Prop} {E : Prop} (hw : Region.wanted op (yielded ops a.tmps) = true) (s x : Operand)
    (ho : op.op = .call { callee := .builtin .append, args := #[s, x], argTypes := #[t, t] }) (w : World) (base : Nat) (v : Value) (n : Nat) (xs : List Value) (hs : a.eval s = v) (hown : w.ownsRow base e 1 v n xs)
    (A : Option Addr) (m c : Nat) (news : List Value) (hx : a.eval x = .slice A m c) (hr : Rds w A m news) (h1 : ∀ u ∈ news, u.oneCell' = true) (hsm : (n + m) * bytes ≤ 140737488355328) (hsl : n + m ≤ 140737488355328) (hb : base ≤ w.heap.size)
    (h : ∀ A' c' w', w'.ownsRow base e 1 (.slice A' (n + m) c') (n + m) (xs ++ news) → w.grownBy w' v.ownBlock → ((Value.slice A' (n + m) c').ownBlock = v.ownBlock ∨ (Value.slice A' (n + m) c').ownBlock = some w.heap.size) → K (a.put op.dst (.slice A' (n + m) c')) w') :
    if Region.wanted op (yielded ops a.tmps) = true then Oper.wp P op a w K Q else E := by
  rw [if_pos hw]
  exact wp_app o s x ho w base v n xs hs hown A m c news hx hr h1 hsm hsl hb h
theorem nils_one (n : Nat) : ∀ u ∈ List.replicate n (Value.slice none 0 0), u.oneCell' = true := by
  intro u hu
  rw [List.eq_of_mem_replicate hu]
  rfl
theorem two_one {A : Option Addr} {n c : Nat} : ∀ u ∈ [Value.slice A n c, .slice none 0 0], u.oneCell' = true := by
  intro u hu
  simp at hu
  rcases hu with rfl | rfl <;> rfl
theorem all2_nils (w : World) : ∀ n, All2 w (List.replicate n (.slice none 0 0)) (List.replicate n [])
  | 0 => .nil
  | n + 1 => .cons (nil_prt w) (all2_nils w n)
theorem All2.append {w : World} {vs us : List Value} {ls ks : List (List UInt8)} (h : All2 w vs ls) (k : All2 w us ks) : All2 w (vs ++ us) (ls ++ ks) := by
  induction h with
  | nil => exact k
  | cons hp _ ih => exact .cons hp ih
theorem flat_nils (n : Nat) : (List.replicate n ([] : List UInt8)).flatten = [] := by
  induction n with
  | zero => rfl
  | succ n ih => rw [List.replicate_succ, List.flatten_cons, ih]; rfl

structure NoneInv (w : World) (gs : Nat) (A : Option Addr) (c k : Nat) (wr : World) : Prop where
  st : St wr gs []
  run : Run w wr
  own : wr.ownsRow (gs + 1) 24 1 (.slice A k c) k (List.replicate k (.slice none 0 0))

set_option maxHeartbeats 8000000 in
set_option maxRecDepth 100000 in
theorem none_walk (a0 : Option Addr) (len0 cap0 : Nat) (l0 : List UInt8) (n : Int) (w : World) (hG : Gl w) (hg0 : 2 ≤ w.heap.size)
    (h0 : Rds w a0 len0 (cellsB l0)) (hl0 : len0 ≤ cap0) (hm0 : cap0 ≤ 9223372036854775807) :
    Calls Tryd.prog 9 #[.slice a0 len0 cap0, .int .i64 n] w fun e w' => e = .returned (.bool true) ∧ Below w.heap.size w w' := by
  obtain ⟨m0, HM0, ml0, mr0, me0⟩ := nat_min len0 300
  clear me0
  have HR0 := hide (h0.take m0 ml0)
  rw [cellsB_take] at HR0
  have HX0 : Hid ((l0.take m0).length = m0) := by have := HR0.out.1; rwa [cellsB_length] at this
  generalize l0.take m0 = x0 at *
  have hy0 : x0.length ≤ 300 := by rw [HX0.out]; exact mr0
  have hc0 : m0 ≤ cap0 := by omega
  clear h0
  obtain ⟨x, hx, hx6⟩ := mask_nat n
  obtain ⟨N, hN⟩ : ∃ N, N = x % 11 := ⟨_, rfl⟩
  have e1 : (x : Int) % 11 = (N : Int) := by omega
  have hN2 : N ≤ 10 := by omega
  clear hN
  go_enter Tryd.func9, Tryd.ntmps9
  go_wp2_with fail
  refine (shown_run w hG hg0).mono ?_
  rintro e w1 ⟨rfl, hR⟩
  go_wp2_with (first
    | (refine wpl_min rfl (.tmp 13) (.const (.int .i64 300)) _ _ rfl _ (len0 : Int) 300 (m0 : Int) rfl rfl HM0.out ?_)
    | ((with_reducible refine wpl_alloca (op := ⟨some 6, _, _, _, _, _⟩) rfl _ rfl _ zeroS ?_); intro gs w2 hB2 hs2 hF2))
  try simp only [e1]
  have hS_gs : St w2 gs [] := St_nil hB2
  have hgs : w.heap.size ≤ gs := by have := hR.size; omega
  have hR2 := hR.frm hF2 (fun _ h => h.elim)
  have HI : Hid (NoneInv w gs none 0 0 w2) := ⟨hS_gs, hR2, ⟨rfl, .inl ⟨rfl, rfl⟩⟩⟩
  clear hR hB2 hF2 hG hS_gs hR2
  go_loopw [7, 8] (fun v i wr => ∃ (k : Nat) (A : Option Addr) (c : Nat), k ≤ N ∧ i = .int .i64 k ∧ v = .slice A k c ∧ NoneInv w gs A c k wr) (fun _ i _ => N - (intOf i).toNat)
  case atStart => exact ⟨0, none, 0, by omega, rfl, rfl, HI.out⟩
  case round =>
    clear HI
    obtain ⟨k, A, c, hk, rfl, rfl, hi⟩ := hrel
    by_cases hlt : k < N
    · have HO := hide hi.own
      have hS := hi.st
      have hR := hi.run
      have hltg := hi.st.lt
      clear hi
      go_wp2_with fail
      refine (write_nil gs [] w wr hR hgs hS (by decide)).mono ?_
      rintro e w3 ⟨rfl, hS3, hF3, hR3⟩
      have HO3 := hide (own_frm HO.out hF3 (fun i hi => by have := (HO.out.lt i hi).1; omega))
      clear hS hR HO
      go_wp2_with fail
      have hFa : Frm (fun _ => False) w3 (w3.alloc (.cells #[] 5)) := Frm.alloc _ _ _
      refine (write_empty gs [] _ 0 w _ (hR3.frm hFa (fun _ h => h.elim)) hgs (hS3.frm hFa (fun h => h)) (by decide)).mono ?_
      rintro e w4 ⟨rfl, hS4, hF4, hR4⟩
      have HO4 := hide (own_frm (own_frm HO3.out hFa (fun _ _ h => h)) hF4 (fun i hi => by have := (HO3.out.lt i hi).1; omega))
      have hFb : Frm (fun _ => False) w4 (w4.alloc (.cells #[.slice none 0 0] 24)) := Frm.alloc _ _ _
      have HO5 := hide (own_frm HO4.out hFb (fun _ _ h => h))
      have hR5 := hR4.frm hFb (fun _ h => h.elim)
      have hS5 := hS4.frm hFb (fun h => h)
      have hr1 := Rds.new1 w4 24 (.slice none 0 0)
      have hb1 : (k + 1) * 24 ≤ 140737488355328 := by omega
      have hb2 : k + 1 ≤ 140737488355328 := by omega
      have hb3 : gs + 1 ≤ (w4.alloc (.cells #[.slice none 0 0] 24)).heap.size := by have := hS5.lt; omega
      have hn1 := nils_one 1
      clear hS3 hR3 HO3 hFa hF4 HO4 hF3 hS4 hR4 hFb
      go_wp2_with (at_builtin; refine wpl_app one_sl rfl (.tmp 27) (.tmp 28) rfl _ (gs + 1) (.slice A k c) k _ rfl HO5.out (some ⟨w4.heap.size, 0, none⟩) 1 1 [.slice none 0 0] rfl hr1 hn1 hb1 hb2 hb3 ?_; intro A6 c6 w6 hown6 hg6 hat6)
      have hF6 := Frm.of_grown hg6
      have FIN : Hid (NoneInv w gs A6 c6 (k + 1) w6) := by
        refine ⟨hS5.frm hF6 (fun h => ?_), hR5.frm hF6 (fun i hi => ?_), ?_⟩
        · have := (HO5.out.lt gs h.symm).1; omega
        · have := (HO5.out.lt i hi.symm).1; omega
        · rw [List.replicate_succ']; exact hown6
      go_roundw
      case rel => first | exact ⟨k + 1, A6, c6, by omega, by go_num, rfl, FIN.out⟩ | ((repeat apply Exists.intro); exact ⟨⟨k + 1, A6, c6, by omega, by go_num, rfl, FIN.out⟩, rfl⟩)
      case measure => simp [intOf]; omega
    · obtain rfl : k = N := by omega
      have HO := hide hi.own
      have hS := hi.st
      have hR := hi.run
      clear hi
      go_wp2_with fail
      refine (sum_run gs [] w wr hR hS (by decide)).mono ?_
      rintro e w3 ⟨rfl, hF3, hR3⟩
      have HO3 := hide (own_frm HO.out hF3 (fun _ _ h => h))
      have hS3 := hS.frm hF3 (fun h => h)
      clear HO hS hR hF3
      go_wp2_with (first
        | ((with_reducible refine wpl_alloca (op := ⟨some 9, _, _, _, _, _⟩) rfl _ rfl _ zero32 ?_); intro g9 w4 hB4 hs4 hF4)
        | ((with_reducible refine wpl_storea agg32 rfl (.tmp 9) (.tmp 30) rfl g9 (cellsB (shaL [])) rfl rfl _ _ hB4 (shaC_length _) zero32_size (cellsB_one _) ?_); intro w5 hB5 hF5))
      have hg9 : w.heap.size ≤ g9 := by have := hR3.size; omega
      have hn9 : gs ≠ g9 := by have := hS3.lt; omega
      have HLT : Hid (∀ i, (Value.slice A k c).ownBlock = some i → gs < i ∧ i < g9) := fun i hi => by have := HO3.out.lt i hi; omega
      have hS5 := (hS3.frm hF4 (fun h => h)).frm hF5 hn9
      have hR5 := (hR3.frm hF4 (fun _ h => h.elim)).frm hF5 (fun k hk => by omega)
      have HO5 := hide (own_frm (own_frm HO3.out hF4 (fun _ _ h => h)) hF5 (fun i hi => by have := HLT.out i hi; omega))
      clear hB4 hF4 hF5 hS3 hR3 HO3
      refine (write_old gs [] x0 a0 m0 cap0 w w5 HR0.out HX0.out hc0 hR5 hgs hS5 (by rw [List.length_nil]; omega)).mono ?_
      rintro e w6 ⟨rfl, hS6, hF6, hR6⟩
      rw [List.nil_append] at hS6
      have hB6 := hB5.frm hF6 (by omega)
      have HO6 := hide (own_frm HO5.out hF6 (fun i hi => by have := HLT.out i hi; omega))
      clear hS5 hR5 HO5 hF6 hB5
      go_wp2_with fail
      refine (write_nil gs x0 w w6 hR6 hgs hS6 (by omega)).mono ?_
      rintro e w7 ⟨rfl, hS7, hF7, hR7⟩
      have hB7 := hB6.frm hF7 (by omega)
      have HO7 := hide (own_frm HO6.out hF7 (fun i hi => by have := HLT.out i hi; omega))
      have F8 : Frm (fun _ => False) w7 w7.drew := (Frm.refl _ _).drew
      have S0 := hS7.frm F8 (fun h => h)
      have R0 := hR7.frm F8 (fun _ h => h.elim)
      have X0 := hB7.frm F8 (fun h => h)
      have O0 := hide (own_frm HO7.out F8 (fun _ _ h => h))
      have q1 := eq_same (shaL []) (shaL_length _)
      have q2 := eq_same (shaL x0) (shaL_length _)
      have hgd := guard32
      have hb1 : (k + 2) * 24 ≤ 140737488355328 := by omega
      have hb2 : k + 2 ≤ 140737488355328 := by omega
      have hg9s : g9 < w7.drew.heap.size := X0.lt
      clear hS6 hR6 HO6 hF7 hB6 hS7 hR7 hB7 HO7 F8
      go_wp2_with fail
      refine wp_region_held_drew (S := fun W => Blk W g9 25 (cellsB (shaL [])).toArray) (by kernel_rfl) (X0) ?_
      intro hHeld
      obtain ⟨W0, hW0⟩ : ∃ W0, W0 = w7.drew := ⟨_, rfl⟩
      rw [← hW0] at S0 R0 X0 O0 hg9s hHeld ⊢
      clear hW0
      refine wpAnyH_take (i := 0) (v := ?v1) rfl (by kernel_rfl) (by kernel_rfl) (by kernel_rfl) (fun _ _ _ h => h) (Or.inl ⟨by rfl, ?hy1⟩) (by assumption) ?rest1
      case hy1 => (intro w hSw; (try dsimp only at hSw); go_simp; try with_reducible rfl)
      try simp only [Act.put, List.getElem_toArray, List.getElem_cons_zero, List.setIfInBounds_toArray, List.set_cons_zero, List.set_cons_succ]
      refine wpAnyH_take (i := 1) (v := ?v2) rfl (by kernel_rfl) (by kernel_rfl) (by kernel_rfl) (fun _ _ _ h => h) (Or.inl ⟨by rfl, ?hy2⟩) (by assumption) ?rest2
      case hy2 => (intro w hSw; (try dsimp only at hSw); go_simp; try with_reducible rfl)
      try simp only [Act.put, List.getElem_toArray, List.getElem_cons_zero, List.getElem_cons_succ, List.setIfInBounds_toArray, List.set_cons_zero, List.set_cons_succ]
      refine wpAnyH_take (i := 2) (v := ?v3) rfl (by kernel_rfl) (by kernel_rfl) (by kernel_rfl) (fun _ _ _ h => h) (Or.inl ⟨by rfl, ?hy3⟩) (by assumption) ?rest3
      case hy3 => (intro w hSw; refine held_load (.tmp 9) ?_ g9 ?_ (shaL []) (shaL_length _) hSw <;> rfl)
      try simp only [Act.put, List.getElem_toArray, List.getElem_cons_zero, List.getElem_cons_succ, List.setIfInBounds_toArray, List.set_cons_zero, List.set_cons_succ]
      refine wpAnyH_ready (rs := [3]) (by kernel_rfl) (by simp) ?_
      refine AllReadyH.cons rfl (fun K hK => ?_) AllReadyH.nil
      go_simp
      refine (sums_none w _ R0).mono ?_
      rintro e W1 ⟨rfl, F1, R1⟩
      have S1 := S0.frm F1 (fun h => h)
      have X1 := X0.frm F1 (fun h => h)
      have O1 := hide (own_frm O0.out F1 (fun _ _ h => h))
      refine hK.out _ _ (X1) (fun hHeld => ?_)
      clear hK K
      refine wpAnyH_take (i := 4) (v := ?v4) rfl (by kernel_rfl) (by kernel_rfl) (by kernel_rfl) (fun _ _ _ h => h) (Or.inl ⟨by rfl, ?hy4⟩) (by assumption) ?rest4
      case hy4 => (intro w hSw; (try dsimp only at hSw); go_simp; try with_reducible rfl)
      try simp only [Act.put, List.getElem_toArray, List.getElem_cons_zero, List.getElem_cons_succ, List.setIfInBounds_toArray, List.set_cons_zero, List.set_cons_succ]
      refine wpAnyH_take (i := 5) (v := ?v5) rfl (by kernel_rfl) (by kernel_rfl) (by kernel_rfl) (fun _ _ _ h => h) (Or.inl ⟨by rfl, ?hy5⟩) (by assumption) ?rest5
      case hy5 => (intro w hSw; (try dsimp only at hSw); go_simp; try with_reducible rfl)
      try simp only [Act.put, List.getElem_toArray, List.getElem_cons_zero, List.getElem_cons_succ, List.setIfInBounds_toArray, List.set_cons_zero, List.set_cons_succ]
      refine wpAnyH_take (i := 6) (v := ?v6) rfl (by kernel_rfl) (by kernel_rfl) (by kernel_rfl) (fun _ _ _ h => h) (Or.inl ⟨by rfl, ?hy6⟩) (by assumption) ?rest6
      case hy6 => (intro w hSw; (try dsimp only at hSw); go_simp; try with_reducible rfl)
      try simp only [Act.put, List.getElem_toArray, List.getElem_cons_zero, List.getElem_cons_succ, List.setIfInBounds_toArray, List.set_cons_zero, List.set_cons_succ]
      refine wpAnyH_take (i := 8) (v := ?v7) rfl (by kernel_rfl) (by kernel_rfl) (by kernel_rfl) (fun _ _ _ h => h) (Or.inl ⟨by rfl, ?hy7⟩) (by assumption) ?rest7
      case hy7 => (intro w hSw; (try dsimp only at hSw); go_simp; try with_reducible rfl)
      try simp only [Act.put, List.getElem_toArray, List.getElem_cons_zero, List.getElem_cons_succ, List.setIfInBounds_toArray, List.set_cons_zero, List.set_cons_succ]
      refine wpAnyH_ready (rs := [7, 9]) (by kernel_rfl) (by simp) ?_
      refine AllReadyH.cons rfl (fun K hK => ?_) ?_
      · go_simp
        refine (sum_run gs x0 w _ R1 S1 (by omega)).mono ?_
        rintro e W2 ⟨rfl, F2, R2⟩
        have S2 := S1.frm F2 (fun h => h)
        have X2 := X1.frm F2 (fun h => h)
        have O2 := hide (own_frm O1.out F2 (fun _ _ h => h))
        refine hK.out _ _ (X2) (fun hHeld => ?_)
        clear hK K
        refine wpAnyH_ready (rs := [9]) (by kernel_rfl) (by simp) ?_
        refine AllReadyH.cons rfl (fun K hK => ?_) AllReadyH.nil
        go_simp
        have F3 : Frm (fun _ => False) W2 (W2.alloc (.cells #[.slice a0 m0 cap0] 24)) := Frm.alloc _ _ _
        have R3 := R2.frm F3 (fun _ h => h.elim)
        have Row3 : Rds (W2.alloc (.cells #[.slice a0 m0 cap0] 24)) (some ⟨W2.heap.size, 0, none⟩) 1 [.slice a0 m0 cap0] := alloc_rds W2 [.slice a0 m0 cap0] 24 (0, 0)
        have S3 := S2.frm F3 (fun h => h)
        have X3 := X2.frm F3 (fun h => h)
        have O3 := hide (own_frm O2.out F3 (fun _ _ h => h))
        generalize hWm3 : W2.alloc (.cells #[.slice a0 m0 cap0] 24) = W3 at *
        clear hWm3
        refine hK.out _ _ (X3) (fun hHeld => ?_)
        clear hK K
        refine wpAnyH_ready (rs := [10]) (by kernel_rfl) (by simp) ?_
        refine AllReadyH.cons rfl (fun K hK => ?_) AllReadyH.nil
        go_simp
        refine (sums_now w _ (some ⟨W2.heap.size, 0, none⟩) 1 1 [.slice a0 m0 cap0] [x0] x0 (Row3) (All2.cons (prt_old HR0.out HX0.out hc0 R3.below) All2.nil) (by simp) R3 (by omega) (by simp)).mono ?_
        rintro e W4 ⟨rfl, F4, R4⟩
        have S4 := S3.frm F4 (fun h => h)
        have X4 := X3.frm F4 (fun h => h)
        have O4 := hide (own_frm O3.out F4 (fun _ _ h => h))
        refine hK.out _ _ (X4) (fun hHeld => ?_)
        clear hK K
        refine wpAnyH_take (i := 11) (v := ?v8) rfl (by kernel_rfl) (by kernel_rfl) (by kernel_rfl) (fun _ _ _ h => h) (Or.inl ⟨by rfl, ?hy8⟩) (by assumption) ?rest8
        case hy8 => (intro w hSw; (try dsimp only at hSw); go_simp; try with_reducible rfl)
        try simp only [Act.put, List.getElem_toArray, List.getElem_cons_zero, List.getElem_cons_succ, List.setIfInBounds_toArray, List.set_cons_zero, List.set_cons_succ]
        refine wpAnyH_take (i := 12) (v := ?v9) rfl (by kernel_rfl) (by kernel_rfl) (by kernel_rfl) (fun _ _ _ h => h) (Or.inl ⟨by rfl, ?hy9⟩) (by assumption) ?rest9
        case hy9 => (intro w hSw; (try dsimp only at hSw); go_simp; try with_reducible rfl)
        try simp only [Act.put, List.getElem_toArray, List.getElem_cons_zero, List.getElem_cons_succ, List.setIfInBounds_toArray, List.set_cons_zero, List.set_cons_succ]
        refine wpAnyH_take (i := 13) (v := ?v10) rfl (by kernel_rfl) (by kernel_rfl) (by kernel_rfl) (fun _ _ _ h => h) (Or.inl ⟨by rfl, ?hy10⟩) (by assumption) ?rest10
        case hy10 => (intro w hSw; (try dsimp only at hSw); go_simp; try with_reducible rfl)
        try simp only [Act.put, List.getElem_toArray, List.getElem_cons_zero, List.getElem_cons_succ, List.setIfInBounds_toArray, List.set_cons_zero, List.set_cons_succ]
        refine wpAnyH_take (i := 14) (v := ?v11) rfl (by kernel_rfl) (by kernel_rfl) (by kernel_rfl) (fun _ _ _ h => h) (Or.inl ⟨by rfl, ?hy11⟩) (by assumption) ?rest11
        case hy11 => (intro w hSw; (try dsimp only at hSw); go_simp; try with_reducible rfl)
        try simp only [Act.put, List.getElem_toArray, List.getElem_cons_zero, List.getElem_cons_succ, List.setIfInBounds_toArray, List.set_cons_zero, List.set_cons_succ]
        refine wpAnyH_take (i := 15) (v := ?v12) rfl (by kernel_rfl) (by kernel_rfl) (by kernel_rfl) (fun _ _ _ h => h) (Or.inl ⟨by rfl, ?hy12⟩) (by assumption) ?rest12
        case hy12 => (intro w hSw; (try dsimp only at hSw); go_simp; try with_reducible rfl)
        try simp only [Act.put, List.getElem_toArray, List.getElem_cons_zero, List.getElem_cons_succ, List.setIfInBounds_toArray, List.set_cons_zero, List.set_cons_succ]
        refine wpAnyH_take (i := 19) (v := ?v13) rfl (by kernel_rfl) (by kernel_rfl) (by kernel_rfl) (fun _ _ _ h => h) (Or.inl ⟨by rfl, ?hy13⟩) (by assumption) ?rest13
        case hy13 => (intro w hSw; (try dsimp only at hSw); go_simp; try with_reducible rfl)
        try simp only [Act.put, List.getElem_toArray, List.getElem_cons_zero, List.getElem_cons_succ, List.setIfInBounds_toArray, List.set_cons_zero, List.set_cons_succ]
        refine wpAnyH_ready (rs := [16, 20]) (by kernel_rfl) (by simp) ?_
        refine AllReadyH.cons rfl (fun K hK => ?_) ?_
        · go_simp
          have F5 : Frm (fun _ => False) W4 (W4.alloc (.cells #[.slice a0 m0 cap0, .slice none 0 0] 24)) := Frm.alloc _ _ _
          have R5 := R4.frm F5 (fun _ h => h.elim)
          have Row5 : Rds (W4.alloc (.cells #[.slice a0 m0 cap0, .slice none 0 0] 24)) (some ⟨W4.heap.size, 0, none⟩) 2 [.slice a0 m0 cap0, .slice none 0 0] := alloc_rds W4 [.slice a0 m0 cap0, .slice none 0 0] 24 (0, 0)
          have S5 := S4.frm F5 (fun h => h)
          have X5 := X4.frm F5 (fun h => h)
          have O5 := hide (own_frm O4.out F5 (fun _ _ h => h))
          generalize hWm5 : W4.alloc (.cells #[.slice a0 m0 cap0, .slice none 0 0] 24) = W5 at *
          clear hWm5
          refine hK.out _ _ (X5) (fun hHeld => ?_)
          clear hK K
          refine wpAnyH_ready (rs := [17, 20]) (by kernel_rfl) (by simp) ?_
          refine AllReadyH.cons rfl (fun K hK => ?_) ?_
          · refine step_appW one_sl rfl (.tmp 48) (.tmp 50) rfl _ (gs + 1) (.slice A k c) k _ rfl O5.out (some ⟨W4.heap.size, 0, none⟩) 2 2 [.slice a0 m0 cap0, .slice none 0 0] rfl (Row5) two_one hb1 hb2 (by have := S5.lt; omega) ?_
            intro A6 c6 W6 own6 gr6 at6
            have F6 := Frm.of_grown gr6
            have S6 := S5.frm F6 (fun h => by have := HLT.out gs h.symm; omega)
            have X6 := X5.frm F6 (fun h => by have := HLT.out g9 h.symm; omega)
            have R6 := R5.frm F6 (fun i hi => by have := HLT.out i hi.symm; omega)
            refine hK.out _ _ (X6) (fun hHeld => ?_)
            clear hK K
            refine wpAnyH_ready (rs := [18, 20]) (by kernel_rfl) (by simp) ?_
            refine AllReadyH.cons rfl (fun K hK => ?_) ?_
            · go_simp
              refine (sums_now w _ A6 (k + 2) c6 (List.replicate k (.slice none 0 0) ++ [.slice a0 m0 cap0, .slice none 0 0]) (List.replicate k [] ++ [x0, []]) x0 (Seg.of_own (own6)).rds (All2.append (all2_nils _ k) (All2.cons (prt_old HR0.out HX0.out hc0 R6.below) (All2.cons (nil_prt _) All2.nil))) (by rw [List.flatten_append, flat_nils]; simp) R6 (by omega) (by simp; omega)).mono ?_
              rintro e W7 ⟨rfl, F7, R7⟩
              have S7 := S6.frm F7 (fun h => h)
              have X7 := X6.frm F7 (fun h => h)
              refine hK.out _ _ (X7) (fun hHeld => ?_)
              clear hK K
              refine wpAnyH_ready (rs := [20]) (by kernel_rfl) (by simp) ?_
              refine AllReadyH.cons rfl (fun K hK => ?_) AllReadyH.nil
              go_simp
              have F8 : Frm (fun _ => False) W7 (W7.alloc (.cells #[.slice a0 m0 cap0] 24)) := Frm.alloc _ _ _
              have R8 := R7.frm F8 (fun _ h => h.elim)
              have Row8 : Rds (W7.alloc (.cells #[.slice a0 m0 cap0] 24)) (some ⟨W7.heap.size, 0, none⟩) 1 [.slice a0 m0 cap0] := alloc_rds W7 [.slice a0 m0 cap0] 24 (0, 0)
              have S8 := S7.frm F8 (fun h => h)
              have X8 := X7.frm F8 (fun h => h)
              generalize hWm8 : W7.alloc (.cells #[.slice a0 m0 cap0] 24) = W8 at *
              clear hWm8
              refine hK.out _ _ (X8) (fun hHeld => ?_)
              clear hK K
              refine wpAnyH_ready (rs := [21]) (by kernel_rfl) (by simp) ?_
              refine AllReadyH.cons rfl (fun K hK => ?_) AllReadyH.nil
              go_simp
              refine (sums_now w _ (some ⟨W7.heap.size, 0, none⟩) 1 1 [.slice a0 m0 cap0] [x0] x0 (Row8) (All2.cons (prt_old HR0.out HX0.out hc0 R8.below) All2.nil) (by simp) R8 (by omega) (by simp)).mono ?_
              rintro e W9 ⟨rfl, F9, R9⟩
              have S9 := S8.frm F9 (fun h => h)
              have X9 := X8.frm F9 (fun h => h)
              refine hK.out _ _ (X9) (fun hHeld => ?_)
              clear hK K
              refine wpAnyH_take (i := 22) (v := ?v14) rfl (by kernel_rfl) (by kernel_rfl) (by kernel_rfl) (fun _ _ _ h => h) (Or.inl ⟨by rfl, ?hy14⟩) (by assumption) ?rest14
              case hy14 => (intro w hSw; (try dsimp only at hSw); go_simp; try with_reducible rfl)
              try simp only [Act.put, List.getElem_toArray, List.getElem_cons_zero, List.getElem_cons_succ, List.setIfInBounds_toArray, List.set_cons_zero, List.set_cons_succ]
              refine wpAnyH_take (i := 23) (v := ?v15) rfl (by kernel_rfl) (by kernel_rfl) (by kernel_rfl) (fun _ _ _ h => h) (Or.inl ⟨by rfl, ?hy15⟩) (by assumption) ?rest15
              case hy15 => (intro w hSw; (try dsimp only at hSw); go_simp; try with_reducible rfl)
              try simp only [Act.put, List.getElem_toArray, List.getElem_cons_zero, List.getElem_cons_succ, List.setIfInBounds_toArray, List.set_cons_zero, List.set_cons_succ]
              refine wpAnyH_take (i := 24) (v := ?v16) rfl (by kernel_rfl) (by kernel_rfl) (by kernel_rfl) (fun _ _ _ h => h) (Or.inl ⟨by rfl, ?hy16⟩) (by assumption) ?rest16
              case hy16 => (intro w hSw; (try dsimp only at hSw); go_simp; try with_reducible rfl)
              try simp only [Act.put, List.getElem_toArray, List.getElem_cons_zero, List.getElem_cons_succ, List.setIfInBounds_toArray, List.set_cons_zero, List.set_cons_succ]
              refine wpAnyH_done (by kernel_rfl) ?_ _
              go_wp2
              go_ret
              exact ⟨rfl, R9.below⟩
            refine AllReadyH.cons rfl (fun K hK => ?_) AllReadyH.nil
            go_simp
            have F7 : Frm (fun _ => False) W6 (W6.alloc (.cells #[.slice a0 m0 cap0] 24)) := Frm.alloc _ _ _
            have R7 := R6.frm F7 (fun _ h => h.elim)
            have Row7 : Rds (W6.alloc (.cells #[.slice a0 m0 cap0] 24)) (some ⟨W6.heap.size, 0, none⟩) 1 [.slice a0 m0 cap0] := alloc_rds W6 [.slice a0 m0 cap0] 24 (0, 0)
            have S7 := S6.frm F7 (fun h => h)
            have X7 := X6.frm F7 (fun h => h)
            generalize hWm7 : W6.alloc (.cells #[.slice a0 m0 cap0] 24) = W7 at *
            clear hWm7
            refine hK.out _ _ (X7) (fun hHeld => ?_)
            clear hK K
            refine wpAnyH_ready (rs := [18]) (by kernel_rfl) (by simp) ?_
            refine AllReadyH.cons rfl (fun K hK => ?_) AllReadyH.nil
            go_simp
            refine (sums_now w _ A6 (k + 2) c6 (List.replicate k (.slice none 0 0) ++ [.slice a0 m0 cap0, .slice none 0 0]) (List.replicate k [] ++ [x0, []]) x0 (Seg.of_own (own_frm own6 F7 (fun _ _ h => h))).rds (All2.append (all2_nils _ k) (All2.cons (prt_old HR0.out HX0.out hc0 R7.below) (All2.cons (nil_prt _) All2.nil))) (by rw [List.flatten_append, flat_nils]; simp) R7 (by omega) (by simp; omega)).mono ?_
            rintro e W8 ⟨rfl, F8, R8⟩
            have S8 := S7.frm F8 (fun h => h)
            have X8 := X7.frm F8 (fun h => h)
            refine hK.out _ _ (X8) (fun hHeld => ?_)
            clear hK K
            refine wpAnyH_ready (rs := [21]) (by kernel_rfl) (by simp) ?_
            refine AllReadyH.cons rfl (fun K hK => ?_) AllReadyH.nil
            go_simp
            refine (sums_now w _ (some ⟨W6.heap.size, 0, none⟩) 1 1 [.slice a0 m0 cap0] [x0] x0 (Row7.frm F8 (fun _ _ _ h => h)) (All2.cons (prt_old HR0.out HX0.out hc0 R8.below) All2.nil) (by simp) R8 (by omega) (by simp)).mono ?_
            rintro e W9 ⟨rfl, F9, R9⟩
            have S9 := S8.frm F9 (fun h => h)
            have X9 := X8.frm F9 (fun h => h)
            refine hK.out _ _ (X9) (fun hHeld => ?_)
            clear hK K
            refine wpAnyH_take (i := 22) (v := ?v17) rfl (by kernel_rfl) (by kernel_rfl) (by kernel_rfl) (fun _ _ _ h => h) (Or.inl ⟨by rfl, ?hy17⟩) (by assumption) ?rest17
            case hy17 => (intro w hSw; (try dsimp only at hSw); go_simp; try with_reducible rfl)
            try simp only [Act.put, List.getElem_toArray, List.getElem_cons_zero, List.getElem_cons_succ, List.setIfInBounds_toArray, List.set_cons_zero, List.set_cons_succ]
            refine wpAnyH_take (i := 23) (v := ?v18) rfl (by kernel_rfl) (by kernel_rfl) (by kernel_rfl) (fun _ _ _ h => h) (Or.inl ⟨by rfl, ?hy18⟩) (by assumption) ?rest18
            case hy18 => (intro w hSw; (try dsimp only at hSw); go_simp; try with_reducible rfl)
            try simp only [Act.put, List.getElem_toArray, List.getElem_cons_zero, List.getElem_cons_succ, List.setIfInBounds_toArray, List.set_cons_zero, List.set_cons_succ]
            refine wpAnyH_take (i := 24) (v := ?v19) rfl (by kernel_rfl) (by kernel_rfl) (by kernel_rfl) (fun _ _ _ h => h) (Or.inl ⟨by rfl, ?hy19⟩) (by assumption) ?rest19
            case hy19 => (intro w hSw; (try dsimp only at hSw); go_simp; try with_reducible rfl)
            try simp only [Act.put, List.getElem_toArray, List.getElem_cons_zero, List.getElem_cons_succ, List.setIfInBounds_toArray, List.set_cons_zero, List.set_cons_succ]
            refine wpAnyH_done (by kernel_rfl) ?_ _
            go_wp2
            go_ret
            exact ⟨rfl, R9.below⟩
          refine AllReadyH.cons rfl (fun K hK => ?_) AllReadyH.nil
          go_simp
          have F6 : Frm (fun _ => False) W5 (W5.alloc (.cells #[.slice a0 m0 cap0] 24)) := Frm.alloc _ _ _
          have R6 := R5.frm F6 (fun _ h => h.elim)
          have Row6 : Rds (W5.alloc (.cells #[.slice a0 m0 cap0] 24)) (some ⟨W5.heap.size, 0, none⟩) 1 [.slice a0 m0 cap0] := alloc_rds W5 [.slice a0 m0 cap0] 24 (0, 0)
          have S6 := S5.frm F6 (fun h => h)
          have X6 := X5.frm F6 (fun h => h)
          have O6 := hide (own_frm O5.out F6 (fun _ _ h => h))
          generalize hWm6 : W5.alloc (.cells #[.slice a0 m0 cap0] 24) = W6 at *
          clear hWm6
          refine hK.out _ _ (X6) (fun hHeld => ?_)
          clear hK K
          refine wpAnyH_ready (rs := [17]) (by kernel_rfl) (by simp) ?_
          refine AllReadyH.cons rfl (fun K hK => ?_) AllReadyH.nil
          refine step_appW one_sl rfl (.tmp 48) (.tmp 50) rfl _ (gs + 1) (.slice A k c) k _ rfl O6.out (some ⟨W4.heap.size, 0, none⟩) 2 2 [.slice a0 m0 cap0, .slice none 0 0] rfl (Row5.frm F6 (fun _ _ _ h => h)) two_one hb1 hb2 (by have := S6.lt; omega) ?_
          intro A7 c7 W7 own7 gr7 at7
          have F7 := Frm.of_grown gr7
          have S7 := S6.frm F7 (fun h => by have := HLT.out gs h.symm; omega)
          have X7 := X6.frm F7 (fun h => by have := HLT.out g9 h.symm; omega)
          have R7 := R6.frm F7 (fun i hi => by have := HLT.out i hi.symm; omega)
          refine hK.out _ _ (X7) (fun hHeld => ?_)
          clear hK K
          refine wpAnyH_ready (rs := [18]) (by kernel_rfl) (by simp) ?_
          refine AllReadyH.cons rfl (fun K hK => ?_) AllReadyH.nil
          go_simp
          refine (sums_now w _ A7 (k + 2) c7 (List.replicate k (.slice none 0 0) ++ [.slice a0 m0 cap0, .slice none 0 0]) (List.replicate k [] ++ [x0, []]) x0 (Seg.of_own (own7)).rds (All2.append (all2_nils _ k) (All2.cons (prt_old HR0.out HX0.out hc0 R7.below) (All2.cons (nil_prt _) All2.nil))) (by rw [List.flatten_append, flat_nils]; simp) R7 (by omega) (by simp; omega)).mono ?_
          rintro e W8 ⟨rfl, F8, R8⟩
          have S8 := S7.frm F8 (fun h => h)
          have X8 := X7.frm F8 (fun h => h)
          refine hK.out _ _ (X8) (fun hHeld => ?_)
          clear hK K
          refine wpAnyH_ready (rs := [21]) (by kernel_rfl) (by simp) ?_
          refine AllReadyH.cons rfl (fun K hK => ?_) AllReadyH.nil
          go_simp
          refine (sums_now w _ (some ⟨W5.heap.size, 0, none⟩) 1 1 [.slice a0 m0 cap0] [x0] x0 ((Row6.frm F7 (fun _ p hp => by injection hp with hp; subst hp; exact fun h => by have h2 : gs < W5.heap.size ∧ W5.heap.size < g9 := HLT.out _ h.symm; have := X5.lt; omega)).frm F8 (fun _ _ _ h => h)) (All2.cons (prt_old HR0.out HX0.out hc0 R8.below) All2.nil) (by simp) R8 (by omega) (by simp)).mono ?_
          rintro e W9 ⟨rfl, F9, R9⟩
          have S9 := S8.frm F9 (fun h => h)
          have X9 := X8.frm F9 (fun h => h)
          refine hK.out _ _ (X9) (fun hHeld => ?_)
          clear hK K
          refine wpAnyH_take (i := 22) (v := ?v20) rfl (by kernel_rfl) (by kernel_rfl) (by kernel_rfl) (fun _ _ _ h => h) (Or.inl ⟨by rfl, ?hy20⟩) (by assumption) ?rest20
          case hy20 => (intro w hSw; (try dsimp only at hSw); go_simp; try with_reducible rfl)
          try simp only [Act.put, List.getElem_toArray, List.getElem_cons_zero, List.getElem_cons_succ, List.setIfInBounds_toArray, List.set_cons_zero, List.set_cons_succ]
          refine wpAnyH_take (i := 23) (v := ?v21) rfl (by kernel_rfl) (by kernel_rfl) (by kernel_rfl) (fun _ _ _ h => h) (Or.inl ⟨by rfl, ?hy21⟩) (by assumption) ?rest21
          case hy21 => (intro w hSw; (try dsimp only at hSw); go_simp; try with_reducible rfl)
          try simp only [Act.put, List.getElem_toArray, List.getElem_cons_zero, List.getElem_cons_succ, List.setIfInBounds_toArray, List.set_cons_zero, List.set_cons_succ]
          refine wpAnyH_take (i := 24) (v := ?v22) rfl (by kernel_rfl) (by kernel_rfl) (by kernel_rfl) (fun _ _ _ h => h) (Or.inl ⟨by rfl, ?hy22⟩) (by assumption) ?rest22
          case hy22 => (intro w hSw; (try dsimp only at hSw); go_simp; try with_reducible rfl)
          try simp only [Act.put, List.getElem_toArray, List.getElem_cons_zero, List.getElem_cons_succ, List.setIfInBounds_toArray, List.set_cons_zero, List.set_cons_succ]
          refine wpAnyH_done (by kernel_rfl) ?_ _
          go_wp2
          go_ret
          exact ⟨rfl, R9.below⟩
        refine AllReadyH.cons rfl (fun K hK => ?_) AllReadyH.nil
        go_simp
        have F5 : Frm (fun _ => False) W4 (W4.alloc (.cells #[.slice a0 m0 cap0] 24)) := Frm.alloc _ _ _
        have R5 := R4.frm F5 (fun _ h => h.elim)
        have Row5 : Rds (W4.alloc (.cells #[.slice a0 m0 cap0] 24)) (some ⟨W4.heap.size, 0, none⟩) 1 [.slice a0 m0 cap0] := alloc_rds W4 [.slice a0 m0 cap0] 24 (0, 0)
        have S5 := S4.frm F5 (fun h => h)
        have X5 := X4.frm F5 (fun h => h)
        have O5 := hide (own_frm O4.out F5 (fun _ _ h => h))
        generalize hWm5 : W4.alloc (.cells #[.slice a0 m0 cap0] 24) = W5 at *
        clear hWm5
        refine hK.out _ _ (X5) (fun hHeld => ?_)
        clear hK K
        refine wpAnyH_ready (rs := [16]) (by kernel_rfl) (by simp) ?_
        refine AllReadyH.cons rfl (fun K hK => ?_) AllReadyH.nil
        go_simp
        have F6 : Frm (fun _ => False) W5 (W5.alloc (.cells #[.slice a0 m0 cap0, .slice none 0 0] 24)) := Frm.alloc _ _ _
        have R6 := R5.frm F6 (fun _ h => h.elim)
        have Row6 : Rds (W5.alloc (.cells #[.slice a0 m0 cap0, .slice none 0 0] 24)) (some ⟨W5.heap.size, 0, none⟩) 2 [.slice a0 m0 cap0, .slice none 0 0] := alloc_rds W5 [.slice a0 m0 cap0, .slice none 0 0] 24 (0, 0)
        have S6 := S5.frm F6 (fun h => h)
        have X6 := X5.frm F6 (fun h => h)
        have O6 := hide (own_frm O5.out F6 (fun _ _ h => h))
        generalize hWm6 : W5.alloc (.cells #[.slice a0 m0 cap0, .slice none 0 0] 24) = W6 at *
        clear hWm6
        refine hK.out _ _ (X6) (fun hHeld => ?_)
        clear hK K
        refine wpAnyH_ready (rs := [17]) (by kernel_rfl) (by simp) ?_
        refine AllReadyH.cons rfl (fun K hK => ?_) AllReadyH.nil
        refine step_appW one_sl rfl (.tmp 48) (.tmp 50) rfl _ (gs + 1) (.slice A k c) k _ rfl O6.out (some ⟨W5.heap.size, 0, none⟩) 2 2 [.slice a0 m0 cap0, .slice none 0 0] rfl (Row6) two_one hb1 hb2 (by have := S6.lt; omega) ?_
        intro A7 c7 W7 own7 gr7 at7
        have F7 := Frm.of_grown gr7
        have S7 := S6.frm F7 (fun h => by have := HLT.out gs h.symm; omega)
        have X7 := X6.frm F7 (fun h => by have := HLT.out g9 h.symm; omega)
        have R7 := R6.frm F7 (fun i hi => by have := HLT.out i hi.symm; omega)
        refine hK.out _ _ (X7) (fun hHeld => ?_)
        clear hK K
        refine wpAnyH_ready (rs := [18]) (by kernel_rfl) (by simp) ?_
        refine AllReadyH.cons rfl (fun K hK => ?_) AllReadyH.nil
        go_simp
        refine (sums_now w _ A7 (k + 2) c7 (List.replicate k (.slice none 0 0) ++ [.slice a0 m0 cap0, .slice none 0 0]) (List.replicate k [] ++ [x0, []]) x0 (Seg.of_own (own7)).rds (All2.append (all2_nils _ k) (All2.cons (prt_old HR0.out HX0.out hc0 R7.below) (All2.cons (nil_prt _) All2.nil))) (by rw [List.flatten_append, flat_nils]; simp) R7 (by omega) (by simp; omega)).mono ?_
        rintro e W8 ⟨rfl, F8, R8⟩
        have S8 := S7.frm F8 (fun h => h)
        have X8 := X7.frm F8 (fun h => h)
        refine hK.out _ _ (X8) (fun hHeld => ?_)
        clear hK K
        refine wpAnyH_ready (rs := [21]) (by kernel_rfl) (by simp) ?_
        refine AllReadyH.cons rfl (fun K hK => ?_) AllReadyH.nil
        go_simp
        refine (sums_now w _ (some ⟨W4.heap.size, 0, none⟩) 1 1 [.slice a0 m0 cap0] [x0] x0 (((Row5.frm F6 (fun _ _ _ h => h)).frm F7 (fun _ p hp => by injection hp with hp; subst hp; exact fun h => by have h2 : gs < W4.heap.size ∧ W4.heap.size < g9 := HLT.out _ h.symm; have := X4.lt; omega)).frm F8 (fun _ _ _ h => h)) (All2.cons (prt_old HR0.out HX0.out hc0 R8.below) All2.nil) (by simp) R8 (by omega) (by simp)).mono ?_
        rintro e W9 ⟨rfl, F9, R9⟩
        have S9 := S8.frm F9 (fun h => h)
        have X9 := X8.frm F9 (fun h => h)
        refine hK.out _ _ (X9) (fun hHeld => ?_)
        clear hK K
        refine wpAnyH_take (i := 22) (v := ?v23) rfl (by kernel_rfl) (by kernel_rfl) (by kernel_rfl) (fun _ _ _ h => h) (Or.inl ⟨by rfl, ?hy23⟩) (by assumption) ?rest23
        case hy23 => (intro w hSw; (try dsimp only at hSw); go_simp; try with_reducible rfl)
        try simp only [Act.put, List.getElem_toArray, List.getElem_cons_zero, List.getElem_cons_succ, List.setIfInBounds_toArray, List.set_cons_zero, List.set_cons_succ]
        refine wpAnyH_take (i := 23) (v := ?v24) rfl (by kernel_rfl) (by kernel_rfl) (by kernel_rfl) (fun _ _ _ h => h) (Or.inl ⟨by rfl, ?hy24⟩) (by assumption) ?rest24
        case hy24 => (intro w hSw; (try dsimp only at hSw); go_simp; try with_reducible rfl)
        try simp only [Act.put, List.getElem_toArray, List.getElem_cons_zero, List.getElem_cons_succ, List.setIfInBounds_toArray, List.set_cons_zero, List.set_cons_succ]
        refine wpAnyH_take (i := 24) (v := ?v25) rfl (by kernel_rfl) (by kernel_rfl) (by kernel_rfl) (fun _ _ _ h => h) (Or.inl ⟨by rfl, ?hy25⟩) (by assumption) ?rest25
        case hy25 => (intro w hSw; (try dsimp only at hSw); go_simp; try with_reducible rfl)
        try simp only [Act.put, List.getElem_toArray, List.getElem_cons_zero, List.getElem_cons_succ, List.setIfInBounds_toArray, List.set_cons_zero, List.set_cons_succ]
        refine wpAnyH_done (by kernel_rfl) ?_ _
        go_wp2
        go_ret
        exact ⟨rfl, R9.below⟩
      refine AllReadyH.cons rfl (fun K hK => ?_) AllReadyH.nil
      go_simp
      have F2 : Frm (fun _ => False) W1 (W1.alloc (.cells #[.slice a0 m0 cap0] 24)) := Frm.alloc _ _ _
      have R2 := R1.frm F2 (fun _ h => h.elim)
      have Row2 : Rds (W1.alloc (.cells #[.slice a0 m0 cap0] 24)) (some ⟨W1.heap.size, 0, none⟩) 1 [.slice a0 m0 cap0] := alloc_rds W1 [.slice a0 m0 cap0] 24 (0, 0)
      have S2 := S1.frm F2 (fun h => h)
      have X2 := X1.frm F2 (fun h => h)
      have O2 := hide (own_frm O1.out F2 (fun _ _ h => h))
      generalize hWm2 : W1.alloc (.cells #[.slice a0 m0 cap0] 24) = W2 at *
      clear hWm2
      refine hK.out _ _ (X2) (fun hHeld => ?_)
      clear hK K
      refine wpAnyH_ready (rs := [7]) (by kernel_rfl) (by simp) ?_
      refine AllReadyH.cons rfl (fun K hK => ?_) AllReadyH.nil
      go_simp
      refine (sum_run gs x0 w _ R2 S2 (by omega)).mono ?_
      rintro e W3 ⟨rfl, F3, R3⟩
      have S3 := S2.frm F3 (fun h => h)
      have X3 := X2.frm F3 (fun h => h)
      have O3 := hide (own_frm O2.out F3 (fun _ _ h => h))
      refine hK.out _ _ (X3) (fun hHeld => ?_)
      clear hK K
      refine wpAnyH_ready (rs := [10]) (by kernel_rfl) (by simp) ?_
      refine AllReadyH.cons rfl (fun K hK => ?_) AllReadyH.nil
      go_simp
      refine (sums_now w _ (some ⟨W1.heap.size, 0, none⟩) 1 1 [.slice a0 m0 cap0] [x0] x0 (Row2.frm F3 (fun _ _ _ h => h)) (All2.cons (prt_old HR0.out HX0.out hc0 R3.below) All2.nil) (by simp) R3 (by omega) (by simp)).mono ?_
      rintro e W4 ⟨rfl, F4, R4⟩
      have S4 := S3.frm F4 (fun h => h)
      have X4 := X3.frm F4 (fun h => h)
      have O4 := hide (own_frm O3.out F4 (fun _ _ h => h))
      refine hK.out _ _ (X4) (fun hHeld => ?_)
      clear hK K
      refine wpAnyH_take (i := 11) (v := ?v26) rfl (by kernel_rfl) (by kernel_rfl) (by kernel_rfl) (fun _ _ _ h => h) (Or.inl ⟨by rfl, ?hy26⟩) (by assumption) ?rest26
      case hy26 => (intro w hSw; (try dsimp only at hSw); go_simp; try with_reducible rfl)
      try simp only [Act.put, List.getElem_toArray, List.getElem_cons_zero, List.getElem_cons_succ, List.setIfInBounds_toArray, List.set_cons_zero, List.set_cons_succ]
      refine wpAnyH_take (i := 12) (v := ?v27) rfl (by kernel_rfl) (by kernel_rfl) (by kernel_rfl) (fun _ _ _ h => h) (Or.inl ⟨by rfl, ?hy27⟩) (by assumption) ?rest27
      case hy27 => (intro w hSw; (try dsimp only at hSw); go_simp; try with_reducible rfl)
      try simp only [Act.put, List.getElem_toArray, List.getElem_cons_zero, List.getElem_cons_succ, List.setIfInBounds_toArray, List.set_cons_zero, List.set_cons_succ]
      refine wpAnyH_take (i := 13) (v := ?v28) rfl (by kernel_rfl) (by kernel_rfl) (by kernel_rfl) (fun _ _ _ h => h) (Or.inl ⟨by rfl, ?hy28⟩) (by assumption) ?rest28
      case hy28 => (intro w hSw; (try dsimp only at hSw); go_simp; try with_reducible rfl)
      try simp only [Act.put, List.getElem_toArray, List.getElem_cons_zero, List.getElem_cons_succ, List.setIfInBounds_toArray, List.set_cons_zero, List.set_cons_succ]
      refine wpAnyH_take (i := 14) (v := ?v29) rfl (by kernel_rfl) (by kernel_rfl) (by kernel_rfl) (fun _ _ _ h => h) (Or.inl ⟨by rfl, ?hy29⟩) (by assumption) ?rest29
      case hy29 => (intro w hSw; (try dsimp only at hSw); go_simp; try with_reducible rfl)
      try simp only [Act.put, List.getElem_toArray, List.getElem_cons_zero, List.getElem_cons_succ, List.setIfInBounds_toArray, List.set_cons_zero, List.set_cons_succ]
      refine wpAnyH_take (i := 15) (v := ?v30) rfl (by kernel_rfl) (by kernel_rfl) (by kernel_rfl) (fun _ _ _ h => h) (Or.inl ⟨by rfl, ?hy30⟩) (by assumption) ?rest30
      case hy30 => (intro w hSw; (try dsimp only at hSw); go_simp; try with_reducible rfl)
      try simp only [Act.put, List.getElem_toArray, List.getElem_cons_zero, List.getElem_cons_succ, List.setIfInBounds_toArray, List.set_cons_zero, List.set_cons_succ]
      refine wpAnyH_take (i := 19) (v := ?v31) rfl (by kernel_rfl) (by kernel_rfl) (by kernel_rfl) (fun _ _ _ h => h) (Or.inl ⟨by rfl, ?hy31⟩) (by assumption) ?rest31
      case hy31 => (intro w hSw; (try dsimp only at hSw); go_simp; try with_reducible rfl)
      try simp only [Act.put, List.getElem_toArray, List.getElem_cons_zero, List.getElem_cons_succ, List.setIfInBounds_toArray, List.set_cons_zero, List.set_cons_succ]
      refine wpAnyH_ready (rs := [16, 20]) (by kernel_rfl) (by simp) ?_
      refine AllReadyH.cons rfl (fun K hK => ?_) ?_
      · go_simp
        have F5 : Frm (fun _ => False) W4 (W4.alloc (.cells #[.slice a0 m0 cap0, .slice none 0 0] 24)) := Frm.alloc _ _ _
        have R5 := R4.frm F5 (fun _ h => h.elim)
        have Row5 : Rds (W4.alloc (.cells #[.slice a0 m0 cap0, .slice none 0 0] 24)) (some ⟨W4.heap.size, 0, none⟩) 2 [.slice a0 m0 cap0, .slice none 0 0] := alloc_rds W4 [.slice a0 m0 cap0, .slice none 0 0] 24 (0, 0)
        have S5 := S4.frm F5 (fun h => h)
        have X5 := X4.frm F5 (fun h => h)
        have O5 := hide (own_frm O4.out F5 (fun _ _ h => h))
        generalize hWm5 : W4.alloc (.cells #[.slice a0 m0 cap0, .slice none 0 0] 24) = W5 at *
        clear hWm5
        refine hK.out _ _ (X5) (fun hHeld => ?_)
        clear hK K
        refine wpAnyH_ready (rs := [17, 20]) (by kernel_rfl) (by simp) ?_
        refine AllReadyH.cons rfl (fun K hK => ?_) ?_
        · refine step_appW one_sl rfl (.tmp 48) (.tmp 50) rfl _ (gs + 1) (.slice A k c) k _ rfl O5.out (some ⟨W4.heap.size, 0, none⟩) 2 2 [.slice a0 m0 cap0, .slice none 0 0] rfl (Row5) two_one hb1 hb2 (by have := S5.lt; omega) ?_
          intro A6 c6 W6 own6 gr6 at6
          have F6 := Frm.of_grown gr6
          have S6 := S5.frm F6 (fun h => by have := HLT.out gs h.symm; omega)
          have X6 := X5.frm F6 (fun h => by have := HLT.out g9 h.symm; omega)
          have R6 := R5.frm F6 (fun i hi => by have := HLT.out i hi.symm; omega)
          refine hK.out _ _ (X6) (fun hHeld => ?_)
          clear hK K
          refine wpAnyH_ready (rs := [18, 20]) (by kernel_rfl) (by simp) ?_
          refine AllReadyH.cons rfl (fun K hK => ?_) ?_
          · go_simp
            refine (sums_now w _ A6 (k + 2) c6 (List.replicate k (.slice none 0 0) ++ [.slice a0 m0 cap0, .slice none 0 0]) (List.replicate k [] ++ [x0, []]) x0 (Seg.of_own (own6)).rds (All2.append (all2_nils _ k) (All2.cons (prt_old HR0.out HX0.out hc0 R6.below) (All2.cons (nil_prt _) All2.nil))) (by rw [List.flatten_append, flat_nils]; simp) R6 (by omega) (by simp; omega)).mono ?_
            rintro e W7 ⟨rfl, F7, R7⟩
            have S7 := S6.frm F7 (fun h => h)
            have X7 := X6.frm F7 (fun h => h)
            refine hK.out _ _ (X7) (fun hHeld => ?_)
            clear hK K
            refine wpAnyH_ready (rs := [20]) (by kernel_rfl) (by simp) ?_
            refine AllReadyH.cons rfl (fun K hK => ?_) AllReadyH.nil
            go_simp
            have F8 : Frm (fun _ => False) W7 (W7.alloc (.cells #[.slice a0 m0 cap0] 24)) := Frm.alloc _ _ _
            have R8 := R7.frm F8 (fun _ h => h.elim)
            have Row8 : Rds (W7.alloc (.cells #[.slice a0 m0 cap0] 24)) (some ⟨W7.heap.size, 0, none⟩) 1 [.slice a0 m0 cap0] := alloc_rds W7 [.slice a0 m0 cap0] 24 (0, 0)
            have S8 := S7.frm F8 (fun h => h)
            have X8 := X7.frm F8 (fun h => h)
            generalize hWm8 : W7.alloc (.cells #[.slice a0 m0 cap0] 24) = W8 at *
            clear hWm8
            refine hK.out _ _ (X8) (fun hHeld => ?_)
            clear hK K
            refine wpAnyH_ready (rs := [21]) (by kernel_rfl) (by simp) ?_
            refine AllReadyH.cons rfl (fun K hK => ?_) AllReadyH.nil
            go_simp
            refine (sums_now w _ (some ⟨W7.heap.size, 0, none⟩) 1 1 [.slice a0 m0 cap0] [x0] x0 (Row8) (All2.cons (prt_old HR0.out HX0.out hc0 R8.below) All2.nil) (by simp) R8 (by omega) (by simp)).mono ?_
            rintro e W9 ⟨rfl, F9, R9⟩
            have S9 := S8.frm F9 (fun h => h)
            have X9 := X8.frm F9 (fun h => h)
            refine hK.out _ _ (X9) (fun hHeld => ?_)
            clear hK K
            refine wpAnyH_take (i := 22) (v := ?v32) rfl (by kernel_rfl) (by kernel_rfl) (by kernel_rfl) (fun _ _ _ h => h) (Or.inl ⟨by rfl, ?hy32⟩) (by assumption) ?rest32
            case hy32 => (intro w hSw; (try dsimp only at hSw); go_simp; try with_reducible rfl)
            try simp only [Act.put, List.getElem_toArray, List.getElem_cons_zero, List.getElem_cons_succ, List.setIfInBounds_toArray, List.set_cons_zero, List.set_cons_succ]
            refine wpAnyH_take (i := 23) (v := ?v33) rfl (by kernel_rfl) (by kernel_rfl) (by kernel_rfl) (fun _ _ _ h => h) (Or.inl ⟨by rfl, ?hy33⟩) (by assumption) ?rest33
            case hy33 => (intro w hSw; (try dsimp only at hSw); go_simp; try with_reducible rfl)
            try simp only [Act.put, List.getElem_toArray, List.getElem_cons_zero, List.getElem_cons_succ, List.setIfInBounds_toArray, List.set_cons_zero, List.set_cons_succ]
            refine wpAnyH_take (i := 24) (v := ?v34) rfl (by kernel_rfl) (by kernel_rfl) (by kernel_rfl) (fun _ _ _ h => h) (Or.inl ⟨by rfl, ?hy34⟩) (by assumption) ?rest34
            case hy34 => (intro w hSw; (try dsimp only at hSw); go_simp; try with_reducible rfl)
            try simp only [Act.put, List.getElem_toArray, List.getElem_cons_zero, List.getElem_cons_succ, List.setIfInBounds_toArray, List.set_cons_zero, List.set_cons_succ]
            refine wpAnyH_done (by kernel_rfl) ?_ _
            go_wp2
            go_ret
            exact ⟨rfl, R9.below⟩
          refine AllReadyH.cons rfl (fun K hK => ?_) AllReadyH.nil
          go_simp
          have F7 : Frm (fun _ => False) W6 (W6.alloc (.cells #[.slice a0 m0 cap0] 24)) := Frm.alloc _ _ _
          have R7 := R6.frm F7 (fun _ h => h.elim)
          have Row7 : Rds (W6.alloc (.cells #[.slice a0 m0 cap0] 24)) (some ⟨W6.heap.size, 0, none⟩) 1 [.slice a0 m0 cap0] := alloc_rds W6 [.slice a0 m0 cap0] 24 (0, 0)
          have S7 := S6.frm F7 (fun h => h)
          have X7 := X6.frm F7 (fun h => h)
          generalize hWm7 : W6.alloc (.cells #[.slice a0 m0 cap0] 24) = W7 at *
          clear hWm7
          refine hK.out _ _ (X7) (fun hHeld => ?_)
          clear hK K
          refine wpAnyH_ready (rs := [18]) (by kernel_rfl) (by simp) ?_
          refine AllReadyH.cons rfl (fun K hK => ?_) AllReadyH.nil
          go_simp
          refine (sums_now w _ A6 (k + 2) c6 (List.replicate k (.slice none 0 0) ++ [.slice a0 m0 cap0, .slice none 0 0]) (List.replicate k [] ++ [x0, []]) x0 (Seg.of_own (own_frm own6 F7 (fun _ _ h => h))).rds (All2.append (all2_nils _ k) (All2.cons (prt_old HR0.out HX0.out hc0 R7.below) (All2.cons (nil_prt _) All2.nil))) (by rw [List.flatten_append, flat_nils]; simp) R7 (by omega) (by simp; omega)).mono ?_
          rintro e W8 ⟨rfl, F8, R8⟩
          have S8 := S7.frm F8 (fun h => h)
          have X8 := X7.frm F8 (fun h => h)
          refine hK.out _ _ (X8) (fun hHeld => ?_)
          clear hK K
          refine wpAnyH_ready (rs := [21]) (by kernel_rfl) (by simp) ?_
          refine AllReadyH.cons rfl (fun K hK => ?_) AllReadyH.nil
          go_simp
          refine (sums_now w _ (some ⟨W6.heap.size, 0, none⟩) 1 1 [.slice a0 m0 cap0] [x0] x0 (Row7.frm F8 (fun _ _ _ h => h)) (All2.cons (prt_old HR0.out HX0.out hc0 R8.below) All2.nil) (by simp) R8 (by omega) (by simp)).mono ?_
          rintro e W9 ⟨rfl, F9, R9⟩
          have S9 := S8.frm F9 (fun h => h)
          have X9 := X8.frm F9 (fun h => h)
          refine hK.out _ _ (X9) (fun hHeld => ?_)
          clear hK K
          refine wpAnyH_take (i := 22) (v := ?v35) rfl (by kernel_rfl) (by kernel_rfl) (by kernel_rfl) (fun _ _ _ h => h) (Or.inl ⟨by rfl, ?hy35⟩) (by assumption) ?rest35
          case hy35 => (intro w hSw; (try dsimp only at hSw); go_simp; try with_reducible rfl)
          try simp only [Act.put, List.getElem_toArray, List.getElem_cons_zero, List.getElem_cons_succ, List.setIfInBounds_toArray, List.set_cons_zero, List.set_cons_succ]
          refine wpAnyH_take (i := 23) (v := ?v36) rfl (by kernel_rfl) (by kernel_rfl) (by kernel_rfl) (fun _ _ _ h => h) (Or.inl ⟨by rfl, ?hy36⟩) (by assumption) ?rest36
          case hy36 => (intro w hSw; (try dsimp only at hSw); go_simp; try with_reducible rfl)
          try simp only [Act.put, List.getElem_toArray, List.getElem_cons_zero, List.getElem_cons_succ, List.setIfInBounds_toArray, List.set_cons_zero, List.set_cons_succ]
          refine wpAnyH_take (i := 24) (v := ?v37) rfl (by kernel_rfl) (by kernel_rfl) (by kernel_rfl) (fun _ _ _ h => h) (Or.inl ⟨by rfl, ?hy37⟩) (by assumption) ?rest37
          case hy37 => (intro w hSw; (try dsimp only at hSw); go_simp; try with_reducible rfl)
          try simp only [Act.put, List.getElem_toArray, List.getElem_cons_zero, List.getElem_cons_succ, List.setIfInBounds_toArray, List.set_cons_zero, List.set_cons_succ]
          refine wpAnyH_done (by kernel_rfl) ?_ _
          go_wp2
          go_ret
          exact ⟨rfl, R9.below⟩
        refine AllReadyH.cons rfl (fun K hK => ?_) AllReadyH.nil
        go_simp
        have F6 : Frm (fun _ => False) W5 (W5.alloc (.cells #[.slice a0 m0 cap0] 24)) := Frm.alloc _ _ _
        have R6 := R5.frm F6 (fun _ h => h.elim)
        have Row6 : Rds (W5.alloc (.cells #[.slice a0 m0 cap0] 24)) (some ⟨W5.heap.size, 0, none⟩) 1 [.slice a0 m0 cap0] := alloc_rds W5 [.slice a0 m0 cap0] 24 (0, 0)
        have S6 := S5.frm F6 (fun h => h)
        have X6 := X5.frm F6 (fun h => h)
        have O6 := hide (own_frm O5.out F6 (fun _ _ h => h))
        generalize hWm6 : W5.alloc (.cells #[.slice a0 m0 cap0] 24) = W6 at *
        clear hWm6
        refine hK.out _ _ (X6) (fun hHeld => ?_)
        clear hK K
        refine wpAnyH_ready (rs := [17]) (by kernel_rfl) (by simp) ?_
        refine AllReadyH.cons rfl (fun K hK => ?_) AllReadyH.nil
        refine step_appW one_sl rfl (.tmp 48) (.tmp 50) rfl _ (gs + 1) (.slice A k c) k _ rfl O6.out (some ⟨W4.heap.size, 0, none⟩) 2 2 [.slice a0 m0 cap0, .slice none 0 0] rfl (Row5.frm F6 (fun _ _ _ h => h)) two_one hb1 hb2 (by have := S6.lt; omega) ?_
        intro A7 c7 W7 own7 gr7 at7
        have F7 := Frm.of_grown gr7
        have S7 := S6.frm F7 (fun h => by have := HLT.out gs h.symm; omega)
        have X7 := X6.frm F7 (fun h => by have := HLT.out g9 h.symm; omega)
        have R7 := R6.frm F7 (fun i hi => by have := HLT.out i hi.symm; omega)
        refine hK.out _ _ (X7) (fun hHeld => ?_)
        clear hK K
        refine wpAnyH_ready (rs := [18]) (by kernel_rfl) (by simp) ?_
        refine AllReadyH.cons rfl (fun K hK => ?_) AllReadyH.nil
        go_simp
        refine (sums_now w _ A7 (k + 2) c7 (List.replicate k (.slice none 0 0) ++ [.slice a0 m0 cap0, .slice none 0 0]) (List.replicate k [] ++ [x0, []]) x0 (Seg.of_own (own7)).rds (All2.append (all2_nils _ k) (All2.cons (prt_old HR0.out HX0.out hc0 R7.below) (All2.cons (nil_prt _) All2.nil))) (by rw [List.flatten_append, flat_nils]; simp) R7 (by omega) (by simp; omega)).mono ?_
        rintro e W8 ⟨rfl, F8, R8⟩
        have S8 := S7.frm F8 (fun h => h)
        have X8 := X7.frm F8 (fun h => h)
        refine hK.out _ _ (X8) (fun hHeld => ?_)
        clear hK K
        refine wpAnyH_ready (rs := [21]) (by kernel_rfl) (by simp) ?_
        refine AllReadyH.cons rfl (fun K hK => ?_) AllReadyH.nil
        go_simp
        refine (sums_now w _ (some ⟨W5.heap.size, 0, none⟩) 1 1 [.slice a0 m0 cap0] [x0] x0 ((Row6.frm F7 (fun _ p hp => by injection hp with hp; subst hp; exact fun h => by have h2 : gs < W5.heap.size ∧ W5.heap.size < g9 := HLT.out _ h.symm; have := X5.lt; omega)).frm F8 (fun _ _ _ h => h)) (All2.cons (prt_old HR0.out HX0.out hc0 R8.below) All2.nil) (by simp) R8 (by omega) (by simp)).mono ?_
        rintro e W9 ⟨rfl, F9, R9⟩
        have S9 := S8.frm F9 (fun h => h)
        have X9 := X8.frm F9 (fun h => h)
        refine hK.out _ _ (X9) (fun hHeld => ?_)
        clear hK K
        refine wpAnyH_take (i := 22) (v := ?v38) rfl (by kernel_rfl) (by kernel_rfl) (by kernel_rfl) (fun _ _ _ h => h) (Or.inl ⟨by rfl, ?hy38⟩) (by assumption) ?rest38
        case hy38 => (intro w hSw; (try dsimp only at hSw); go_simp; try with_reducible rfl)
        try simp only [Act.put, List.getElem_toArray, List.getElem_cons_zero, List.getElem_cons_succ, List.setIfInBounds_toArray, List.set_cons_zero, List.set_cons_succ]
        refine wpAnyH_take (i := 23) (v := ?v39) rfl (by kernel_rfl) (by kernel_rfl) (by kernel_rfl) (fun _ _ _ h => h) (Or.inl ⟨by rfl, ?hy39⟩) (by assumption) ?rest39
        case hy39 => (intro w hSw; (try dsimp only at hSw); go_simp; try with_reducible rfl)
        try simp only [Act.put, List.getElem_toArray, List.getElem_cons_zero, List.getElem_cons_succ, List.setIfInBounds_toArray, List.set_cons_zero, List.set_cons_succ]
        refine wpAnyH_take (i := 24) (v := ?v40) rfl (by kernel_rfl) (by kernel_rfl) (by kernel_rfl) (fun _ _ _ h => h) (Or.inl ⟨by rfl, ?hy40⟩) (by assumption) ?rest40
        case hy40 => (intro w hSw; (try dsimp only at hSw); go_simp; try with_reducible rfl)
        try simp only [Act.put, List.getElem_toArray, List.getElem_cons_zero, List.getElem_cons_succ, List.setIfInBounds_toArray, List.set_cons_zero, List.set_cons_succ]
        refine wpAnyH_done (by kernel_rfl) ?_ _
        go_wp2
        go_ret
        exact ⟨rfl, R9.below⟩
      refine AllReadyH.cons rfl (fun K hK => ?_) AllReadyH.nil
      go_simp
      have F5 : Frm (fun _ => False) W4 (W4.alloc (.cells #[.slice a0 m0 cap0] 24)) := Frm.alloc _ _ _
      have R5 := R4.frm F5 (fun _ h => h.elim)
      have Row5 : Rds (W4.alloc (.cells #[.slice a0 m0 cap0] 24)) (some ⟨W4.heap.size, 0, none⟩) 1 [.slice a0 m0 cap0] := alloc_rds W4 [.slice a0 m0 cap0] 24 (0, 0)
      have S5 := S4.frm F5 (fun h => h)
      have X5 := X4.frm F5 (fun h => h)
      have O5 := hide (own_frm O4.out F5 (fun _ _ h => h))
      generalize hWm5 : W4.alloc (.cells #[.slice a0 m0 cap0] 24) = W5 at *
      clear hWm5
      refine hK.out _ _ (X5) (fun hHeld => ?_)
      clear hK K
      refine wpAnyH_ready (rs := [16]) (by kernel_rfl) (by simp) ?_
      refine AllReadyH.cons rfl (fun K hK => ?_) AllReadyH.nil
      go_simp
      have F6 : Frm (fun _ => False) W5 (W5.alloc (.cells #[.slice a0 m0 cap0, .slice none 0 0] 24)) := Frm.alloc _ _ _
      have R6 := R5.frm F6 (fun _ h => h.elim)
      have Row6 : Rds (W5.alloc (.cells #[.slice a0 m0 cap0, .slice none 0 0] 24)) (some ⟨W5.heap.size, 0, none⟩) 2 [.slice a0 m0 cap0, .slice none 0 0] := alloc_rds W5 [.slice a0 m0 cap0, .slice none 0 0] 24 (0, 0)
      have S6 := S5.frm F6 (fun h => h)
      have X6 := X5.frm F6 (fun h => h)
      have O6 := hide (own_frm O5.out F6 (fun _ _ h => h))
      generalize hWm6 : W5.alloc (.cells #[.slice a0 m0 cap0, .slice none 0 0] 24) = W6 at *
      clear hWm6
      refine hK.out _ _ (X6) (fun hHeld => ?_)
      clear hK K
      refine wpAnyH_ready (rs := [17]) (by kernel_rfl) (by simp) ?_
      refine AllReadyH.cons rfl (fun K hK => ?_) AllReadyH.nil
      refine step_appW one_sl rfl (.tmp 48) (.tmp 50) rfl _ (gs + 1) (.slice A k c) k _ rfl O6.out (some ⟨W5.heap.size, 0, none⟩) 2 2 [.slice a0 m0 cap0, .slice none 0 0] rfl (Row6) two_one hb1 hb2 (by have := S6.lt; omega) ?_
      intro A7 c7 W7 own7 gr7 at7
      have F7 := Frm.of_grown gr7
      have S7 := S6.frm F7 (fun h => by have := HLT.out gs h.symm; omega)
      have X7 := X6.frm F7 (fun h => by have := HLT.out g9 h.symm; omega)
      have R7 := R6.frm F7 (fun i hi => by have := HLT.out i hi.symm; omega)
      refine hK.out _ _ (X7) (fun hHeld => ?_)
      clear hK K
      refine wpAnyH_ready (rs := [18]) (by kernel_rfl) (by simp) ?_
      refine AllReadyH.cons rfl (fun K hK => ?_) AllReadyH.nil
      go_simp
      refine (sums_now w _ A7 (k + 2) c7 (List.replicate k (.slice none 0 0) ++ [.slice a0 m0 cap0, .slice none 0 0]) (List.replicate k [] ++ [x0, []]) x0 (Seg.of_own (own7)).rds (All2.append (all2_nils _ k) (All2.cons (prt_old HR0.out HX0.out hc0 R7.below) (All2.cons (nil_prt _) All2.nil))) (by rw [List.flatten_append, flat_nils]; simp) R7 (by omega) (by simp; omega)).mono ?_
      rintro e W8 ⟨rfl, F8, R8⟩
      have S8 := S7.frm F8 (fun h => h)
      have X8 := X7.frm F8 (fun h => h)
      refine hK.out _ _ (X8) (fun hHeld => ?_)
      clear hK K
      refine wpAnyH_ready (rs := [21]) (by kernel_rfl) (by simp) ?_
      refine AllReadyH.cons rfl (fun K hK => ?_) AllReadyH.nil
      go_simp
      refine (sums_now w _ (some ⟨W4.heap.size, 0, none⟩) 1 1 [.slice a0 m0 cap0] [x0] x0 (((Row5.frm F6 (fun _ _ _ h => h)).frm F7 (fun _ p hp => by injection hp with hp; subst hp; exact fun h => by have h2 : gs < W4.heap.size ∧ W4.heap.size < g9 := HLT.out _ h.symm; have := X4.lt; omega)).frm F8 (fun _ _ _ h => h)) (All2.cons (prt_old HR0.out HX0.out hc0 R8.below) All2.nil) (by simp) R8 (by omega) (by simp)).mono ?_
      rintro e W9 ⟨rfl, F9, R9⟩
      have S9 := S8.frm F9 (fun h => h)
      have X9 := X8.frm F9 (fun h => h)
      refine hK.out _ _ (X9) (fun hHeld => ?_)
      clear hK K
      refine wpAnyH_take (i := 22) (v := ?v41) rfl (by kernel_rfl) (by kernel_rfl) (by kernel_rfl) (fun _ _ _ h => h) (Or.inl ⟨by rfl, ?hy41⟩) (by assumption) ?rest41
      case hy41 => (intro w hSw; (try dsimp only at hSw); go_simp; try with_reducible rfl)
      try simp only [Act.put, List.getElem_toArray, List.getElem_cons_zero, List.getElem_cons_succ, List.setIfInBounds_toArray, List.set_cons_zero, List.set_cons_succ]
      refine wpAnyH_take (i := 23) (v := ?v42) rfl (by kernel_rfl) (by kernel_rfl) (by kernel_rfl) (fun _ _ _ h => h) (Or.inl ⟨by rfl, ?hy42⟩) (by assumption) ?rest42
      case hy42 => (intro w hSw; (try dsimp only at hSw); go_simp; try with_reducible rfl)
      try simp only [Act.put, List.getElem_toArray, List.getElem_cons_zero, List.getElem_cons_succ, List.setIfInBounds_toArray, List.set_cons_zero, List.set_cons_succ]
      refine wpAnyH_take (i := 24) (v := ?v43) rfl (by kernel_rfl) (by kernel_rfl) (by kernel_rfl) (fun _ _ _ h => h) (Or.inl ⟨by rfl, ?hy43⟩) (by assumption) ?rest43
      case hy43 => (intro w hSw; (try dsimp only at hSw); go_simp; try with_reducible rfl)
      try simp only [Act.put, List.getElem_toArray, List.getElem_cons_zero, List.getElem_cons_succ, List.setIfInBounds_toArray, List.set_cons_zero, List.set_cons_succ]
      refine wpAnyH_done (by kernel_rfl) ?_ _
      go_wp2
      go_ret
      exact ⟨rfl, R9.below⟩
end Go.Proofs.YtohkpmohlhmpkaaDoor
