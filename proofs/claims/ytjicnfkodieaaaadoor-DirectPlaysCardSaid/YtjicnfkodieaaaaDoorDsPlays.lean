/-
  DirectPlays: the walk.
-/
import Derived.Test.YtjicnfkodieaaaaDoorDsT
import Derived.Test.YtjicnfkodieaaaaDoorRf3
import Derived.Test.YtjicnfkodieaaaaDoorRf4
import Derived.Test.YtjicnfkodieaaaaDoorRf6
import Derived.Deep.MidRow
import Derived.OrdersHeld
namespace Go.Proofs.YtjicnfkodieaaaaDoor
set_option linter.unusedVariables false
set_option linter.unusedSimpArgs false
open Go.RowKit

theorem meet {R : World → Prop} {A : World → Prop} {G : Prop} (h1 : (∀ W, A W → R W) → G) (h2 : ∀ W, A W → R W) : G := h1 h2
/-- A record of a row that came in, loaded: what the operation yields. -/
theorem run_loadr {op : Oper} {a : Act} {w : World} (x : Operand) (ho : op.op = .load 37 x)
    (ad : Addr) (hx : a.eval x = .pointer (some ad)) (r : Rec) (hc : ∀ q u, (recC r)[q]? = some u → w.cell? (ad.add q) = some u) : (execOp a.eval op).run Tryd.prog w = .ok (.value (recV r)) w := by
  obtain ⟨⟨d, hu, hd⟩, hi⟩ := aggR
  have h1 : (loadCells ad (recC r).length).run Tryd.prog w = .ok (recC r).toArray w := run_loadCells_list (P := Tryd.prog) w ad (recC r) (fun j v hv => hc j v hv)
  have h2 : (loadVar 37 ad).run Tryd.prog w = .ok (.agg (recC r).toArray) w := by
    cases hq : Tryd.prog.info? 37 with
    | none => simp [hq] at hi
    | some i =>
      have hs : i.size = 4 := by simpa [hq] using hi
      have hagg : (isAgg 37).run Tryd.prog w = .ok true w := by
        unfold isAgg
        rw [Sem.run_bind, run_underlying hu w]
        cases d <;> simp_all [isAggD]
      rw [recC_length] at h1
      simp [loadVar, Sem.run_bind, hagg, sizeOf, typeInfo, hq, hs, h1]
  unfold execOp
  simp only [ho, hx, Instr.loadAt, Instr.sureAddr, Sem.run_bind, Sem.run_pure, Result.andThen_ok, h2]
  rfl

set_option maxHeartbeats 60000000 in
set_option maxRecDepth 100000 in
theorem plays_walk (A0 : Option Addr) (n0 c0 : Nat) (L : List Rec) (A2 : Option Addr) (n2 c2 : Nat) (es : List Nat) (ad : Nat) (w : World) (hG : Gl w) (hg0 : 2 ≤ w.heap.size)
    (hL : RRow w A0 n0 L) (hc0 : n0 ≤ c0) (hm0 : c0 ≤ 9223372036854775807) (hE : Rds w A2 n2 (cellsW es)) (hEb : ∀ n ∈ es, n < 4294967296) (hc2 : n2 ≤ c2) (hm2 : c2 ≤ 9223372036854775807) (had : ad < 65536) :
    Calls Tryd.prog 3 #[.slice A0 n0 c0, .slice A2 n2 c2, .int .u16 (ad : Int)] w fun e w' => e = .returned (.bool true) ∧ Below w.heap.size w w' := by
  have HL := hide hL
  have HE := hide hE
  have HR0 := hide (run_start w hG hg0)
  have HLN : Hid (L.length = n0) := hL.1
  clear hL hG hE hEb
  go_enter Tryd.func3, Tryd.ntmps3
  go_wp2_with fail
  refine (shown9 w _ HR0.out).mono ?_
  rintro e w1 ⟨rfl, f1⟩
  have HR1 := hide (HR0.out.frm0 f1)
  clear f1 HR0
  go_wp2_with fail
  refine (lnew w w1 HR1.out).mono ?_
  rintro e w2 ⟨g, bm, rfl, h2, f2, hg2, hb2⟩
  have H2 := hide h2
  clear h2 f2 HR1 hg2 hb2
  go_wp2_with fail
  obtain ⟨gw, hgw⟩ : ∃ gw, gw = w2.heap.size := ⟨_, rfl⟩
  have hqq : RDir w (w2.alloc (.cells #[.slice none 0 0] 32)) gw [] := ⟨by rw [hgw]; exact H2.out.run.below.size, DirOk.nil, none, 0, 0, by rw [hgw]; exact Blk.new _ _ _, QOwn.nil _ _⟩
  have hff : Frm (fun _ => False) w2 (w2.alloc (.cells #[.slice none 0 0] 32)) := Frm.alloc _ _ _
  have HQ2 := hide hqq
  have HL2 := hide (H2.out.frm0 hff)
  rw [← hgw]
  clear hgw hqq hff H2
  go_loopw [10] (fun i wr => ∃ k : Nat, k ≤ n0 ∧ k ≤ 100 ∧ i = .int .i64 k ∧ Liv w wr g bm (foldL (L.take k)) ∧ RDir w wr gw (foldL (L.take k))) (fun i _ => 100 - (intOf i).toNat)
  case atStart => exact ⟨0, by omega, by omega, rfl, HL2.out, HQ2.out⟩
  case round =>
    clear HL2 HQ2
    obtain ⟨k, hk, hk5, rfl, hi, hqi⟩ := hrel
    have HI := hide hi
    have HQI := hide hqi
    clear hi hqi
    by_cases hlt : k < n0
    · have hlt' : (k : Int) < (n0 : Int) := by omega
      by_cases h50 : k < 100
      · have h50' : (k : Int) < 100 := by omega
        obtain ⟨p, rfl, hat⟩ := HL.out.at (by omega)
        obtain ⟨x, hx⟩ : ∃ x, x = L.getD k default := ⟨_, rfl⟩
        have HXI : Hid x.in32 := by show _; rw [hx]; exact HL.out.in k hlt
        have hat' : ∀ w', Below w.heap.size w w' → ∀ q u, (recC x)[q]? = some u → w'.cell? ((p.add (k * 4)).add q) = some u := fun w' f q u hq => hat w' f k hlt q u (by rw [← hx]; exact hq)
        have HAT := hide hat'
        have HS1 : Hid (addL (foldL (L.take k)) x = foldL (L.take (k + 1))) := by show _ = _; rw [foldL_succ L k (by rw [HLN.out]; exact hlt), hx]
        clear hx hat hat'
        obtain ⟨D, hD⟩ : ∃ D, D = foldL (L.take k) := ⟨_, rfl⟩
        rw [← hD] at HI HQI HS1
        clear hD
        obtain ⟨y, hy⟩ : ∃ y, y = whyL D x := ⟨_, rfl⟩
        obtain ⟨D', hD'⟩ : ∃ D', D' = addL D x := ⟨_, rfl⟩
        have HY1 := hide hy.symm
        have HY2 := hide hD'.symm
        rw [← hD'] at HS1
        obtain ⟨N, hN⟩ : ∃ N, N = D'.length := ⟨_, rfl⟩
        have HDN := hide hN.symm
        clear hy hD' hN
        have HA := hide (HI.out.frm0 ((Frm.refl _ _).drew))
        have HQ := hide (HQI.out.frm0 ((Frm.refl _ _).drew))
        clear HI HQI
        go_wp2_with fail
        refine wp_region_held_drew (S := fun W => Below w.heap.size w W) (by kernel_rfl) (HA.out.run.below) ?_
        intro hHeld
        obtain ⟨W0, hW0⟩ : ∃ W', W' = wr.drew := ⟨_, rfl⟩
        rw [← hW0] at HA HQ hHeld ⊢
        clear hW0
        refine wpAnyH_take (i := 0) (v := ?v1) rfl (by kernel_rfl) (by kernel_rfl) (by kernel_rfl) (fun _ _ _ h => h) (Or.inl ⟨by rfl, ?hy1⟩) (by assumption) ?rest1
        case hy1 => (intro w hSw; (try dsimp only at hSw); go_simp; try with_reducible rfl)
        try simp only [Act.put, List.getElem_toArray, List.getElem_cons_zero, List.setIfInBounds_toArray, List.set_cons_zero, List.set_cons_succ]
        refine wpAnyH_take (i := 1) (v := ?v2) rfl (by kernel_rfl) (by kernel_rfl) (by kernel_rfl) (fun _ _ _ h => h) (Or.inl ⟨by rfl, ?hy2⟩) (by assumption) ?rest2
        case hy2 => (intro w hSw; (try dsimp only at hSw); go_simp; try with_reducible rfl)
        try simp only [Act.put, List.getElem_toArray, List.getElem_cons_zero, List.getElem_cons_succ, List.setIfInBounds_toArray, List.set_cons_zero, List.set_cons_succ]
        refine wpAnyH_take (i := 2) (v := ?v3) rfl (by kernel_rfl) (by kernel_rfl) (by kernel_rfl) (fun _ _ _ h => h) (Or.inl ⟨by rfl, ?hy3⟩) (by assumption) ?rest3
        case hy3 => (intro w hSw; (try dsimp only at hSw); go_simp; try with_reducible rfl)
        try simp only [Act.put, List.getElem_toArray, List.getElem_cons_zero, List.getElem_cons_succ, List.setIfInBounds_toArray, List.set_cons_zero, List.set_cons_succ]
        refine wpAnyH_take (i := 3) (v := ?v4) rfl (by kernel_rfl) (by kernel_rfl) (by kernel_rfl) (fun _ _ _ h => h) (Or.inl ⟨by rfl, ?hy4⟩) (by assumption) ?rest4
        case hy4 => (intro w hSw; (try dsimp only at hSw); go_simp; try with_reducible rfl)
        try simp only [Act.put, List.getElem_toArray, List.getElem_cons_zero, List.getElem_cons_succ, List.setIfInBounds_toArray, List.set_cons_zero, List.set_cons_succ]
        refine wpAnyH_take (i := 4) (v := ?v5) rfl (by kernel_rfl) (by kernel_rfl) (by kernel_rfl) (fun _ _ _ h => h) (Or.inl ⟨by rfl, ?hy5⟩) (by assumption) ?rest5
        case hy5 => (intro w hSw; refine run_loadr (.tmp 38) ?_ (p.add (k * 4)) ?_ x (HAT.out w hSw) <;> rfl)
        try simp only [Act.put, List.getElem_toArray, List.getElem_cons_zero, List.getElem_cons_succ, List.setIfInBounds_toArray, List.set_cons_zero, List.set_cons_succ]
        refine wpAnyH_take (i := 6) (v := ?v6) rfl (by kernel_rfl) (by kernel_rfl) (by kernel_rfl) (fun _ _ _ h => h) (Or.inl ⟨by rfl, ?hy6⟩) (by assumption) ?rest6
        case hy6 => (intro w hSw; (try dsimp only at hSw); go_simp; try with_reducible rfl)
        try simp only [Act.put, List.getElem_toArray, List.getElem_cons_zero, List.getElem_cons_succ, List.setIfInBounds_toArray, List.set_cons_zero, List.set_cons_succ]
        refine wpAnyH_take (i := 7) (v := ?v7) rfl (by kernel_rfl) (by kernel_rfl) (by kernel_rfl) (fun _ _ _ h => h) (Or.inl ⟨by rfl, ?hy7⟩) (by assumption) ?rest7
        case hy7 => (intro w hSw; (try dsimp only at hSw); go_simp; try with_reducible rfl)
        try simp only [Act.put, List.getElem_toArray, List.getElem_cons_zero, List.getElem_cons_succ, List.setIfInBounds_toArray, List.set_cons_zero, List.set_cons_succ]
        refine wpAnyH_take (i := 8) (v := ?v8) rfl (by kernel_rfl) (by kernel_rfl) (by kernel_rfl) (fun _ _ _ h => h) (Or.inl ⟨by rfl, ?hy8⟩) (by assumption) ?rest8
        case hy8 => (intro w hSw; (try dsimp only at hSw); go_simp; try with_reducible rfl)
        try simp only [Act.put, List.getElem_toArray, List.getElem_cons_zero, List.getElem_cons_succ, List.setIfInBounds_toArray, List.set_cons_zero, List.set_cons_succ]
        refine wpAnyH_take (i := 9) (v := ?v9) rfl (by kernel_rfl) (by kernel_rfl) (by kernel_rfl) (fun _ _ _ h => h) (Or.inl ⟨by rfl, ?hy9⟩) (by assumption) ?rest9
        case hy9 => (intro w hSw; (try dsimp only at hSw); go_simp; try with_reducible rfl)
        try simp only [Act.put, List.getElem_toArray, List.getElem_cons_zero, List.getElem_cons_succ, List.setIfInBounds_toArray, List.set_cons_zero, List.set_cons_succ]
        refine wpAnyH_take (i := 10) (v := ?v10) rfl (by kernel_rfl) (by kernel_rfl) (by kernel_rfl) (fun _ _ _ h => h) (Or.inl ⟨by rfl, ?hy10⟩) (by assumption) ?rest10
        case hy10 => (intro w hSw; refine run_loadr (.tmp 44) ?_ (p.add (k * 4)) ?_ x (HAT.out w hSw) <;> rfl)
        try simp only [Act.put, List.getElem_toArray, List.getElem_cons_zero, List.getElem_cons_succ, List.setIfInBounds_toArray, List.set_cons_zero, List.set_cons_succ]
        refine wpAnyH_ready (rs := [5]) (by kernel_rfl) (by simp) ?_
        refine AllReadyH.cons rfl (fun K hK => ?_) AllReadyH.nil
        go_simp
        refine (ladd_is HA.out x HXI.out y D' HY1.out HY2.out).mono ?_
        rintro e_ Wn ⟨rfl, h, f⟩
        have HQ := hide (HQ.out.frmMap HA.out.dir.map f)
        have HA := hide h
        clear h f
        refine hK.out _ _ (HA.out.run.below) (fun hHeld => ?_)
        clear hK K
        refine wpAnyH_ready (rs := [11]) (by kernel_rfl) (by simp) ?_
        refine AllReadyH.cons rfl (fun K hK => ?_) AllReadyH.nil
        go_simp
        refine (of_any x _).mono ?_
        rintro e_ Wn ⟨rfl, f⟩
        have HQ := hide (HQ.out.frm0 f)
        have HA := hide (HA.out.frm0 f)
        clear f
        refine hK.out _ _ (HA.out.run.below) (fun hHeld => ?_)
        clear hK K
        refine wpAnyH_ready (rs := [12]) (by kernel_rfl) (by simp) ?_
        refine AllReadyH.cons rfl (fun K hK => ?_) AllReadyH.nil
        go_simp
        have hr := radd_any gw D x w _ HQ.out HXI.out
        rw [HY1.out, HY2.out] at hr
        refine hr.mono ?_
        clear hr
        rintro e_ Wn ⟨rfl, h, f⟩
        have HA := hide (HA.out.frmQ HQ.out f)
        have HQ := hide h
        clear h f
        refine hK.out _ _ (HA.out.run.below) (fun hHeld => ?_)
        clear hK K
        refine wpAnyH_take (i := 13) (v := ?v11) rfl (by kernel_rfl) (by kernel_rfl) (by kernel_rfl) (fun _ _ _ h => h) (Or.inl ⟨by rfl, ?hy11⟩) (by assumption) ?rest11
        case hy11 => (intro w hSw; (try dsimp only at hSw); go_simp; try with_reducible rfl)
        try simp only [Act.put, List.getElem_toArray, List.getElem_cons_zero, List.getElem_cons_succ, List.setIfInBounds_toArray, List.set_cons_zero, List.set_cons_succ]
        refine wpAnyH_take (i := 14) (v := ?v12) rfl (by kernel_rfl) (by kernel_rfl) (by kernel_rfl) (fun _ _ _ h => h) (Or.inl ⟨by rfl, ?hy12⟩) (by assumption) ?rest12
        case hy12 => (intro w hSw; (try dsimp only at hSw); go_simp; try with_reducible rfl)
        try simp only [Act.put, List.getElem_toArray, List.getElem_cons_zero, List.getElem_cons_succ, List.setIfInBounds_toArray, List.set_cons_zero, List.set_cons_succ]
        refine wpAnyH_take (i := 15) (v := ?v13) rfl (by kernel_rfl) (by kernel_rfl) (by kernel_rfl) (fun _ _ _ h => h) (Or.inl ⟨by rfl, ?hy13⟩) (by assumption) ?rest13
        case hy13 => (intro w hSw; (try dsimp only at hSw); go_simp; try with_reducible rfl)
        try simp only [Act.put, List.getElem_toArray, List.getElem_cons_zero, List.getElem_cons_succ, List.setIfInBounds_toArray, List.set_cons_zero, List.set_cons_succ]
        refine wpAnyH_take (i := 17) (v := ?v14) rfl (by kernel_rfl) (by kernel_rfl) (by kernel_rfl) (fun _ _ _ h => h) (Or.inl ⟨by rfl, ?hy14⟩) (by assumption) ?rest14
        case hy14 => (intro w hSw; (try dsimp only at hSw); go_simp; try with_reducible rfl)
        try simp only [Act.put, List.getElem_toArray, List.getElem_cons_zero, List.getElem_cons_succ, List.setIfInBounds_toArray, List.set_cons_zero, List.set_cons_succ]
        refine wpAnyH_take (i := 18) (v := ?v15) rfl (by kernel_rfl) (by kernel_rfl) (by kernel_rfl) (fun _ _ _ h => h) (Or.inl ⟨by rfl, ?hy15⟩) (by assumption) ?rest15
        case hy15 => (intro w hSw; (try dsimp only at hSw); go_simp; try with_reducible rfl)
        try simp only [Act.put, List.getElem_toArray, List.getElem_cons_zero, List.getElem_cons_succ, List.setIfInBounds_toArray, List.set_cons_zero, List.set_cons_succ]
        refine wpAnyH_take (i := 19) (v := ?v16) rfl (by kernel_rfl) (by kernel_rfl) (by kernel_rfl) (fun _ _ _ h => h) (Or.inl ⟨by rfl, ?hy16⟩) (by assumption) ?rest16
        case hy16 => (intro w hSw; (try dsimp only at hSw); go_simp; try with_reducible rfl)
        try simp only [Act.put, List.getElem_toArray, List.getElem_cons_zero, List.getElem_cons_succ, List.setIfInBounds_toArray, List.set_cons_zero, List.set_cons_succ]
        obtain ⟨_, _, AQ, nQ, cQ, hbQ, hqQ⟩ := HQ.out
        obtain rfl : N = nQ := by have := hqQ.len; have := HDN.out; omega
        have dQ := hbQ.cell 0
        clear hbQ hqQ
        apply meet (A := fun W => Liv w W g bm D' ∧ RDir w W gw D')
        · intro key
          refine wpAnyH_ready (rs := [16, 20]) (by kernel_rfl) (by simp) ?_
          refine AllReadyH.cons rfl (fun K hK => ?_) ?_
          · go_simp
            refine (llen_is HA.out N HDN.out).mono ?_
            rintro e_ Wz ⟨rfl, hWz⟩
            have dQ : Wz.cell? ⟨gw, 0, none⟩ = _ := (congrArg (fun W => W.cell? ⟨gw, 0, none⟩) hWz).trans dQ
            have HA : Hid (Liv w Wz g bm D') := by show Liv w Wz g bm D'; rw [hWz]; exact HA.out
            have HQ : Hid (RDir w Wz gw D') := by show RDir w Wz gw D'; rw [hWz]; exact HQ.out
            clear hWz
            refine hK.out _ _ (HA.out.run.below) (fun hHeld => ?_)
            clear hK K
            refine wpAnyH_ready (rs := [20]) (by kernel_rfl) (by simp) ?_
            refine AllReadyH.cons rfl (fun K hK => ?_) AllReadyH.nil
            go_simp
            refine hK.out _ _ (HA.out.run.below) (fun hHeld => ?_)
            clear hK K
            refine wpAnyH_take (i := 21) (v := ?v17) rfl (by kernel_rfl) (by kernel_rfl) (by kernel_rfl) (fun _ _ _ h => h) (Or.inl ⟨by rfl, ?hy17⟩) (by assumption) ?rest17
            case hy17 => (intro w hSw; (try dsimp only at hSw); go_simp; try with_reducible rfl)
            try simp only [Act.put, List.getElem_toArray, List.getElem_cons_zero, List.getElem_cons_succ, List.setIfInBounds_toArray, List.set_cons_zero, List.set_cons_succ]
            refine wpAnyH_take (i := 22) (v := ?v18) rfl (by kernel_rfl) (by kernel_rfl) (by kernel_rfl) (fun _ _ _ h => h) (Or.inl ⟨by rfl, ?hy18⟩) (by assumption) ?rest18
            case hy18 => (intro w hSw; (try dsimp only at hSw); go_simp; try with_reducible rfl)
            try simp only [Act.put, List.getElem_toArray, List.getElem_cons_zero, List.getElem_cons_succ, List.setIfInBounds_toArray, List.set_cons_zero, List.set_cons_succ]
            refine wpAnyH_take (i := 23) (v := ?v19) rfl (by kernel_rfl) (by kernel_rfl) (by kernel_rfl) (fun _ _ _ h => h) (Or.inl ⟨by rfl, ?hy19⟩) (by assumption) ?rest19
            case hy19 => (intro w hSw; (try dsimp only at hSw); go_simp; try with_reducible rfl)
            try simp only [Act.put, List.getElem_toArray, List.getElem_cons_zero, List.getElem_cons_succ, List.setIfInBounds_toArray, List.set_cons_zero, List.set_cons_succ]
            exact key _ ⟨HA.out, HQ.out⟩
          refine AllReadyH.cons rfl (fun K hK => ?_) AllReadyH.nil
          go_simp
          refine hK.out _ _ (HA.out.run.below) (fun hHeld => ?_)
          clear hK K
          refine wpAnyH_take (i := 21) (v := ?v20) rfl (by kernel_rfl) (by kernel_rfl) (by kernel_rfl) (fun _ _ _ h => h) (Or.inl ⟨by rfl, ?hy20⟩) (by assumption) ?rest20
          case hy20 => (intro w hSw; (try dsimp only at hSw); go_simp; try with_reducible rfl)
          try simp only [Act.put, List.getElem_toArray, List.getElem_cons_zero, List.getElem_cons_succ, List.setIfInBounds_toArray, List.set_cons_zero, List.set_cons_succ]
          refine wpAnyH_ready (rs := [16]) (by kernel_rfl) (by simp) ?_
          refine AllReadyH.cons rfl (fun K hK => ?_) AllReadyH.nil
          go_simp
          refine (llen_is HA.out N HDN.out).mono ?_
          rintro e_ Wz ⟨rfl, hWz⟩
          have dQ : Wz.cell? ⟨gw, 0, none⟩ = _ := (congrArg (fun W => W.cell? ⟨gw, 0, none⟩) hWz).trans dQ
          have HA : Hid (Liv w Wz g bm D') := by show Liv w Wz g bm D'; rw [hWz]; exact HA.out
          have HQ : Hid (RDir w Wz gw D') := by show RDir w Wz gw D'; rw [hWz]; exact HQ.out
          clear hWz
          refine hK.out _ _ (HA.out.run.below) (fun hHeld => ?_)
          clear hK K
          refine wpAnyH_take (i := 22) (v := ?v21) rfl (by kernel_rfl) (by kernel_rfl) (by kernel_rfl) (fun _ _ _ h => h) (Or.inl ⟨by rfl, ?hy21⟩) (by assumption) ?rest21
          case hy21 => (intro w hSw; (try dsimp only at hSw); go_simp; try with_reducible rfl)
          try simp only [Act.put, List.getElem_toArray, List.getElem_cons_zero, List.getElem_cons_succ, List.setIfInBounds_toArray, List.set_cons_zero, List.set_cons_succ]
          refine wpAnyH_take (i := 23) (v := ?v22) rfl (by kernel_rfl) (by kernel_rfl) (by kernel_rfl) (fun _ _ _ h => h) (Or.inl ⟨by rfl, ?hy22⟩) (by assumption) ?rest22
          case hy22 => (intro w hSw; (try dsimp only at hSw); go_simp; try with_reducible rfl)
          try simp only [Act.put, List.getElem_toArray, List.getElem_cons_zero, List.getElem_cons_succ, List.setIfInBounds_toArray, List.set_cons_zero, List.set_cons_succ]
          exact key _ ⟨HA.out, HQ.out⟩
        clear hHeld HA HQ dQ
        rintro W0 ⟨ha, hq⟩
        have H4 := hide ha
        have HQ4 := hide hq
        clear ha hq
        refine wpAnyH_done (by kernel_rfl) ?_ _
        have cx2 : W0.cell? ⟨(p.add (k * 4)).block, (p.add (k * 4)).off + 2, none⟩ = some (.int .u32 (x.t : Int)) := by rw [← add_q (p.add (k * 4)) 2 (by decide)]; exact HAT.out W0 H4.out.run.below 2 _ rfl
        by_cases hk2 : k < n2
        · have hk2' : (k : Int) < (n2 : Int) := by omega
          obtain ⟨p2, rfl, hc2'⟩ := HE.out.2 (by omega)
          have hel : es.length = n2 := by have := HE.out.1; rwa [cellsW_length] at this
          obtain ⟨ep, hep⟩ : ∃ v, v = es.getD k 0 := ⟨_, rfl⟩
          have hcv : W0.cell? (p2.add k) = some (.int .u32 (ep : Int)) := by
            have h1 := hc2' k _ (cellsW_at es k (by omega))
            rw [H4.out.run.below.cell (World.block_lt_of_cell? w _ h1), h1, hep]
          clear hep hel hc2'
          obtain ⟨r, hr⟩ : ∃ r, r = foundR D' ad ep := ⟨_, rfl⟩
          obtain ⟨b, hb⟩ : ∃ b, b = foundB D' ad ep := ⟨_, rfl⟩
          obtain ⟨ra, rf, rt, rl⟩ := r
          have HFN : Hid (foundR D' ad ep = ⟨ra, rf, rt, rl⟩ ∧ foundB D' ad ep = b) := ⟨hr.symm, hb.symm⟩
          have HF1 := hide (lfind_is H4.out ad ep ⟨ra, rf, rt, rl⟩ b hr.symm hb.symm)
          have HVL : Hid ((validL D' ep).length ≤ 64) := by show _ ≤ _; unfold validL; exact Nat.le_trans (List.length_filter_le _ _) H4.out.dir.ok.len
          have hof := of_any ⟨ra, rf, rt, rl⟩
          simp only [recV, recC] at hof
          have HOF := hide hof
          clear hr hb hof
          go_wp2_with fail
          refine HF1.out.mono ?_
          rintro e_ w6 ⟨rfl, h6, f6⟩
          have H6 := hide h6
          have HQ6 := hide (HQ4.out.frm0 f6)
          clear h6 f6 HF1 H4 HQ4
          simp only [recV, recC]
          go_wp2_with (first
            | ((with_reducible refine wpl_alloca (op := ⟨some 12, _, _, _, _, _⟩) rfl _ rfl _ zeroR ?_); intro g12 w7 hB7 hs7 hF7)
            | ((refine wpl_storea aggR rfl (.tmp 12) (.tmp 77) rfl g12 [.int .u16 (ra : Int), .int .u32 (rf : Int), .int .u32 (rt : Int), .int .u32 (rl : Int)] rfl rfl _ _ hB7 rfl rfl four_r ?_); intro w8 hB8 hF8; have hF68 := frm_join w6 hF7 hF8 (fun i hi => by omega); have H8 := hide (H6.out.frm0 hF68.out); have HQ8 := hide (HQ6.out.frm0 hF68.out); have HB8 := hide hB8; clear hB7 hB8 hF7 hF8 hF68 hs7 H6 HQ6))
          have hrf := rfind_any gw ad ep D' w w8 HQ8.out
          rw [HFN.out.1, HFN.out.2] at hrf
          simp only [recV, recC] at hrf
          refine hrf.mono ?_
          clear hrf
          rintro e_ w9 ⟨rfl, f9⟩
          have H9 := hide (H8.out.frm0 f9)
          have HQ9 := hide (HQ8.out.frm0 f9)
          have HB9 := hide (HB8.out.frm0a f9)
          clear f9 H8 HQ8 HB8
          go_wp2_with (first
            | ((with_reducible refine wpl_alloca (op := ⟨some 14, _, _, _, _, _⟩) rfl _ rfl _ zeroQ ?_); intro g14 w10 hB10 hs10 hF10)
            | ((refine wpl_storea aggQ rfl (.tmp 14) (.tmp 84) rfl g14 [.int .u16 (ra : Int), .int .u32 (rf : Int), .int .u32 (rt : Int), .int .u32 (rl : Int)] rfl rfl _ _ hB10 rfl rfl four_r ?_); intro w11 hB11 hF11; have hF911 := frm_join w9 hF10 hF11 (fun i hi => by omega); have HA := hide (H9.out.frm0 hF911.out); have HQ := hide (HQ9.out.frm0 hF911.out); have HB12 := hide (HB9.out.frm0a hF911.out); have HB14 := hide hB11; clear hB10 hB11 hF10 hF11 hF911 hs10 H9 HQ9 HB9))
          have HS : Hid (∀ W, Frm (fun _ => False) w11 W → ((W.cell? ⟨g12, 0, none⟩ = some (.int .u16 (ra : Int)) ∧ W.cell? ⟨g12, 1, none⟩ = some (.int .u32 (rf : Int)) ∧ W.cell? ⟨g12, 2, none⟩ = some (.int .u32 (rt : Int)) ∧ W.cell? ⟨g12, 3, none⟩ = some (.int .u32 (rl : Int))) ∧ (W.cell? ⟨g14, 0, none⟩ = some (.int .u16 (ra : Int)) ∧ W.cell? ⟨g14, 1, none⟩ = some (.int .u32 (rf : Int)) ∧ W.cell? ⟨g14, 2, none⟩ = some (.int .u32 (rt : Int)) ∧ W.cell? ⟨g14, 3, none⟩ = some (.int .u32 (rl : Int))))) := fun W f =>
            ⟨⟨(HB12.out.frm0a f).cell 0, (HB12.out.frm0a f).cell 1, (HB12.out.frm0a f).cell 2, (HB12.out.frm0a f).cell 3⟩, keepQ (HB14.out.frm0a f)⟩
          refine wp_region_held_drew (S := fun W => (W.cell? ⟨g12, 0, none⟩ = some (.int .u16 (ra : Int)) ∧ W.cell? ⟨g12, 1, none⟩ = some (.int .u32 (rf : Int)) ∧ W.cell? ⟨g12, 2, none⟩ = some (.int .u32 (rt : Int)) ∧ W.cell? ⟨g12, 3, none⟩ = some (.int .u32 (rl : Int))) ∧ (W.cell? ⟨g14, 0, none⟩ = some (.int .u16 (ra : Int)) ∧ W.cell? ⟨g14, 1, none⟩ = some (.int .u32 (rf : Int)) ∧ W.cell? ⟨g14, 2, none⟩ = some (.int .u32 (rt : Int)) ∧ W.cell? ⟨g14, 3, none⟩ = some (.int .u32 (rl : Int)))) (by kernel_rfl) (HS.out _ ((Frm.refl _ _).drew)) ?_
          intro hHeld
          obtain ⟨W0, hW0⟩ : ∃ W', W' = w11.drew := ⟨_, rfl⟩
          have hF : Frm (fun _ => False) w11 W0 := by rw [hW0]; exact (Frm.refl _ _).drew
          rw [← hW0] at hHeld ⊢
          clear hW0
          refine wpAnyH_take (i := 0) (v := ?v23) rfl (by kernel_rfl) (by kernel_rfl) (by kernel_rfl) (fun _ _ _ h => h) (Or.inl ⟨by rfl, ?hy23⟩) (by assumption) ?rest23
          case hy23 => (intro w hSw; (try dsimp only at hSw); go_simp; try with_reducible rfl)
          try simp only [Act.put, List.getElem_toArray, List.getElem_cons_zero, List.setIfInBounds_toArray, List.set_cons_zero, List.set_cons_succ]
          refine wpAnyH_take (i := 1) (v := ?v24) rfl (by kernel_rfl) (by kernel_rfl) (by kernel_rfl) (fun _ _ _ h => h) (Or.inl ⟨by rfl, ?hy24⟩) (by assumption) ?rest24
          case hy24 => (intro w hSw; (try dsimp only at hSw); go_simp; try with_reducible rfl)
          try simp only [Act.put, List.getElem_toArray, List.getElem_cons_zero, List.getElem_cons_succ, List.setIfInBounds_toArray, List.set_cons_zero, List.set_cons_succ]
          refine wpAnyH_take (i := 2) (v := ?v25) rfl (by kernel_rfl) (by kernel_rfl) (by kernel_rfl) (fun _ _ _ h => h) (Or.inl ⟨by rfl, ?hy25⟩) (by assumption) ?rest25
          case hy25 => (intro w hSw; (try dsimp only at hSw); go_simp; try with_reducible rfl)
          try simp only [Act.put, List.getElem_toArray, List.getElem_cons_zero, List.getElem_cons_succ, List.setIfInBounds_toArray, List.set_cons_zero, List.set_cons_succ]
          refine wpAnyH_take (i := 3) (v := ?v26) rfl (by kernel_rfl) (by kernel_rfl) (by kernel_rfl) (fun _ _ _ h => h) (Or.inl ⟨by rfl, ?hy26⟩) (by assumption) ?rest26
          case hy26 => (intro w hSw; (try dsimp only at hSw); go_simp; try with_reducible rfl)
          try simp only [Act.put, List.getElem_toArray, List.getElem_cons_zero, List.getElem_cons_succ, List.setIfInBounds_toArray, List.set_cons_zero, List.set_cons_succ]
          refine wpAnyH_take (i := 4) (v := ?v27) rfl (by kernel_rfl) (by kernel_rfl) (by kernel_rfl) (fun _ _ _ h => h) (Or.inl ⟨by rfl, ?hy27⟩) (by assumption) ?rest27
          case hy27 => (intro w hSw; (try dsimp only at hSw); go_simp; try with_reducible rfl)
          try simp only [Act.put, List.getElem_toArray, List.getElem_cons_zero, List.getElem_cons_succ, List.setIfInBounds_toArray, List.set_cons_zero, List.set_cons_succ]
          refine wpAnyH_take (i := 6) (v := ?v28) rfl (by kernel_rfl) (by kernel_rfl) (by kernel_rfl) (fun _ _ _ h => h) (Or.inl ⟨by rfl, ?hy28⟩) (by assumption) ?rest28
          case hy28 => (intro w hSw; (try dsimp only at hSw); go_simp; try with_reducible rfl)
          try simp only [Act.put, List.getElem_toArray, List.getElem_cons_zero, List.getElem_cons_succ, List.setIfInBounds_toArray, List.set_cons_zero, List.set_cons_succ]
          refine wpAnyH_ready (rs := [5]) (by kernel_rfl) (by simp) ?_
          refine AllReadyH.cons rfl (fun K hK => ?_) AllReadyH.nil
          go_simp
          refine (HOF.out _).mono ?_
          rintro e_ Wn ⟨rfl, f⟩
          have hF := frm_false_trans hF f
          clear f
          refine hK.out _ _ (HS.out _ hF) (fun hHeld => ?_)
          clear hK K
          refine wpAnyH_take (i := 7) (v := ?v29) rfl (by kernel_rfl) (by kernel_rfl) (by kernel_rfl) (fun _ _ _ h => h) (Or.inl ⟨by rfl, ?hy29⟩) (by assumption) ?rest29
          case hy29 => (intro w hSw; (try dsimp only at hSw); go_simp; try with_reducible rfl)
          try simp only [Act.put, List.getElem_toArray, List.getElem_cons_zero, List.getElem_cons_succ, List.setIfInBounds_toArray, List.set_cons_zero, List.set_cons_succ]
          refine wpAnyH_take (i := 8) (v := ?v30) rfl (by kernel_rfl) (by kernel_rfl) (by kernel_rfl) (fun _ _ _ h => h) (Or.inl ⟨by rfl, ?hy30⟩) (by assumption) ?rest30
          case hy30 => (intro w hSw; (try dsimp only at hSw); go_simp; try with_reducible rfl)
          try simp only [Act.put, List.getElem_toArray, List.getElem_cons_zero, List.getElem_cons_succ, List.setIfInBounds_toArray, List.set_cons_zero, List.set_cons_succ]
          refine wpAnyH_take (i := 9) (v := ?v31) rfl (by kernel_rfl) (by kernel_rfl) (by kernel_rfl) (fun _ _ _ h => h) (Or.inl ⟨by rfl, ?hy31⟩) (by assumption) ?rest31
          case hy31 => (intro w hSw; (try dsimp only at hSw); go_simp; try with_reducible rfl)
          try simp only [Act.put, List.getElem_toArray, List.getElem_cons_zero, List.getElem_cons_succ, List.setIfInBounds_toArray, List.set_cons_zero, List.set_cons_succ]
          refine wpAnyH_take (i := 10) (v := ?v32) rfl (by kernel_rfl) (by kernel_rfl) (by kernel_rfl) (fun _ _ _ h => h) (Or.inl ⟨by rfl, ?hy32⟩) (by assumption) ?rest32
          case hy32 => (intro w hSw; (try dsimp only at hSw); go_simp; try with_reducible rfl)
          try simp only [Act.put, List.getElem_toArray, List.getElem_cons_zero, List.getElem_cons_succ, List.setIfInBounds_toArray, List.set_cons_zero, List.set_cons_succ]
          refine wpAnyH_take (i := 11) (v := ?v33) rfl (by kernel_rfl) (by kernel_rfl) (by kernel_rfl) (fun _ _ _ h => h) (Or.inl ⟨by rfl, ?hy33⟩) (by assumption) ?rest33
          case hy33 => (intro w hSw; (try dsimp only at hSw); go_simp; try with_reducible rfl)
          try simp only [Act.put, List.getElem_toArray, List.getElem_cons_zero, List.getElem_cons_succ, List.setIfInBounds_toArray, List.set_cons_zero, List.set_cons_succ]
          refine wpAnyH_take (i := 13) (v := ?v34) rfl (by kernel_rfl) (by kernel_rfl) (by kernel_rfl) (fun _ _ _ h => h) (Or.inl ⟨by rfl, ?hy34⟩) (by assumption) ?rest34
          case hy34 => (intro w hSw; (try dsimp only at hSw); go_simp; try with_reducible rfl)
          try simp only [Act.put, List.getElem_toArray, List.getElem_cons_zero, List.getElem_cons_succ, List.setIfInBounds_toArray, List.set_cons_zero, List.set_cons_succ]
          refine wpAnyH_take (i := 14) (v := ?v35) rfl (by kernel_rfl) (by kernel_rfl) (by kernel_rfl) (fun _ _ _ h => h) (Or.inl ⟨by rfl, ?hy35⟩) (by assumption) ?rest35
          case hy35 => (intro w hSw; (try dsimp only at hSw); go_simp; try with_reducible rfl)
          try simp only [Act.put, List.getElem_toArray, List.getElem_cons_zero, List.getElem_cons_succ, List.setIfInBounds_toArray, List.set_cons_zero, List.set_cons_succ]
          refine wpAnyH_ready (rs := [12]) (by kernel_rfl) (by simp) ?_
          refine AllReadyH.cons rfl (fun K hK => ?_) AllReadyH.nil
          go_simp
          refine (lvalid (HA.out.frm0 hF) ep).mono ?_
          rintro e_ Wv ⟨A5, n5, c5, rfl, ho5, _, f⟩
          have hF := frm_false_trans hF f
          clear f
          refine hK.out _ _ (HS.out _ hF) (fun hHeld => ?_)
          clear hK K
          refine wpAnyH_ready (rs := [15]) (by kernel_rfl) (by simp) ?_
          refine AllReadyH.cons rfl (fun K hK => ?_) AllReadyH.nil
          go_simp
          refine (rvalid_any gw ep D' w _ (HQ.out.frm0 hF)).mono ?_
          rintro e_ Wq ⟨A6, n6, c6, rfl, ho6, f⟩
          have ho5 := ho5.frm0 f
          have hF := frm_false_trans hF f
          clear f
          refine hK.out _ _ (HS.out _ hF) (fun hHeld => ?_)
          clear hK K
          refine wpAnyH_ready (rs := [16]) (by kernel_rfl) (by simp) ?_
          refine AllReadyH.cons rfl (fun K hK => ?_) AllReadyH.nil
          go_simp
          refine (same_any A5 A6 n5 n6 c5 c6 _ _ (validL D' ep) _ ho5 ho6 HVL.out).mono ?_
          rintro e_ Ws ⟨rfl, f⟩
          have hF := frm_false_trans hF f
          clear f ho5 ho6
          refine hK.out _ _ (HS.out _ hF) (fun hHeld => ?_)
          clear hK K
          refine wpAnyH_take (i := 17) (v := ?v36) rfl (by kernel_rfl) (by kernel_rfl) (by kernel_rfl) (fun _ _ _ h => h) (Or.inl ⟨by rfl, ?hy36⟩) (by assumption) ?rest36
          case hy36 => (intro w hSw; (try dsimp only at hSw); go_simp; try with_reducible rfl)
          try simp only [Act.put, List.getElem_toArray, List.getElem_cons_zero, List.getElem_cons_succ, List.setIfInBounds_toArray, List.set_cons_zero, List.set_cons_succ]
          refine wpAnyH_take (i := 18) (v := ?v37) rfl (by kernel_rfl) (by kernel_rfl) (by kernel_rfl) (fun _ _ _ h => h) (Or.inl ⟨by rfl, ?hy37⟩) (by assumption) ?rest37
          case hy37 => (intro w hSw; (try dsimp only at hSw); go_simp; try with_reducible rfl)
          try simp only [Act.put, List.getElem_toArray, List.getElem_cons_zero, List.getElem_cons_succ, List.setIfInBounds_toArray, List.set_cons_zero, List.set_cons_succ]
          refine wpAnyH_done (by kernel_rfl) ?_ _
          have H12 := hide (HA.out.frm0 hF)
          have HQ12 := hide (HQ.out.frm0 hF)
          clear hHeld hF HA HQ
          go_wp2_with fail
          go_roundw
          case rel => exact ⟨k + 1, by omega, by omega, by go_num, HS1.out ▸ H12.out, HS1.out ▸ HQ12.out⟩
          case measure => simp [intOf]; omega
        · have hk2' : ¬ (k : Int) < (n2 : Int) := by omega
          obtain ⟨ep, hep⟩ : ∃ v, v = x.t := ⟨_, rfl⟩
          rw [← hep] at cx2
          clear hep
          obtain ⟨r, hr⟩ : ∃ r, r = foundR D' ad ep := ⟨_, rfl⟩
          obtain ⟨b, hb⟩ : ∃ b, b = foundB D' ad ep := ⟨_, rfl⟩
          obtain ⟨ra, rf, rt, rl⟩ := r
          have HFN : Hid (foundR D' ad ep = ⟨ra, rf, rt, rl⟩ ∧ foundB D' ad ep = b) := ⟨hr.symm, hb.symm⟩
          have HF1 := hide (lfind_is H4.out ad ep ⟨ra, rf, rt, rl⟩ b hr.symm hb.symm)
          have HVL : Hid ((validL D' ep).length ≤ 64) := by show _ ≤ _; unfold validL; exact Nat.le_trans (List.length_filter_le _ _) H4.out.dir.ok.len
          have hof := of_any ⟨ra, rf, rt, rl⟩
          simp only [recV, recC] at hof
          have HOF := hide hof
          clear hr hb hof
          go_wp2_with fail
          refine HF1.out.mono ?_
          rintro e_ w6 ⟨rfl, h6, f6⟩
          have H6 := hide h6
          have HQ6 := hide (HQ4.out.frm0 f6)
          clear h6 f6 HF1 H4 HQ4
          simp only [recV, recC]
          go_wp2_with (first
            | ((with_reducible refine wpl_alloca (op := ⟨some 12, _, _, _, _, _⟩) rfl _ rfl _ zeroR ?_); intro g12 w7 hB7 hs7 hF7)
            | ((refine wpl_storea aggR rfl (.tmp 12) (.tmp 77) rfl g12 [.int .u16 (ra : Int), .int .u32 (rf : Int), .int .u32 (rt : Int), .int .u32 (rl : Int)] rfl rfl _ _ hB7 rfl rfl four_r ?_); intro w8 hB8 hF8; have hF68 := frm_join w6 hF7 hF8 (fun i hi => by omega); have H8 := hide (H6.out.frm0 hF68.out); have HQ8 := hide (HQ6.out.frm0 hF68.out); have HB8 := hide hB8; clear hB7 hB8 hF7 hF8 hF68 hs7 H6 HQ6))
          have hrf := rfind_any gw ad ep D' w w8 HQ8.out
          rw [HFN.out.1, HFN.out.2] at hrf
          simp only [recV, recC] at hrf
          refine hrf.mono ?_
          clear hrf
          rintro e_ w9 ⟨rfl, f9⟩
          have H9 := hide (H8.out.frm0 f9)
          have HQ9 := hide (HQ8.out.frm0 f9)
          have HB9 := hide (HB8.out.frm0a f9)
          clear f9 H8 HQ8 HB8
          go_wp2_with (first
            | ((with_reducible refine wpl_alloca (op := ⟨some 14, _, _, _, _, _⟩) rfl _ rfl _ zeroQ ?_); intro g14 w10 hB10 hs10 hF10)
            | ((refine wpl_storea aggQ rfl (.tmp 14) (.tmp 84) rfl g14 [.int .u16 (ra : Int), .int .u32 (rf : Int), .int .u32 (rt : Int), .int .u32 (rl : Int)] rfl rfl _ _ hB10 rfl rfl four_r ?_); intro w11 hB11 hF11; have hF911 := frm_join w9 hF10 hF11 (fun i hi => by omega); have HA := hide (H9.out.frm0 hF911.out); have HQ := hide (HQ9.out.frm0 hF911.out); have HB12 := hide (HB9.out.frm0a hF911.out); have HB14 := hide hB11; clear hB10 hB11 hF10 hF11 hF911 hs10 H9 HQ9 HB9))
          have HS : Hid (∀ W, Frm (fun _ => False) w11 W → ((W.cell? ⟨g12, 0, none⟩ = some (.int .u16 (ra : Int)) ∧ W.cell? ⟨g12, 1, none⟩ = some (.int .u32 (rf : Int)) ∧ W.cell? ⟨g12, 2, none⟩ = some (.int .u32 (rt : Int)) ∧ W.cell? ⟨g12, 3, none⟩ = some (.int .u32 (rl : Int))) ∧ (W.cell? ⟨g14, 0, none⟩ = some (.int .u16 (ra : Int)) ∧ W.cell? ⟨g14, 1, none⟩ = some (.int .u32 (rf : Int)) ∧ W.cell? ⟨g14, 2, none⟩ = some (.int .u32 (rt : Int)) ∧ W.cell? ⟨g14, 3, none⟩ = some (.int .u32 (rl : Int))))) := fun W f =>
            ⟨⟨(HB12.out.frm0a f).cell 0, (HB12.out.frm0a f).cell 1, (HB12.out.frm0a f).cell 2, (HB12.out.frm0a f).cell 3⟩, keepQ (HB14.out.frm0a f)⟩
          refine wp_region_held_drew (S := fun W => (W.cell? ⟨g12, 0, none⟩ = some (.int .u16 (ra : Int)) ∧ W.cell? ⟨g12, 1, none⟩ = some (.int .u32 (rf : Int)) ∧ W.cell? ⟨g12, 2, none⟩ = some (.int .u32 (rt : Int)) ∧ W.cell? ⟨g12, 3, none⟩ = some (.int .u32 (rl : Int))) ∧ (W.cell? ⟨g14, 0, none⟩ = some (.int .u16 (ra : Int)) ∧ W.cell? ⟨g14, 1, none⟩ = some (.int .u32 (rf : Int)) ∧ W.cell? ⟨g14, 2, none⟩ = some (.int .u32 (rt : Int)) ∧ W.cell? ⟨g14, 3, none⟩ = some (.int .u32 (rl : Int)))) (by kernel_rfl) (HS.out _ ((Frm.refl _ _).drew)) ?_
          intro hHeld
          obtain ⟨W0, hW0⟩ : ∃ W', W' = w11.drew := ⟨_, rfl⟩
          have hF : Frm (fun _ => False) w11 W0 := by rw [hW0]; exact (Frm.refl _ _).drew
          rw [← hW0] at hHeld ⊢
          clear hW0
          refine wpAnyH_take (i := 0) (v := ?v38) rfl (by kernel_rfl) (by kernel_rfl) (by kernel_rfl) (fun _ _ _ h => h) (Or.inl ⟨by rfl, ?hy38⟩) (by assumption) ?rest38
          case hy38 => (intro w hSw; (try dsimp only at hSw); go_simp; try with_reducible rfl)
          try simp only [Act.put, List.getElem_toArray, List.getElem_cons_zero, List.setIfInBounds_toArray, List.set_cons_zero, List.set_cons_succ]
          refine wpAnyH_take (i := 1) (v := ?v39) rfl (by kernel_rfl) (by kernel_rfl) (by kernel_rfl) (fun _ _ _ h => h) (Or.inl ⟨by rfl, ?hy39⟩) (by assumption) ?rest39
          case hy39 => (intro w hSw; (try dsimp only at hSw); go_simp; try with_reducible rfl)
          try simp only [Act.put, List.getElem_toArray, List.getElem_cons_zero, List.getElem_cons_succ, List.setIfInBounds_toArray, List.set_cons_zero, List.set_cons_succ]
          refine wpAnyH_take (i := 2) (v := ?v40) rfl (by kernel_rfl) (by kernel_rfl) (by kernel_rfl) (fun _ _ _ h => h) (Or.inl ⟨by rfl, ?hy40⟩) (by assumption) ?rest40
          case hy40 => (intro w hSw; (try dsimp only at hSw); go_simp; try with_reducible rfl)
          try simp only [Act.put, List.getElem_toArray, List.getElem_cons_zero, List.getElem_cons_succ, List.setIfInBounds_toArray, List.set_cons_zero, List.set_cons_succ]
          refine wpAnyH_take (i := 3) (v := ?v41) rfl (by kernel_rfl) (by kernel_rfl) (by kernel_rfl) (fun _ _ _ h => h) (Or.inl ⟨by rfl, ?hy41⟩) (by assumption) ?rest41
          case hy41 => (intro w hSw; (try dsimp only at hSw); go_simp; try with_reducible rfl)
          try simp only [Act.put, List.getElem_toArray, List.getElem_cons_zero, List.getElem_cons_succ, List.setIfInBounds_toArray, List.set_cons_zero, List.set_cons_succ]
          refine wpAnyH_take (i := 4) (v := ?v42) rfl (by kernel_rfl) (by kernel_rfl) (by kernel_rfl) (fun _ _ _ h => h) (Or.inl ⟨by rfl, ?hy42⟩) (by assumption) ?rest42
          case hy42 => (intro w hSw; (try dsimp only at hSw); go_simp; try with_reducible rfl)
          try simp only [Act.put, List.getElem_toArray, List.getElem_cons_zero, List.getElem_cons_succ, List.setIfInBounds_toArray, List.set_cons_zero, List.set_cons_succ]
          refine wpAnyH_take (i := 6) (v := ?v43) rfl (by kernel_rfl) (by kernel_rfl) (by kernel_rfl) (fun _ _ _ h => h) (Or.inl ⟨by rfl, ?hy43⟩) (by assumption) ?rest43
          case hy43 => (intro w hSw; (try dsimp only at hSw); go_simp; try with_reducible rfl)
          try simp only [Act.put, List.getElem_toArray, List.getElem_cons_zero, List.getElem_cons_succ, List.setIfInBounds_toArray, List.set_cons_zero, List.set_cons_succ]
          refine wpAnyH_ready (rs := [5]) (by kernel_rfl) (by simp) ?_
          refine AllReadyH.cons rfl (fun K hK => ?_) AllReadyH.nil
          go_simp
          refine (HOF.out _).mono ?_
          rintro e_ Wn ⟨rfl, f⟩
          have hF := frm_false_trans hF f
          clear f
          refine hK.out _ _ (HS.out _ hF) (fun hHeld => ?_)
          clear hK K
          refine wpAnyH_take (i := 7) (v := ?v44) rfl (by kernel_rfl) (by kernel_rfl) (by kernel_rfl) (fun _ _ _ h => h) (Or.inl ⟨by rfl, ?hy44⟩) (by assumption) ?rest44
          case hy44 => (intro w hSw; (try dsimp only at hSw); go_simp; try with_reducible rfl)
          try simp only [Act.put, List.getElem_toArray, List.getElem_cons_zero, List.getElem_cons_succ, List.setIfInBounds_toArray, List.set_cons_zero, List.set_cons_succ]
          refine wpAnyH_take (i := 8) (v := ?v45) rfl (by kernel_rfl) (by kernel_rfl) (by kernel_rfl) (fun _ _ _ h => h) (Or.inl ⟨by rfl, ?hy45⟩) (by assumption) ?rest45
          case hy45 => (intro w hSw; (try dsimp only at hSw); go_simp; try with_reducible rfl)
          try simp only [Act.put, List.getElem_toArray, List.getElem_cons_zero, List.getElem_cons_succ, List.setIfInBounds_toArray, List.set_cons_zero, List.set_cons_succ]
          refine wpAnyH_take (i := 9) (v := ?v46) rfl (by kernel_rfl) (by kernel_rfl) (by kernel_rfl) (fun _ _ _ h => h) (Or.inl ⟨by rfl, ?hy46⟩) (by assumption) ?rest46
          case hy46 => (intro w hSw; (try dsimp only at hSw); go_simp; try with_reducible rfl)
          try simp only [Act.put, List.getElem_toArray, List.getElem_cons_zero, List.getElem_cons_succ, List.setIfInBounds_toArray, List.set_cons_zero, List.set_cons_succ]
          refine wpAnyH_take (i := 10) (v := ?v47) rfl (by kernel_rfl) (by kernel_rfl) (by kernel_rfl) (fun _ _ _ h => h) (Or.inl ⟨by rfl, ?hy47⟩) (by assumption) ?rest47
          case hy47 => (intro w hSw; (try dsimp only at hSw); go_simp; try with_reducible rfl)
          try simp only [Act.put, List.getElem_toArray, List.getElem_cons_zero, List.getElem_cons_succ, List.setIfInBounds_toArray, List.set_cons_zero, List.set_cons_succ]
          refine wpAnyH_take (i := 11) (v := ?v48) rfl (by kernel_rfl) (by kernel_rfl) (by kernel_rfl) (fun _ _ _ h => h) (Or.inl ⟨by rfl, ?hy48⟩) (by assumption) ?rest48
          case hy48 => (intro w hSw; (try dsimp only at hSw); go_simp; try with_reducible rfl)
          try simp only [Act.put, List.getElem_toArray, List.getElem_cons_zero, List.getElem_cons_succ, List.setIfInBounds_toArray, List.set_cons_zero, List.set_cons_succ]
          refine wpAnyH_take (i := 13) (v := ?v49) rfl (by kernel_rfl) (by kernel_rfl) (by kernel_rfl) (fun _ _ _ h => h) (Or.inl ⟨by rfl, ?hy49⟩) (by assumption) ?rest49
          case hy49 => (intro w hSw; (try dsimp only at hSw); go_simp; try with_reducible rfl)
          try simp only [Act.put, List.getElem_toArray, List.getElem_cons_zero, List.getElem_cons_succ, List.setIfInBounds_toArray, List.set_cons_zero, List.set_cons_succ]
          refine wpAnyH_take (i := 14) (v := ?v50) rfl (by kernel_rfl) (by kernel_rfl) (by kernel_rfl) (fun _ _ _ h => h) (Or.inl ⟨by rfl, ?hy50⟩) (by assumption) ?rest50
          case hy50 => (intro w hSw; (try dsimp only at hSw); go_simp; try with_reducible rfl)
          try simp only [Act.put, List.getElem_toArray, List.getElem_cons_zero, List.getElem_cons_succ, List.setIfInBounds_toArray, List.set_cons_zero, List.set_cons_succ]
          refine wpAnyH_ready (rs := [12]) (by kernel_rfl) (by simp) ?_
          refine AllReadyH.cons rfl (fun K hK => ?_) AllReadyH.nil
          go_simp
          refine (lvalid (HA.out.frm0 hF) ep).mono ?_
          rintro e_ Wv ⟨A5, n5, c5, rfl, ho5, _, f⟩
          have hF := frm_false_trans hF f
          clear f
          refine hK.out _ _ (HS.out _ hF) (fun hHeld => ?_)
          clear hK K
          refine wpAnyH_ready (rs := [15]) (by kernel_rfl) (by simp) ?_
          refine AllReadyH.cons rfl (fun K hK => ?_) AllReadyH.nil
          go_simp
          refine (rvalid_any gw ep D' w _ (HQ.out.frm0 hF)).mono ?_
          rintro e_ Wq ⟨A6, n6, c6, rfl, ho6, f⟩
          have ho5 := ho5.frm0 f
          have hF := frm_false_trans hF f
          clear f
          refine hK.out _ _ (HS.out _ hF) (fun hHeld => ?_)
          clear hK K
          refine wpAnyH_ready (rs := [16]) (by kernel_rfl) (by simp) ?_
          refine AllReadyH.cons rfl (fun K hK => ?_) AllReadyH.nil
          go_simp
          refine (same_any A5 A6 n5 n6 c5 c6 _ _ (validL D' ep) _ ho5 ho6 HVL.out).mono ?_
          rintro e_ Ws ⟨rfl, f⟩
          have hF := frm_false_trans hF f
          clear f ho5 ho6
          refine hK.out _ _ (HS.out _ hF) (fun hHeld => ?_)
          clear hK K
          refine wpAnyH_take (i := 17) (v := ?v51) rfl (by kernel_rfl) (by kernel_rfl) (by kernel_rfl) (fun _ _ _ h => h) (Or.inl ⟨by rfl, ?hy51⟩) (by assumption) ?rest51
          case hy51 => (intro w hSw; (try dsimp only at hSw); go_simp; try with_reducible rfl)
          try simp only [Act.put, List.getElem_toArray, List.getElem_cons_zero, List.getElem_cons_succ, List.setIfInBounds_toArray, List.set_cons_zero, List.set_cons_succ]
          refine wpAnyH_take (i := 18) (v := ?v52) rfl (by kernel_rfl) (by kernel_rfl) (by kernel_rfl) (fun _ _ _ h => h) (Or.inl ⟨by rfl, ?hy52⟩) (by assumption) ?rest52
          case hy52 => (intro w hSw; (try dsimp only at hSw); go_simp; try with_reducible rfl)
          try simp only [Act.put, List.getElem_toArray, List.getElem_cons_zero, List.getElem_cons_succ, List.setIfInBounds_toArray, List.set_cons_zero, List.set_cons_succ]
          refine wpAnyH_done (by kernel_rfl) ?_ _
          have H12 := hide (HA.out.frm0 hF)
          have HQ12 := hide (HQ.out.frm0 hF)
          clear hHeld hF HA HQ
          go_wp2_with fail
          go_roundw
          case rel => exact ⟨k + 1, by omega, by omega, by go_num, HS1.out ▸ H12.out, HS1.out ▸ HQ12.out⟩
          case measure => simp [intOf]; omega
      · obtain rfl : k = 100 := by omega
        obtain ⟨D, hD⟩ : ∃ D, D = foldL (L.take 100) := ⟨_, rfl⟩
        have H4 := hide HI.out
        have HQ4 := hide HQI.out
        rw [← hD] at H4 HQ4
        clear hD HI HQI
        go_wp2_with fail
        refine (lbytes H4.out).mono ?_
        rintro e_ w5 ⟨A1, c1, rfl, ho1, h5, f5⟩
        obtain ⟨hr5, hc5⟩ := own_rds8 ho1 rfl
        have H5 := hide h5
        have HQ5 := hide (HQ4.out.frm0 f5)
        have HLO := hide (lload_back H5.out.run A1 c1 _ H5.out.dir.ok hr5 hc5)
        obtain ⟨B, hB⟩ : ∃ B, B = bytesL D := ⟨_, rfl⟩
        have HBB := hide hB
        obtain ⟨nB, hnB⟩ : ∃ n, n = B.length := ⟨_, rfl⟩
        have HNB := hide hnB
        rw [← hB, ← hnB] at hr5 HLO ⊢
        have HR5 := hide hr5
        clear ho1 h5 f5 hr5 hc5 H4 HQ4 hB hnB
        go_wp2_with fail
        refine HLO.out.mono ?_
        rintro e_ w6 ⟨g', bm', rfl, f6, h6, hg6, hb6⟩
        have H8 := hide h6
        have H7 := hide (H5.out.frm0 f6)
        have HQ7 := hide (HQ5.out.frm0 f6)
        have HR7 := hide (HR5.out.frm0x f6)
        obtain ⟨BT, hBT⟩ : ∃ BT, BT = (⟨B.toArray⟩ : ByteArray) := ⟨_, rfl⟩
        have HBT : Hid ((⟨B.toArray⟩ : ByteArray) = BT) := hBT.symm
        have hc := fun W' (b : Frm (fun _ => False) w6 W') => conv_rds W' 50 9 5 Tryd.underlying50 Tryd.underlying5 Tryd.underlying9 A1 nB c1 B (HR7.out.frm0x b)
        rw [HBT.out] at hc
        have HC := hide hc
        have hrb := fun W' (b : Frm (fun _ => False) w6 W') => rbytes_any gw D w W' (HQ7.out.frm0 b)
        rw [← HBB.out, HBT.out] at hrb
        have HRB := hide hrb
        obtain ⟨N, hN⟩ : ∃ N, N = D.length := ⟨_, rfl⟩
        have HDN := hide hN.symm
        clear HLO h6 f6 hg6 hb6 H5 HQ5 HR5 hBT hc hrb hN
        go_wp2_with fail
        refine wp_region_held_drew (S := fun W => Frm (fun _ => False) w6 W) (by kernel_rfl) ((Frm.refl _ _).drew) ?_
        intro hF
        obtain ⟨W0, hW0⟩ : ∃ W', W' = w6.drew := ⟨_, rfl⟩
        rw [← hW0] at hF ⊢
        clear hW0
        refine wpAnyH_take (i := 0) (v := ?v53) rfl (by kernel_rfl) (by kernel_rfl) (by kernel_rfl) (fun _ _ _ h => h) (Or.inl ⟨by rfl, ?hy53⟩) (by assumption) ?rest53
        case hy53 => (intro w hSw; (try dsimp only at hSw); go_simp; try with_reducible rfl)
        try simp only [Act.put, List.getElem_toArray, List.getElem_cons_zero, List.setIfInBounds_toArray, List.set_cons_zero, List.set_cons_succ]
        refine wpAnyH_take (i := 1) (v := ?v54) rfl (by kernel_rfl) (by kernel_rfl) (by kernel_rfl) (fun _ _ _ h => h) (Or.inl ⟨by rfl, ?hy54⟩) (by assumption) ?rest54
        case hy54 => (intro w hSw; (try dsimp only at hSw); go_simp; try with_reducible rfl)
        try simp only [Act.put, List.getElem_toArray, List.getElem_cons_zero, List.getElem_cons_succ, List.setIfInBounds_toArray, List.set_cons_zero, List.set_cons_succ]
        refine wpAnyH_take (i := 2) (v := ?v55) rfl (by kernel_rfl) (by kernel_rfl) (by kernel_rfl) (fun _ _ _ h => h) (Or.inl ⟨by rfl, ?hy55⟩) (by assumption) ?rest55
        case hy55 => (intro w hSw; (try dsimp only at hSw); go_simp; try with_reducible rfl)
        try simp only [Act.put, List.getElem_toArray, List.getElem_cons_zero, List.getElem_cons_succ, List.setIfInBounds_toArray, List.set_cons_zero, List.set_cons_succ]
        refine wpAnyH_take (i := 3) (v := ?v56) rfl (by kernel_rfl) (by kernel_rfl) (by kernel_rfl) (fun _ _ _ h => h) (Or.inl ⟨by rfl, ?hy56⟩) (by assumption) ?rest56
        case hy56 => (intro w hSw; have hcv := HC.out _ hSw; go_simp; try with_reducible rfl)
        try simp only [Act.put, List.getElem_toArray, List.getElem_cons_zero, List.getElem_cons_succ, List.setIfInBounds_toArray, List.set_cons_zero, List.set_cons_succ]
        refine wpAnyH_take (i := 4) (v := ?v57) rfl (by kernel_rfl) (by kernel_rfl) (by kernel_rfl) (fun _ _ _ h => h) (Or.inl ⟨by rfl, ?hy57⟩) (by assumption) ?rest57
        case hy57 => (intro w hSw; (try dsimp only at hSw); go_simp; try with_reducible rfl)
        try simp only [Act.put, List.getElem_toArray, List.getElem_cons_zero, List.getElem_cons_succ, List.setIfInBounds_toArray, List.set_cons_zero, List.set_cons_succ]
        refine wpAnyH_ready (rs := [5]) (by kernel_rfl) (by simp) ?_
        refine AllReadyH.cons rfl (fun K hK => ?_) AllReadyH.nil
        go_simp
        refine (HRB.out _ hF).mono ?_
        rintro e_ Wn ⟨rfl, f⟩
        have hF := frm_false_trans hF f
        clear f
        refine hK.out _ _ (hF) (fun hHeld => ?_)
        clear hK K
        refine wpAnyH_take (i := 6) (v := ?v58) rfl (by kernel_rfl) (by kernel_rfl) (by kernel_rfl) (fun _ _ _ h => h) (Or.inl ⟨by rfl, ?hy58⟩) (by assumption) ?rest58
        case hy58 => (intro w hSw; (try dsimp only at hSw); go_simp; try with_reducible rfl)
        try simp only [Act.put, List.getElem_toArray, List.getElem_cons_zero, List.getElem_cons_succ, List.setIfInBounds_toArray, List.set_cons_zero, List.set_cons_succ]
        refine wpAnyH_take (i := 7) (v := ?v59) rfl (by kernel_rfl) (by kernel_rfl) (by kernel_rfl) (fun _ _ _ h => h) (Or.inl ⟨by rfl, ?hy59⟩) (by assumption) ?rest59
        case hy59 => (intro w hSw; (try dsimp only at hSw); go_simp; try with_reducible rfl)
        try simp only [Act.put, List.getElem_toArray, List.getElem_cons_zero, List.getElem_cons_succ, List.setIfInBounds_toArray, List.set_cons_zero, List.set_cons_succ]
        refine wpAnyH_take (i := 8) (v := ?v60) rfl (by kernel_rfl) (by kernel_rfl) (by kernel_rfl) (fun _ _ _ h => h) (Or.inl ⟨by rfl, ?hy60⟩) (by assumption) ?rest60
        case hy60 => (intro w hSw; (try dsimp only at hSw); go_simp; try with_reducible rfl)
        try simp only [Act.put, List.getElem_toArray, List.getElem_cons_zero, List.getElem_cons_succ, List.setIfInBounds_toArray, List.set_cons_zero, List.set_cons_succ]
        refine wpAnyH_take (i := 9) (v := ?v61) rfl (by kernel_rfl) (by kernel_rfl) (by kernel_rfl) (fun _ _ _ h => h) (Or.inl ⟨by rfl, ?hy61⟩) (by assumption) ?rest61
        case hy61 => (intro w hSw; (try dsimp only at hSw); go_simp; try with_reducible rfl)
        try simp only [Act.put, List.getElem_toArray, List.getElem_cons_zero, List.getElem_cons_succ, List.setIfInBounds_toArray, List.set_cons_zero, List.set_cons_succ]
        refine wpAnyH_take (i := 10) (v := ?v62) rfl (by kernel_rfl) (by kernel_rfl) (by kernel_rfl) (fun _ _ _ h => h) (Or.inl ⟨by rfl, ?hy62⟩) (by assumption) ?rest62
        case hy62 => (intro w hSw; (try dsimp only at hSw); go_simp; try with_reducible rfl)
        try simp only [Act.put, List.getElem_toArray, List.getElem_cons_zero, List.getElem_cons_succ, List.setIfInBounds_toArray, List.set_cons_zero, List.set_cons_succ]
        refine wpAnyH_take (i := 11) (v := ?v63) rfl (by kernel_rfl) (by kernel_rfl) (by kernel_rfl) (fun _ _ _ h => h) (Or.inl ⟨by rfl, ?hy63⟩) (by assumption) ?rest63
        case hy63 => (intro w hSw; (try dsimp only at hSw); go_simp; try with_reducible rfl)
        try simp only [Act.put, List.getElem_toArray, List.getElem_cons_zero, List.getElem_cons_succ, List.setIfInBounds_toArray, List.set_cons_zero, List.set_cons_succ]
        refine wpAnyH_take (i := 12) (v := ?v64) rfl (by kernel_rfl) (by kernel_rfl) (by kernel_rfl) (fun _ _ _ h => h) (Or.inl ⟨by rfl, ?hy64⟩) (by assumption) ?rest64
        case hy64 => (intro w hSw; (try dsimp only at hSw); go_simp; try with_reducible rfl)
        try simp only [Act.put, List.getElem_toArray, List.getElem_cons_zero, List.getElem_cons_succ, List.setIfInBounds_toArray, List.set_cons_zero, List.set_cons_succ]
        refine wpAnyH_take (i := 13) (v := ?v65) rfl (by kernel_rfl) (by kernel_rfl) (by kernel_rfl) (fun _ _ _ h => h) (Or.inl ⟨by rfl, ?hy65⟩) (by assumption) ?rest65
        case hy65 => (intro w hSw; (try dsimp only at hSw); go_simp; try with_reducible rfl)
        try simp only [Act.put, List.getElem_toArray, List.getElem_cons_zero, List.getElem_cons_succ, List.setIfInBounds_toArray, List.set_cons_zero, List.set_cons_succ]
        refine wpAnyH_take (i := 14) (v := ?v66) rfl (by kernel_rfl) (by kernel_rfl) (by kernel_rfl) (fun _ _ _ h => h) (Or.inl ⟨by rfl, ?hy66⟩) (by assumption) ?rest66
        case hy66 => (intro w hSw; (try dsimp only at hSw); go_simp; try with_reducible rfl)
        try simp only [Act.put, List.getElem_toArray, List.getElem_cons_zero, List.getElem_cons_succ, List.setIfInBounds_toArray, List.set_cons_zero, List.set_cons_succ]
        refine wpAnyH_take (i := 15) (v := ?v67) rfl (by kernel_rfl) (by kernel_rfl) (by kernel_rfl) (fun _ _ _ h => h) (Or.inl ⟨by rfl, ?hy67⟩) (by assumption) ?rest67
        case hy67 => (intro w hSw; (try dsimp only at hSw); go_simp; try with_reducible rfl)
        try simp only [Act.put, List.getElem_toArray, List.getElem_cons_zero, List.getElem_cons_succ, List.setIfInBounds_toArray, List.set_cons_zero, List.set_cons_succ]
        refine wpAnyH_take (i := 16) (v := ?v68) rfl (by kernel_rfl) (by kernel_rfl) (by kernel_rfl) (fun _ _ _ h => h) (Or.inl ⟨by rfl, ?hy68⟩) (by assumption) ?rest68
        case hy68 => (intro w hSw; (try dsimp only at hSw); go_simp; try with_reducible rfl)
        try simp only [Act.put, List.getElem_toArray, List.getElem_cons_zero, List.getElem_cons_succ, List.setIfInBounds_toArray, List.set_cons_zero, List.set_cons_succ]
        refine wpAnyH_take (i := 17) (v := ?v69) rfl (by kernel_rfl) (by kernel_rfl) (by kernel_rfl) (fun _ _ _ h => h) (Or.inl ⟨by rfl, ?hy69⟩) (by assumption) ?rest69
        case hy69 => (intro w hSw; (try dsimp only at hSw); go_simp; try with_reducible rfl)
        try simp only [Act.put, List.getElem_toArray, List.getElem_cons_zero, List.getElem_cons_succ, List.setIfInBounds_toArray, List.set_cons_zero, List.set_cons_succ]
        refine wpAnyH_take (i := 19) (v := ?v70) rfl (by kernel_rfl) (by kernel_rfl) (by kernel_rfl) (fun _ _ _ h => h) (Or.inl ⟨by rfl, ?hy70⟩) (by assumption) ?rest70
        case hy70 => (intro w hSw; (try dsimp only at hSw); go_simp; try with_reducible rfl)
        try simp only [Act.put, List.getElem_toArray, List.getElem_cons_zero, List.getElem_cons_succ, List.setIfInBounds_toArray, List.set_cons_zero, List.set_cons_succ]
        refine wpAnyH_ready (rs := [18]) (by kernel_rfl) (by simp) ?_
        refine AllReadyH.cons rfl (fun K hK => ?_) AllReadyH.nil
        go_simp
        refine (llen_is (H8.out.frm0 hF) N HDN.out).mono ?_
        rintro e_ Wn ⟨rfl, rfl⟩
        refine hK.out _ _ (hF) (fun hHeld => ?_)
        clear hK K
        refine wpAnyH_ready (rs := [20]) (by kernel_rfl) (by simp) ?_
        refine AllReadyH.cons rfl (fun K hK => ?_) AllReadyH.nil
        go_simp
        refine (llen_is (H7.out.frm0 hF) N HDN.out).mono ?_
        rintro e_ Wn ⟨rfl, rfl⟩
        refine hK.out _ _ (hF) (fun hHeld => ?_)
        clear hK K
        refine wpAnyH_take (i := 21) (v := ?v71) rfl (by kernel_rfl) (by kernel_rfl) (by kernel_rfl) (fun _ _ _ h => h) (Or.inl ⟨by rfl, ?hy71⟩) (by assumption) ?rest71
        case hy71 => (intro w hSw; (try dsimp only at hSw); go_simp; try with_reducible rfl)
        try simp only [Act.put, List.getElem_toArray, List.getElem_cons_zero, List.getElem_cons_succ, List.setIfInBounds_toArray, List.set_cons_zero, List.set_cons_succ]
        refine wpAnyH_take (i := 22) (v := ?v72) rfl (by kernel_rfl) (by kernel_rfl) (by kernel_rfl) (fun _ _ _ h => h) (Or.inl ⟨by rfl, ?hy72⟩) (by assumption) ?rest72
        case hy72 => (intro w hSw; (try dsimp only at hSw); go_simp; try with_reducible rfl)
        try simp only [Act.put, List.getElem_toArray, List.getElem_cons_zero, List.getElem_cons_succ, List.setIfInBounds_toArray, List.set_cons_zero, List.set_cons_succ]
        refine wpAnyH_take (i := 23) (v := ?v73) rfl (by kernel_rfl) (by kernel_rfl) (by kernel_rfl) (fun _ _ _ h => h) (Or.inl ⟨by rfl, ?hy73⟩) (by assumption) ?rest73
        case hy73 => (intro w hSw; (try dsimp only at hSw); go_simp; try with_reducible rfl)
        try simp only [Act.put, List.getElem_toArray, List.getElem_cons_zero, List.getElem_cons_succ, List.setIfInBounds_toArray, List.set_cons_zero, List.set_cons_succ]
        refine wpAnyH_take (i := 24) (v := ?v74) rfl (by kernel_rfl) (by kernel_rfl) (by kernel_rfl) (fun _ _ _ h => h) (Or.inl ⟨by rfl, ?hy74⟩) (by assumption) ?rest74
        case hy74 => (intro w hSw; (try dsimp only at hSw); go_simp; try with_reducible rfl)
        try simp only [Act.put, List.getElem_toArray, List.getElem_cons_zero, List.getElem_cons_succ, List.setIfInBounds_toArray, List.set_cons_zero, List.set_cons_succ]
        refine wpAnyH_take (i := 27) (v := ?v75) rfl (by kernel_rfl) (by kernel_rfl) (by kernel_rfl) (fun _ _ _ h => h) (Or.inl ⟨by rfl, ?hy75⟩) (by assumption) ?rest75
        case hy75 => (intro w hSw; (try dsimp only at hSw); go_simp; try with_reducible rfl)
        try simp only [Act.put, List.getElem_toArray, List.getElem_cons_zero, List.getElem_cons_succ, List.setIfInBounds_toArray, List.set_cons_zero, List.set_cons_succ]
        refine wpAnyH_take (i := 28) (v := ?v76) rfl (by kernel_rfl) (by kernel_rfl) (by kernel_rfl) (fun _ _ _ h => h) (Or.inl ⟨by rfl, ?hy76⟩) (by assumption) ?rest76
        case hy76 => (intro w hSw; have hcv := HC.out _ hSw; go_simp; try with_reducible rfl)
        try simp only [Act.put, List.getElem_toArray, List.getElem_cons_zero, List.getElem_cons_succ, List.setIfInBounds_toArray, List.set_cons_zero, List.set_cons_succ]
        refine wpAnyH_ready (rs := [25]) (by kernel_rfl) (by simp) ?_
        refine AllReadyH.cons rfl (fun K hK => ?_) AllReadyH.nil
        go_simp
        refine (lbytes (H8.out.frm0 hF)).mono ?_
        rintro e_ Wn ⟨A3, c3, rfl, ho3, _, f⟩
        obtain ⟨hr3, _⟩ := own_rds8 ho3 rfl
        rw [← HBB.out, ← HNB.out] at hr3 ⊢
        have hcv3 := conv_rds Wn 50 9 5 Tryd.underlying50 Tryd.underlying5 Tryd.underlying9 A3 nB c3 B hr3
        rw [HBT.out] at hcv3
        have hF := frm_false_trans hF f
        clear f ho3 hr3
        refine hK.out _ _ (hF) (fun hHeld => ?_)
        clear hK K
        refine wpAnyH_ready (rs := [26]) (by kernel_rfl) (by simp) ?_
        refine AllReadyH.cons rfl (fun K hK => ?_) AllReadyH.nil
        go_simp
        refine hK.out _ _ (hF) (fun hHeld => ?_)
        clear hK K
        refine wpAnyH_take (i := 29) (v := ?v77) rfl (by kernel_rfl) (by kernel_rfl) (by kernel_rfl) (fun _ _ _ h => h) (Or.inl ⟨by rfl, ?hy77⟩) (by assumption) ?rest77
        case hy77 => (intro w hSw; (try dsimp only at hSw); go_simp; try with_reducible rfl)
        try simp only [Act.put, List.getElem_toArray, List.getElem_cons_zero, List.getElem_cons_succ, List.setIfInBounds_toArray, List.set_cons_zero, List.set_cons_succ]
        refine wpAnyH_take (i := 30) (v := ?v78) rfl (by kernel_rfl) (by kernel_rfl) (by kernel_rfl) (fun _ _ _ h => h) (Or.inl ⟨by rfl, ?hy78⟩) (by assumption) ?rest78
        case hy78 => (intro w hSw; (try dsimp only at hSw); go_simp; try with_reducible rfl)
        try simp only [Act.put, List.getElem_toArray, List.getElem_cons_zero, List.getElem_cons_succ, List.setIfInBounds_toArray, List.set_cons_zero, List.set_cons_succ]
        refine wpAnyH_take (i := 31) (v := ?v79) rfl (by kernel_rfl) (by kernel_rfl) (by kernel_rfl) (fun _ _ _ h => h) (Or.inl ⟨by rfl, ?hy79⟩) (by assumption) ?rest79
        case hy79 => (intro w hSw; (try dsimp only at hSw); go_simp; try with_reducible rfl)
        try simp only [Act.put, List.getElem_toArray, List.getElem_cons_zero, List.getElem_cons_succ, List.setIfInBounds_toArray, List.set_cons_zero, List.set_cons_succ]
        refine wpAnyH_done (by kernel_rfl) ?_ _
        have HBEL := hide (H7.out.frm0 hF).run.below
        clear hF
        go_wp2_with fail
        go_ret
        exact ⟨rfl, HBEL.out⟩
    · obtain rfl : k = n0 := by omega
      have hlt' : ¬ (k : Int) < (k : Int) := by omega
      obtain ⟨D, hD⟩ : ∃ D, D = foldL (L.take k) := ⟨_, rfl⟩
      have H4 := hide HI.out
      have HQ4 := hide HQI.out
      rw [← hD] at H4 HQ4
      clear hD HI HQI
      go_wp2_with fail
      refine (lbytes H4.out).mono ?_
      rintro e_ w5 ⟨A1, c1, rfl, ho1, h5, f5⟩
      obtain ⟨hr5, hc5⟩ := own_rds8 ho1 rfl
      have H5 := hide h5
      have HQ5 := hide (HQ4.out.frm0 f5)
      have HLO := hide (lload_back H5.out.run A1 c1 _ H5.out.dir.ok hr5 hc5)
      obtain ⟨B, hB⟩ : ∃ B, B = bytesL D := ⟨_, rfl⟩
      have HBB := hide hB
      obtain ⟨nB, hnB⟩ : ∃ n, n = B.length := ⟨_, rfl⟩
      have HNB := hide hnB
      rw [← hB, ← hnB] at hr5 HLO ⊢
      have HR5 := hide hr5
      clear ho1 h5 f5 hr5 hc5 H4 HQ4 hB hnB
      go_wp2_with fail
      refine HLO.out.mono ?_
      rintro e_ w6 ⟨g', bm', rfl, f6, h6, hg6, hb6⟩
      have H8 := hide h6
      have H7 := hide (H5.out.frm0 f6)
      have HQ7 := hide (HQ5.out.frm0 f6)
      have HR7 := hide (HR5.out.frm0x f6)
      obtain ⟨BT, hBT⟩ : ∃ BT, BT = (⟨B.toArray⟩ : ByteArray) := ⟨_, rfl⟩
      have HBT : Hid ((⟨B.toArray⟩ : ByteArray) = BT) := hBT.symm
      have hc := fun W' (b : Frm (fun _ => False) w6 W') => conv_rds W' 50 9 5 Tryd.underlying50 Tryd.underlying5 Tryd.underlying9 A1 nB c1 B (HR7.out.frm0x b)
      rw [HBT.out] at hc
      have HC := hide hc
      have hrb := fun W' (b : Frm (fun _ => False) w6 W') => rbytes_any gw D w W' (HQ7.out.frm0 b)
      rw [← HBB.out, HBT.out] at hrb
      have HRB := hide hrb
      obtain ⟨N, hN⟩ : ∃ N, N = D.length := ⟨_, rfl⟩
      have HDN := hide hN.symm
      clear HLO h6 f6 hg6 hb6 H5 HQ5 HR5 hBT hc hrb hN
      go_wp2_with fail
      refine wp_region_held_drew (S := fun W => Frm (fun _ => False) w6 W) (by kernel_rfl) ((Frm.refl _ _).drew) ?_
      intro hF
      obtain ⟨W0, hW0⟩ : ∃ W', W' = w6.drew := ⟨_, rfl⟩
      rw [← hW0] at hF ⊢
      clear hW0
      refine wpAnyH_take (i := 0) (v := ?v80) rfl (by kernel_rfl) (by kernel_rfl) (by kernel_rfl) (fun _ _ _ h => h) (Or.inl ⟨by rfl, ?hy80⟩) (by assumption) ?rest80
      case hy80 => (intro w hSw; (try dsimp only at hSw); go_simp; try with_reducible rfl)
      try simp only [Act.put, List.getElem_toArray, List.getElem_cons_zero, List.setIfInBounds_toArray, List.set_cons_zero, List.set_cons_succ]
      refine wpAnyH_take (i := 1) (v := ?v81) rfl (by kernel_rfl) (by kernel_rfl) (by kernel_rfl) (fun _ _ _ h => h) (Or.inl ⟨by rfl, ?hy81⟩) (by assumption) ?rest81
      case hy81 => (intro w hSw; (try dsimp only at hSw); go_simp; try with_reducible rfl)
      try simp only [Act.put, List.getElem_toArray, List.getElem_cons_zero, List.getElem_cons_succ, List.setIfInBounds_toArray, List.set_cons_zero, List.set_cons_succ]
      refine wpAnyH_take (i := 2) (v := ?v82) rfl (by kernel_rfl) (by kernel_rfl) (by kernel_rfl) (fun _ _ _ h => h) (Or.inl ⟨by rfl, ?hy82⟩) (by assumption) ?rest82
      case hy82 => (intro w hSw; (try dsimp only at hSw); go_simp; try with_reducible rfl)
      try simp only [Act.put, List.getElem_toArray, List.getElem_cons_zero, List.getElem_cons_succ, List.setIfInBounds_toArray, List.set_cons_zero, List.set_cons_succ]
      refine wpAnyH_take (i := 3) (v := ?v83) rfl (by kernel_rfl) (by kernel_rfl) (by kernel_rfl) (fun _ _ _ h => h) (Or.inl ⟨by rfl, ?hy83⟩) (by assumption) ?rest83
      case hy83 => (intro w hSw; have hcv := HC.out _ hSw; go_simp; try with_reducible rfl)
      try simp only [Act.put, List.getElem_toArray, List.getElem_cons_zero, List.getElem_cons_succ, List.setIfInBounds_toArray, List.set_cons_zero, List.set_cons_succ]
      refine wpAnyH_take (i := 4) (v := ?v84) rfl (by kernel_rfl) (by kernel_rfl) (by kernel_rfl) (fun _ _ _ h => h) (Or.inl ⟨by rfl, ?hy84⟩) (by assumption) ?rest84
      case hy84 => (intro w hSw; (try dsimp only at hSw); go_simp; try with_reducible rfl)
      try simp only [Act.put, List.getElem_toArray, List.getElem_cons_zero, List.getElem_cons_succ, List.setIfInBounds_toArray, List.set_cons_zero, List.set_cons_succ]
      refine wpAnyH_ready (rs := [5]) (by kernel_rfl) (by simp) ?_
      refine AllReadyH.cons rfl (fun K hK => ?_) AllReadyH.nil
      go_simp
      refine (HRB.out _ hF).mono ?_
      rintro e_ Wn ⟨rfl, f⟩
      have hF := frm_false_trans hF f
      clear f
      refine hK.out _ _ (hF) (fun hHeld => ?_)
      clear hK K
      refine wpAnyH_take (i := 6) (v := ?v85) rfl (by kernel_rfl) (by kernel_rfl) (by kernel_rfl) (fun _ _ _ h => h) (Or.inl ⟨by rfl, ?hy85⟩) (by assumption) ?rest85
      case hy85 => (intro w hSw; (try dsimp only at hSw); go_simp; try with_reducible rfl)
      try simp only [Act.put, List.getElem_toArray, List.getElem_cons_zero, List.getElem_cons_succ, List.setIfInBounds_toArray, List.set_cons_zero, List.set_cons_succ]
      refine wpAnyH_take (i := 7) (v := ?v86) rfl (by kernel_rfl) (by kernel_rfl) (by kernel_rfl) (fun _ _ _ h => h) (Or.inl ⟨by rfl, ?hy86⟩) (by assumption) ?rest86
      case hy86 => (intro w hSw; (try dsimp only at hSw); go_simp; try with_reducible rfl)
      try simp only [Act.put, List.getElem_toArray, List.getElem_cons_zero, List.getElem_cons_succ, List.setIfInBounds_toArray, List.set_cons_zero, List.set_cons_succ]
      refine wpAnyH_take (i := 8) (v := ?v87) rfl (by kernel_rfl) (by kernel_rfl) (by kernel_rfl) (fun _ _ _ h => h) (Or.inl ⟨by rfl, ?hy87⟩) (by assumption) ?rest87
      case hy87 => (intro w hSw; (try dsimp only at hSw); go_simp; try with_reducible rfl)
      try simp only [Act.put, List.getElem_toArray, List.getElem_cons_zero, List.getElem_cons_succ, List.setIfInBounds_toArray, List.set_cons_zero, List.set_cons_succ]
      refine wpAnyH_take (i := 9) (v := ?v88) rfl (by kernel_rfl) (by kernel_rfl) (by kernel_rfl) (fun _ _ _ h => h) (Or.inl ⟨by rfl, ?hy88⟩) (by assumption) ?rest88
      case hy88 => (intro w hSw; (try dsimp only at hSw); go_simp; try with_reducible rfl)
      try simp only [Act.put, List.getElem_toArray, List.getElem_cons_zero, List.getElem_cons_succ, List.setIfInBounds_toArray, List.set_cons_zero, List.set_cons_succ]
      refine wpAnyH_take (i := 10) (v := ?v89) rfl (by kernel_rfl) (by kernel_rfl) (by kernel_rfl) (fun _ _ _ h => h) (Or.inl ⟨by rfl, ?hy89⟩) (by assumption) ?rest89
      case hy89 => (intro w hSw; (try dsimp only at hSw); go_simp; try with_reducible rfl)
      try simp only [Act.put, List.getElem_toArray, List.getElem_cons_zero, List.getElem_cons_succ, List.setIfInBounds_toArray, List.set_cons_zero, List.set_cons_succ]
      refine wpAnyH_take (i := 11) (v := ?v90) rfl (by kernel_rfl) (by kernel_rfl) (by kernel_rfl) (fun _ _ _ h => h) (Or.inl ⟨by rfl, ?hy90⟩) (by assumption) ?rest90
      case hy90 => (intro w hSw; (try dsimp only at hSw); go_simp; try with_reducible rfl)
      try simp only [Act.put, List.getElem_toArray, List.getElem_cons_zero, List.getElem_cons_succ, List.setIfInBounds_toArray, List.set_cons_zero, List.set_cons_succ]
      refine wpAnyH_take (i := 12) (v := ?v91) rfl (by kernel_rfl) (by kernel_rfl) (by kernel_rfl) (fun _ _ _ h => h) (Or.inl ⟨by rfl, ?hy91⟩) (by assumption) ?rest91
      case hy91 => (intro w hSw; (try dsimp only at hSw); go_simp; try with_reducible rfl)
      try simp only [Act.put, List.getElem_toArray, List.getElem_cons_zero, List.getElem_cons_succ, List.setIfInBounds_toArray, List.set_cons_zero, List.set_cons_succ]
      refine wpAnyH_take (i := 13) (v := ?v92) rfl (by kernel_rfl) (by kernel_rfl) (by kernel_rfl) (fun _ _ _ h => h) (Or.inl ⟨by rfl, ?hy92⟩) (by assumption) ?rest92
      case hy92 => (intro w hSw; (try dsimp only at hSw); go_simp; try with_reducible rfl)
      try simp only [Act.put, List.getElem_toArray, List.getElem_cons_zero, List.getElem_cons_succ, List.setIfInBounds_toArray, List.set_cons_zero, List.set_cons_succ]
      refine wpAnyH_take (i := 14) (v := ?v93) rfl (by kernel_rfl) (by kernel_rfl) (by kernel_rfl) (fun _ _ _ h => h) (Or.inl ⟨by rfl, ?hy93⟩) (by assumption) ?rest93
      case hy93 => (intro w hSw; (try dsimp only at hSw); go_simp; try with_reducible rfl)
      try simp only [Act.put, List.getElem_toArray, List.getElem_cons_zero, List.getElem_cons_succ, List.setIfInBounds_toArray, List.set_cons_zero, List.set_cons_succ]
      refine wpAnyH_take (i := 15) (v := ?v94) rfl (by kernel_rfl) (by kernel_rfl) (by kernel_rfl) (fun _ _ _ h => h) (Or.inl ⟨by rfl, ?hy94⟩) (by assumption) ?rest94
      case hy94 => (intro w hSw; (try dsimp only at hSw); go_simp; try with_reducible rfl)
      try simp only [Act.put, List.getElem_toArray, List.getElem_cons_zero, List.getElem_cons_succ, List.setIfInBounds_toArray, List.set_cons_zero, List.set_cons_succ]
      refine wpAnyH_take (i := 16) (v := ?v95) rfl (by kernel_rfl) (by kernel_rfl) (by kernel_rfl) (fun _ _ _ h => h) (Or.inl ⟨by rfl, ?hy95⟩) (by assumption) ?rest95
      case hy95 => (intro w hSw; (try dsimp only at hSw); go_simp; try with_reducible rfl)
      try simp only [Act.put, List.getElem_toArray, List.getElem_cons_zero, List.getElem_cons_succ, List.setIfInBounds_toArray, List.set_cons_zero, List.set_cons_succ]
      refine wpAnyH_take (i := 17) (v := ?v96) rfl (by kernel_rfl) (by kernel_rfl) (by kernel_rfl) (fun _ _ _ h => h) (Or.inl ⟨by rfl, ?hy96⟩) (by assumption) ?rest96
      case hy96 => (intro w hSw; (try dsimp only at hSw); go_simp; try with_reducible rfl)
      try simp only [Act.put, List.getElem_toArray, List.getElem_cons_zero, List.getElem_cons_succ, List.setIfInBounds_toArray, List.set_cons_zero, List.set_cons_succ]
      refine wpAnyH_take (i := 19) (v := ?v97) rfl (by kernel_rfl) (by kernel_rfl) (by kernel_rfl) (fun _ _ _ h => h) (Or.inl ⟨by rfl, ?hy97⟩) (by assumption) ?rest97
      case hy97 => (intro w hSw; (try dsimp only at hSw); go_simp; try with_reducible rfl)
      try simp only [Act.put, List.getElem_toArray, List.getElem_cons_zero, List.getElem_cons_succ, List.setIfInBounds_toArray, List.set_cons_zero, List.set_cons_succ]
      refine wpAnyH_ready (rs := [18]) (by kernel_rfl) (by simp) ?_
      refine AllReadyH.cons rfl (fun K hK => ?_) AllReadyH.nil
      go_simp
      refine (llen_is (H8.out.frm0 hF) N HDN.out).mono ?_
      rintro e_ Wn ⟨rfl, rfl⟩
      refine hK.out _ _ (hF) (fun hHeld => ?_)
      clear hK K
      refine wpAnyH_ready (rs := [20]) (by kernel_rfl) (by simp) ?_
      refine AllReadyH.cons rfl (fun K hK => ?_) AllReadyH.nil
      go_simp
      refine (llen_is (H7.out.frm0 hF) N HDN.out).mono ?_
      rintro e_ Wn ⟨rfl, rfl⟩
      refine hK.out _ _ (hF) (fun hHeld => ?_)
      clear hK K
      refine wpAnyH_take (i := 21) (v := ?v98) rfl (by kernel_rfl) (by kernel_rfl) (by kernel_rfl) (fun _ _ _ h => h) (Or.inl ⟨by rfl, ?hy98⟩) (by assumption) ?rest98
      case hy98 => (intro w hSw; (try dsimp only at hSw); go_simp; try with_reducible rfl)
      try simp only [Act.put, List.getElem_toArray, List.getElem_cons_zero, List.getElem_cons_succ, List.setIfInBounds_toArray, List.set_cons_zero, List.set_cons_succ]
      refine wpAnyH_take (i := 22) (v := ?v99) rfl (by kernel_rfl) (by kernel_rfl) (by kernel_rfl) (fun _ _ _ h => h) (Or.inl ⟨by rfl, ?hy99⟩) (by assumption) ?rest99
      case hy99 => (intro w hSw; (try dsimp only at hSw); go_simp; try with_reducible rfl)
      try simp only [Act.put, List.getElem_toArray, List.getElem_cons_zero, List.getElem_cons_succ, List.setIfInBounds_toArray, List.set_cons_zero, List.set_cons_succ]
      refine wpAnyH_take (i := 23) (v := ?v100) rfl (by kernel_rfl) (by kernel_rfl) (by kernel_rfl) (fun _ _ _ h => h) (Or.inl ⟨by rfl, ?hy100⟩) (by assumption) ?rest100
      case hy100 => (intro w hSw; (try dsimp only at hSw); go_simp; try with_reducible rfl)
      try simp only [Act.put, List.getElem_toArray, List.getElem_cons_zero, List.getElem_cons_succ, List.setIfInBounds_toArray, List.set_cons_zero, List.set_cons_succ]
      refine wpAnyH_take (i := 24) (v := ?v101) rfl (by kernel_rfl) (by kernel_rfl) (by kernel_rfl) (fun _ _ _ h => h) (Or.inl ⟨by rfl, ?hy101⟩) (by assumption) ?rest101
      case hy101 => (intro w hSw; (try dsimp only at hSw); go_simp; try with_reducible rfl)
      try simp only [Act.put, List.getElem_toArray, List.getElem_cons_zero, List.getElem_cons_succ, List.setIfInBounds_toArray, List.set_cons_zero, List.set_cons_succ]
      refine wpAnyH_take (i := 27) (v := ?v102) rfl (by kernel_rfl) (by kernel_rfl) (by kernel_rfl) (fun _ _ _ h => h) (Or.inl ⟨by rfl, ?hy102⟩) (by assumption) ?rest102
      case hy102 => (intro w hSw; (try dsimp only at hSw); go_simp; try with_reducible rfl)
      try simp only [Act.put, List.getElem_toArray, List.getElem_cons_zero, List.getElem_cons_succ, List.setIfInBounds_toArray, List.set_cons_zero, List.set_cons_succ]
      refine wpAnyH_take (i := 28) (v := ?v103) rfl (by kernel_rfl) (by kernel_rfl) (by kernel_rfl) (fun _ _ _ h => h) (Or.inl ⟨by rfl, ?hy103⟩) (by assumption) ?rest103
      case hy103 => (intro w hSw; have hcv := HC.out _ hSw; go_simp; try with_reducible rfl)
      try simp only [Act.put, List.getElem_toArray, List.getElem_cons_zero, List.getElem_cons_succ, List.setIfInBounds_toArray, List.set_cons_zero, List.set_cons_succ]
      refine wpAnyH_ready (rs := [25]) (by kernel_rfl) (by simp) ?_
      refine AllReadyH.cons rfl (fun K hK => ?_) AllReadyH.nil
      go_simp
      refine (lbytes (H8.out.frm0 hF)).mono ?_
      rintro e_ Wn ⟨A3, c3, rfl, ho3, _, f⟩
      obtain ⟨hr3, _⟩ := own_rds8 ho3 rfl
      rw [← HBB.out, ← HNB.out] at hr3 ⊢
      have hcv3 := conv_rds Wn 50 9 5 Tryd.underlying50 Tryd.underlying5 Tryd.underlying9 A3 nB c3 B hr3
      rw [HBT.out] at hcv3
      have hF := frm_false_trans hF f
      clear f ho3 hr3
      refine hK.out _ _ (hF) (fun hHeld => ?_)
      clear hK K
      refine wpAnyH_ready (rs := [26]) (by kernel_rfl) (by simp) ?_
      refine AllReadyH.cons rfl (fun K hK => ?_) AllReadyH.nil
      go_simp
      refine hK.out _ _ (hF) (fun hHeld => ?_)
      clear hK K
      refine wpAnyH_take (i := 29) (v := ?v104) rfl (by kernel_rfl) (by kernel_rfl) (by kernel_rfl) (fun _ _ _ h => h) (Or.inl ⟨by rfl, ?hy104⟩) (by assumption) ?rest104
      case hy104 => (intro w hSw; (try dsimp only at hSw); go_simp; try with_reducible rfl)
      try simp only [Act.put, List.getElem_toArray, List.getElem_cons_zero, List.getElem_cons_succ, List.setIfInBounds_toArray, List.set_cons_zero, List.set_cons_succ]
      refine wpAnyH_take (i := 30) (v := ?v105) rfl (by kernel_rfl) (by kernel_rfl) (by kernel_rfl) (fun _ _ _ h => h) (Or.inl ⟨by rfl, ?hy105⟩) (by assumption) ?rest105
      case hy105 => (intro w hSw; (try dsimp only at hSw); go_simp; try with_reducible rfl)
      try simp only [Act.put, List.getElem_toArray, List.getElem_cons_zero, List.getElem_cons_succ, List.setIfInBounds_toArray, List.set_cons_zero, List.set_cons_succ]
      refine wpAnyH_take (i := 31) (v := ?v106) rfl (by kernel_rfl) (by kernel_rfl) (by kernel_rfl) (fun _ _ _ h => h) (Or.inl ⟨by rfl, ?hy106⟩) (by assumption) ?rest106
      case hy106 => (intro w hSw; (try dsimp only at hSw); go_simp; try with_reducible rfl)
      try simp only [Act.put, List.getElem_toArray, List.getElem_cons_zero, List.getElem_cons_succ, List.setIfInBounds_toArray, List.set_cons_zero, List.set_cons_succ]
      refine wpAnyH_done (by kernel_rfl) ?_ _
      have HBEL := hide (H7.out.frm0 hF).run.below
      clear hF
      go_wp2_with fail
      go_ret
      exact ⟨rfl, HBEL.out⟩
end Go.Proofs.YtjicnfkodieaaaaDoor
