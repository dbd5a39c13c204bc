/-
  The document's Load.
-/
import Derived.Test.YtjicnfkodieaaaaDoorRf3
import Derived.Test.YtjicnfkodieaaaaDoorRf4
import Derived.Test.YtjicnfkodieaaaaDoorHeldX
import Derived.Test.YtjicnfkodieaaaaDoorDsT
import Derived.OrdersHeld
namespace Go.Proofs.YtjicnfkodieaaaaDoor
set_option linter.unusedVariables false
set_option linter.unusedSimpArgs false
open Go.RowKit

theorem str_to (l : List UInt8) (j : Nat) (hj : j ≤ l.length) (w : World) : Sem.run Tryd.prog (Instr.sliceAt 9 (.string ⟨l.toArray⟩) none (some (.int .i64 (j : Int))) none) w = .ok (.string ⟨(l.take j).toArray⟩) w := by
  have h4 : (⟨l.toArray⟩ : ByteArray).size = l.length := size_mk l
  have h5 : (⟨l.toArray⟩ : ByteArray).extract 0 j = ⟨(l.take j).toArray⟩ := by
    apply ByteArray.ext
    simp [ByteArray.data_extract, List.extract_eq_take_drop]
  simp only [Instr.sliceAt, Instr.slice, run_underlying under9, Sem.run_bind, Result.andThen_ok, Instr.sliceBounds, Instr.sliceBound, asIntOf, h4]
  simp [hj, h5]
theorem str_from (l : List UInt8) (i : Nat) (hi : i ≤ l.length) (w : World) : Sem.run Tryd.prog (Instr.sliceAt 9 (.string ⟨l.toArray⟩) (some (.int .i64 (i : Int))) none none) w = .ok (.string ⟨(l.drop i).toArray⟩) w := by
  have h4 : (⟨l.toArray⟩ : ByteArray).size = l.length := size_mk l
  have h5 : (⟨l.toArray⟩ : ByteArray).extract i l.length = ⟨(l.drop i).toArray⟩ := by
    rw [extract_mk, List.take_of_length_le (by rw [List.length_drop]; exact Nat.le_refl _)]
  simp only [Instr.sliceAt, Instr.slice, run_underlying under9, Sem.run_bind, Result.andThen_ok, Instr.sliceBounds, Instr.sliceBound, asIntOf, h4]
  simp [hi, h5]
theorem meet8 {R : World → Nat → Prop} {A : World → Nat → Prop} {G : Prop} (h1 : (∀ W g, A W g → R W g) → G) (h2 : ∀ W g, A W g → R W g) : G := h1 h2
theorem step_storea {P : Program} {ty : TypeId} {n : Nat} (hA : Agg P ty n) {ops : Array Oper} {op : Oper} {a : Act} {w : World} {K : Act → World → Prop} {Q : Exit → Act → World → Prop} {E : Prop} (hgd : op.guard = none) (x y : Operand) (ho : op.op = .store ty x y)
    (g : Nat) (cs : List Value) (hx : a.eval x = .pointer (some ⟨g, 0, none⟩)) (hy : a.eval y = .agg cs.toArray) (t : TypeId) (old : Array Value) (hb : Blk w g t old) (hn : cs.length = n) (hold : old.size = n) (h1 : ∀ v ∈ cs, v.oneCell' = true)
    (h : ∀ w', Blk w' g t cs.toArray → Frm (fun k => k = g) w w' → K (a.put op.dst undef) w') : if Region.wanted op (yielded ops a.tmps) = true then Oper.wp P op a w K Q else E := by
  have hw : Region.wanted op (yielded ops a.tmps) = true := by simp [Region.wanted, hgd]
  rw [if_pos hw]
  exact wp_store_row ty x y ho g cs.toArray hx hy t old hb (by rw [hA.2]; simp [hn]) (by simp [hn, hold]) (Array.all_eq_true_iff_forall_mem.2 fun v hv => h1 v (by simpa using hv)) (h _ (hb.setRow _) (Frm.setRow _ _ _))
theorem step_alloca {P : Program} {ops : Array Oper} {op : Oper} {a : Act} {w : World} {K : Act → World → Prop} {Q : Exit → Act → World → Prop} {E : Prop} (hw : Region.wanted op (yielded ops a.tmps) = true) (t : TypeId) (ho : op.op = .alloc t)
    (cs : List Value) (hz : (P.info? t).map (fun i => i.zero) = some (some (.agg cs.toArray)))
    (h : ∀ g w', Blk w' g t cs.toArray → w.heap.size ≤ g → Frm (fun _ => False) w w' → K (a.put op.dst (.pointer (some ⟨g, 0, none⟩))) w') :
    if Region.wanted op (yielded ops a.tmps) = true then Oper.wp P op a w K Q else E := by
  rw [if_pos hw]
  have hzv : ∀ w, (zeroValue t).run P w = .ok (.agg cs.toArray) w := by
    intro w
    cases hq : P.info? t with
    | none => simp [hq] at hz
    | some i => simp [hq] at hz; simp [zeroValue, typeInfo, hq, hz]
  unfold Oper.wp execOp
  simp [ho, Instr.alloc, hzv, newVar, newRow, Value.cells, Oper.upon, Result.andThen]
  exact h _ _ (Blk.new _ _ _) (Nat.le_refl _) (Frm.alloc _ _ _)

set_option maxHeartbeats 16000000 in
set_option maxRecDepth 100000 in
theorem rload_any (b : List UInt8) (w0 w : World) (hb : b.length ≤ 10000) (hw0 : w0.heap.size ≤ w.heap.size) :
    Calls Tryd.prog 28 #[.string ⟨b.toArray⟩] w fun en w' => ∃ p, en = .returned (.tuple #[.pointer p, .int .i64 (errB b : Nat)]) ∧ Frm (fun _ => False) w w' ∧ (errB b = 0 → ∃ g, p = some ⟨g, 0, none⟩ ∧ RDir w0 w' g (recsB b)) ∧ (errB b ≠ 0 → p = none) := by
  obtain ⟨n, hn⟩ : ∃ n, n = b.length := ⟨_, rfl⟩
  have HBN : Hid (b.length = n) := hn.symm
  have hszT : (⟨b.toArray⟩ : ByteArray).size = n := by rw [size_mk, hn]
  rw [← hn] at hb
  by_cases h32 : n < 32
  · have h32' : (n : Int) < 32 := by omega
    have HE := hide (errB_short (b := b) (by rw [HBN.out]; exact h32))
    clear hn
    generalize (⟨b.toArray⟩ : ByteArray) = T at *
    go_enter Tryd.func28, Tryd.ntmps28
    go_wp2_with fail
    go_ret2
    exact ⟨none, by rw [HE.out]; rfl, Frm.refl _ _, fun h => absurd h (by rw [HE.out]; decide), fun _ => rfl⟩
  · obtain ⟨m, hm⟩ : ∃ m, n = m + 32 := ⟨n - 32, by omega⟩
    subst hm
    have h32' : ¬ ((m + 32 : Nat) : Int) < 32 := by omega
    have hw1 : IntKind.i64.wrap (((m + 32 : Nat) : Int) - 32) = (m : Int) := by rw [IntKind.wrap_i64]; omega
    have hw2 : ((m + 32 : Nat) : Int) - 32 = (m : Int) := by omega
    have HB32 : Hid (¬ b.length < 32) := by show ¬ _; rw [HBN.out]; exact h32
    have HLO : Hid ((ownB b).length = m) := by show _ = _; unfold ownB; rw [List.length_take, HBN.out]; omega
    have HTO : Hid (b.take m = ownB b) := by show _ = _; unfold ownB; rw [HBN.out]; congr 1
    have HDR : Hid (b.drop (b.length - 32) = b.drop m) := by show _ = _; rw [HBN.out, Nat.add_sub_cancel]
    have hcut := fun w => str_to b m (by rw [HBN.out]; omega) w
    rw [HTO.out] at hcut
    have HSE := hide (fun W => sealed_any (ownB b) W (by rw [HLO.out]; omega))
    have hszO : (⟨(ownB b).toArray⟩ : ByteArray).size = m := by rw [size_mk, HLO.out]
    have hsl := fun i j => extract_mk (ownB b) i j
    have HSL := hide hsl
    have HRB : Hid (recsB b = recsL (ownB b) (m / 14)) := by show _ = _; unfold recsB; rw [HBN.out, Nat.add_sub_cancel]
    clear hn hsl
    by_cases hmac : shaL (ownB b) = b.drop (b.length - 32)
    · have HMAC := hide hmac
      have hsame : ownB b ++ shaL (ownB b) = b := by rw [hmac, HDR.out, ← HTO.out, List.take_append_drop]
      rw [hsame] at HSE
      clear hmac hsame
      obtain ⟨R, hR⟩ : ∃ R, R = recsL (ownB b) (m / 14) := ⟨_, rfl⟩
      rw [← hR] at HRB
      have HRL : Hid (R.length = m / 14) := by show _ = _; rw [hR, recsL_length]
      have HRG : Hid (∀ k, k < m / 14 → R.getD k default = decR ((ownB b).drop (14 * k))) := fun k hk => by rw [hR]; exact recsL_at _ _ k hk
      clear hR
      obtain ⟨TO, hTO⟩ : ∃ T, T = (⟨(ownB b).toArray⟩ : ByteArray) := ⟨_, rfl⟩
      rw [← hTO] at HSE HSL hcut hszO
      clear hTO
      generalize (⟨b.toArray⟩ : ByteArray) = T at *
      by_cases h14 : m % 14 = 0
      · have h14' : ((m : Int) % 14) = 0 := by omega
        have h14'' : Int.tmod (m : Int) 14 = 0 := by rw [Int.tmod_eq_emod_of_nonneg (by omega)]; exact h14'
        obtain ⟨K, hK⟩ : ∃ K, m = 14 * K := ⟨m / 14, by omega⟩
        have hKm : m / 14 = K := by omega
        rw [hKm] at HRL HRG
        have HK := hide hK
        clear hK hKm
        go_enter Tryd.func28, Tryd.ntmps28
        go_wp2_with fail
        refine (HSE.out w).mono ?_
        rintro e_ w1 ⟨rfl, hb1⟩
        have hF1 : Frm (fun _ => False) w w1 := Frm.of_below hb1
        have hd : RDir w0 (w1.alloc (.cells #[.slice none 0 0] 32)) w1.heap.size [] := ⟨by have := hF1.size; omega, DirOk.nil, none, 0, 0, Blk.new _ _ _, QOwn.nil _ _⟩
        have HD1 := hide hd
        have HF1 := hide (frm_false_trans hF1 (Frm.alloc w1 (.cells #[.slice none 0 0] 32) (fun _ => False)))
        have hg1 := hF1.size
        clear hb1 hF1 hd HSE hcut
        go_wp2_with fail
        obtain ⟨g, hgd⟩ : ∃ g, g = w1.heap.size := ⟨_, rfl⟩
        rw [← hgd] at HD1 hg1 ⊢
        clear hgd
        have hgw := hg1
        go_loopw [6] (fun i wr => ∃ k : Nat, k ≤ K ∧ i = .int .i64 ((14 * k : Nat) : Int) ∧ RDir w0 wr g (R.take k) ∧ Frm (fun _ => False) w wr) (fun i _ => m - (intOf i).toNat)
        case atStart => exact ⟨0, by omega, rfl, HD1.out, HF1.out⟩
        case round =>
          clear HD1 HF1 hg1
          obtain ⟨k, hk, rfl, hrd, hf⟩ := hrel
          have HRD := hide hrd
          have HF := hide hf
          clear hrd hf
          by_cases hlt : k < K
          · have hlt' : ((14 * k : Nat) : Int) < (m : Int) := by have := HK.out; omega
            have hp14 : IntKind.i64.wrap (((14 * k : Nat) : Int) + 14) = ((14 * k + 14 : Nat) : Int) := by rw [IntKind.wrap_i64]; omega
            have hp14' : ((14 * k : Nat) : Int) + 14 = ((14 * k + 14 : Nat) : Int) := by omega
            have hx1 := HSL.out (14 * k) (14 * k + 14)
            rw [Nat.add_sub_cancel_left] at hx1
            obtain ⟨X, hX⟩ : ∃ X, X = ((ownB b).drop (14 * k)).take 14 := ⟨_, rfl⟩
            rw [← hX] at hx1
            have hXL : X.length = 14 := by rw [hX, List.length_take, List.length_drop, HLO.out]; have := HK.out; omega
            have q0 : (⟨X.toArray⟩ : ByteArray).extract 0 2 = ⟨(X.take 2).toArray⟩ := by rw [extract_mk]; rfl
            have q1 := extract_mk X 2 6
            have q2 := extract_mk X 6 10
            have q3 : (⟨X.toArray⟩ : ByteArray).extract 10 14 = ⟨(X.drop 10).toArray⟩ := by rw [extract_mk, List.take_of_length_le (by rw [List.length_drop]; omega)]
            have HN0 := hide (fun W => num24_any (X.take 2) 2 W (by rw [List.length_take]; omega) (by omega))
            have HN1 := hide (fun W => num24_any ((X.drop 2).take (6 - 2)) 4 W (by rw [List.length_take, List.length_drop]; omega) (by omega))
            have HN2 := hide (fun W => num24_any ((X.drop 6).take (10 - 6)) 4 W (by rw [List.length_take, List.length_drop]; omega) (by omega))
            have HN3 := hide (fun W => num24_any (X.drop 10) 4 W (by rw [List.length_drop]; omega) (by omega))
            obtain ⟨n0, hn0⟩ : ∃ z, z = num (X.take 2) := ⟨_, rfl⟩
            obtain ⟨n1, hn1⟩ : ∃ z, z = num ((X.drop 2).take (6 - 2)) := ⟨_, rfl⟩
            obtain ⟨n2, hn2⟩ : ∃ z, z = num ((X.drop 6).take (10 - 6)) := ⟨_, rfl⟩
            obtain ⟨n3, hn3⟩ : ∃ z, z = num (X.drop 10) := ⟨_, rfl⟩
            have HRk := hide (HRG.out k hlt)
            have HY : Hid ((⟨n0, n1, n2, n3⟩ : Rec) = decR ((ownB b).drop (14 * k))) := by
              show _ = _
              rw [hn0, hn1, hn2, hn3, hX]
              unfold decR
              simp [List.drop_take, List.take_take]
            have hyi := decR_in ((ownB b).drop (14 * k))
            rw [← HY.out] at hyi
            obtain ⟨i0, i1, i2, i3⟩ := hyi
            simp only at i0 i1 i2 i3
            rw [← hn0] at HN0
            rw [← hn1] at HN1
            rw [← hn2] at HN2
            rw [← hn3] at HN3
            clear hn0 hn1 hn2 hn3 hX
            have hszX : (⟨X.toArray⟩ : ByteArray).size = 14 := by rw [size_mk, hXL]
            generalize (⟨(X.take 2).toArray⟩ : ByteArray) = X0 at *
            generalize (⟨((X.drop 2).take (6 - 2)).toArray⟩ : ByteArray) = X1 at *
            generalize (⟨((X.drop 6).take (10 - 6)).toArray⟩ : ByteArray) = X2 at *
            generalize (⟨(X.drop 10).toArray⟩ : ByteArray) = X3 at *
            generalize (⟨X.toArray⟩ : ByteArray) = XX at *
            have v0 : IntKind.u16.wrap (n0 : Int) = (n0 : Int) := by rw [IntKind.wrap_u16]; omega
            have v1 : IntKind.u32.wrap (n1 : Int) = (n1 : Int) := by rw [IntKind.wrap_u32]; omega
            have v2 : IntKind.u32.wrap (n2 : Int) = (n2 : Int) := by rw [IntKind.wrap_u32]; omega
            have v3 : IntKind.u32.wrap (n3 : Int) = (n3 : Int) := by rw [IntKind.wrap_u32]; omega
            go_wp2_with fail
            apply meet8 (A := fun V g8 => Frm (fun _ => False) wr V ∧ Blk V g8 40 #[.int .u16 (n0 : Int), .int .u32 (n1 : Int), .int .u32 (n2 : Int), .int .u32 (n3 : Int)] ∧ wr.heap.size ≤ g8)
            · intro key
              refine wp_region_held_drew (S := fun W => Frm (fun _ => False) wr W) (by kernel_rfl) ((Frm.refl _ _).drew) ?_
              intro hF
              refine wpAnyH_take (i := 0) (v := ?v1) rfl (by kernel_rfl) (by kernel_rfl) (by kernel_rfl) (fun _ _ _ h => h) (Or.inl ⟨by rfl, ?hy1⟩) (by assumption) ?rest1
              case hy1 => (intro w hSw; (try dsimp only at hSw); go_simp; try with_reducible rfl)
              try simp only [Act.put, List.getElem_toArray, List.getElem_cons_zero, List.setIfInBounds_toArray, List.set_cons_zero, List.set_cons_succ]
              refine wpAnyH_take (i := 1) (v := ?v2) rfl (by kernel_rfl) (by kernel_rfl) (by kernel_rfl) (fun _ _ _ h => h) (Or.inl ⟨by rfl, ?hy2⟩) (by assumption) ?rest2
              case hy2 => (intro w hSw; (try dsimp only at hSw); go_simp; try with_reducible rfl)
              try simp only [Act.put, List.getElem_toArray, List.getElem_cons_zero, List.getElem_cons_succ, List.setIfInBounds_toArray, List.set_cons_zero, List.set_cons_succ]
              refine wpAnyH_take (i := 4) (v := ?v3) rfl (by kernel_rfl) (by kernel_rfl) (by kernel_rfl) (fun _ _ _ h => h) (Or.inl ⟨by rfl, ?hy3⟩) (by assumption) ?rest3
              case hy3 => (intro w hSw; (try dsimp only at hSw); go_simp; try with_reducible rfl)
              try simp only [Act.put, List.getElem_toArray, List.getElem_cons_zero, List.getElem_cons_succ, List.setIfInBounds_toArray, List.set_cons_zero, List.set_cons_succ]
              refine wpAnyH_take (i := 5) (v := ?v4) rfl (by kernel_rfl) (by kernel_rfl) (by kernel_rfl) (fun _ _ _ h => h) (Or.inl ⟨by rfl, ?hy4⟩) (by assumption) ?rest4
              case hy4 => (intro w hSw; (try dsimp only at hSw); go_simp; try with_reducible rfl)
              try simp only [Act.put, List.getElem_toArray, List.getElem_cons_zero, List.getElem_cons_succ, List.setIfInBounds_toArray, List.set_cons_zero, List.set_cons_succ]
              refine wpAnyH_take (i := 8) (v := ?v5) rfl (by kernel_rfl) (by kernel_rfl) (by kernel_rfl) (fun _ _ _ h => h) (Or.inl ⟨by rfl, ?hy5⟩) (by assumption) ?rest5
              case hy5 => (intro w hSw; (try dsimp only at hSw); go_simp; try with_reducible rfl)
              try simp only [Act.put, List.getElem_toArray, List.getElem_cons_zero, List.getElem_cons_succ, List.setIfInBounds_toArray, List.set_cons_zero, List.set_cons_succ]
              refine wpAnyH_take (i := 9) (v := ?v6) rfl (by kernel_rfl) (by kernel_rfl) (by kernel_rfl) (fun _ _ _ h => h) (Or.inl ⟨by rfl, ?hy6⟩) (by assumption) ?rest6
              case hy6 => (intro w hSw; (try dsimp only at hSw); go_simp; try with_reducible rfl)
              try simp only [Act.put, List.getElem_toArray, List.getElem_cons_zero, List.getElem_cons_succ, List.setIfInBounds_toArray, List.set_cons_zero, List.set_cons_succ]
              refine wpAnyH_take (i := 12) (v := ?v7) rfl (by kernel_rfl) (by kernel_rfl) (by kernel_rfl) (fun _ _ _ h => h) (Or.inl ⟨by rfl, ?hy7⟩) (by assumption) ?rest7
              case hy7 => (intro w hSw; (try dsimp only at hSw); go_simp; try with_reducible rfl)
              try simp only [Act.put, List.getElem_toArray, List.getElem_cons_zero, List.getElem_cons_succ, List.setIfInBounds_toArray, List.set_cons_zero, List.set_cons_succ]
              refine wpAnyH_take (i := 13) (v := ?v8) rfl (by kernel_rfl) (by kernel_rfl) (by kernel_rfl) (fun _ _ _ h => h) (Or.inl ⟨by rfl, ?hy8⟩) (by assumption) ?rest8
              case hy8 => (intro w hSw; (try dsimp only at hSw); go_simp; try with_reducible rfl)
              try simp only [Act.put, List.getElem_toArray, List.getElem_cons_zero, List.getElem_cons_succ, List.setIfInBounds_toArray, List.set_cons_zero, List.set_cons_succ]
              refine wpAnyH_ready (rs := [2, 17]) (by kernel_rfl) (by simp) ?_
              refine AllReadyH.cons rfl (fun K hK => ?_) ?_
              · go_simp
                refine (HN0.out _).mono ?_
                rintro e_ Wn ⟨rfl, rfl⟩
                refine hK.out _ _ (hF) (fun hHeld => ?_)
                clear hK K
                refine wpAnyH_take (i := 3) (v := ?v9) rfl (by kernel_rfl) (by kernel_rfl) (by kernel_rfl) (fun _ _ _ h => h) (Or.inl ⟨by rfl, ?hy9⟩) (by assumption) ?rest9
                case hy9 => (intro w hSw; (try dsimp only at hSw); go_simp; try with_reducible rfl)
                try simp only [Act.put, List.getElem_toArray, List.getElem_cons_zero, List.getElem_cons_succ, List.setIfInBounds_toArray, List.set_cons_zero, List.set_cons_succ]
                refine wpAnyH_ready (rs := [6, 17]) (by kernel_rfl) (by simp) ?_
                refine AllReadyH.cons rfl (fun K hK => ?_) ?_
                · go_simp
                  refine (HN1.out _).mono ?_
                  rintro e_ Wn ⟨rfl, rfl⟩
                  refine hK.out _ _ (hF) (fun hHeld => ?_)
                  clear hK K
                  refine wpAnyH_take (i := 7) (v := ?v10) rfl (by kernel_rfl) (by kernel_rfl) (by kernel_rfl) (fun _ _ _ h => h) (Or.inl ⟨by rfl, ?hy10⟩) (by assumption) ?rest10
                  case hy10 => (intro w hSw; (try dsimp only at hSw); go_simp; try with_reducible rfl)
                  try simp only [Act.put, List.getElem_toArray, List.getElem_cons_zero, List.getElem_cons_succ, List.setIfInBounds_toArray, List.set_cons_zero, List.set_cons_succ]
                  refine wpAnyH_ready (rs := [10, 17]) (by kernel_rfl) (by simp) ?_
                  refine AllReadyH.cons rfl (fun K hK => ?_) ?_
                  · go_simp
                    refine (HN2.out _).mono ?_
                    rintro e_ Wn ⟨rfl, rfl⟩
                    refine hK.out _ _ (hF) (fun hHeld => ?_)
                    clear hK K
                    refine wpAnyH_take (i := 11) (v := ?v11) rfl (by kernel_rfl) (by kernel_rfl) (by kernel_rfl) (fun _ _ _ h => h) (Or.inl ⟨by rfl, ?hy11⟩) (by assumption) ?rest11
                    case hy11 => (intro w hSw; (try dsimp only at hSw); go_simp; try with_reducible rfl)
                    try simp only [Act.put, List.getElem_toArray, List.getElem_cons_zero, List.getElem_cons_succ, List.setIfInBounds_toArray, List.set_cons_zero, List.set_cons_succ]
                    refine wpAnyH_ready (rs := [14, 17]) (by kernel_rfl) (by simp) ?_
                    refine AllReadyH.cons rfl (fun K hK => ?_) ?_
                    · go_simp
                      refine (HN3.out _).mono ?_
                      rintro e_ Wn ⟨rfl, rfl⟩
                      refine hK.out _ _ (hF) (fun hHeld => ?_)
                      clear hK K
                      refine wpAnyH_take (i := 15) (v := ?v12) rfl (by kernel_rfl) (by kernel_rfl) (by kernel_rfl) (fun _ _ _ h => h) (Or.inl ⟨by rfl, ?hy12⟩) (by assumption) ?rest12
                      case hy12 => (intro w hSw; (try dsimp only at hSw); go_simp; try with_reducible rfl)
                      try simp only [Act.put, List.getElem_toArray, List.getElem_cons_zero, List.getElem_cons_succ, List.setIfInBounds_toArray, List.set_cons_zero, List.set_cons_succ]
                      refine wpAnyH_take (i := 16) (v := ?v13) rfl (by kernel_rfl) (by kernel_rfl) (by kernel_rfl) (fun _ _ _ h => h) (Or.inl ⟨by rfl, ?hy13⟩) (by assumption) ?rest13
                      case hy13 => (intro w hSw; (try dsimp only at hSw); go_simp; try with_reducible rfl)
                      try simp only [Act.put, List.getElem_toArray, List.getElem_cons_zero, List.getElem_cons_succ, List.setIfInBounds_toArray, List.set_cons_zero, List.set_cons_succ]
                      refine wpAnyH_ready (rs := [17]) (by kernel_rfl) (by simp) ?_
                      refine AllReadyH.cons rfl (fun K hK => ?_) AllReadyH.nil
                      refine step_alloca rfl 40 rfl (recC default) zeroQ ?_
                      intro g8 V1 hB8 hs8 hF8
                      have hF := frm_false_trans hF hF8
                      refine hK.out _ _ (hF) (fun hHeld => ?_)
                      clear hK K
                      refine wpAnyH_ready (rs := [18]) (by kernel_rfl) (by simp) ?_
                      refine AllReadyH.cons rfl (fun K hK => ?_) AllReadyH.nil
                      refine step_storea aggQ rfl (.tmp 8) (.tmp 54) rfl g8 [.int .u16 (n0 : Int), .int .u32 (n1 : Int), .int .u32 (n2 : Int), .int .u32 (n3 : Int)] rfl rfl _ _ hB8 rfl rfl four_r ?_
                      intro V2 hB9 hF9
                      have hF := (frm_join wr hF hF9 (fun i hi => by rw [hi]; exact hs8)).out
                      refine hK.out _ _ (hF) (fun hHeld => ?_)
                      clear hK K
                      refine wpAnyH_done (by kernel_rfl) ?_ _
                      exact key V2 g8 ⟨hF, hB9, hs8⟩
                    refine AllReadyH.cons rfl (fun K hK => ?_) AllReadyH.nil
                    refine step_alloca rfl 40 rfl (recC default) zeroQ ?_
                    intro g8 V1 hB8 hs8 hF8
                    have hF := frm_false_trans hF hF8
                    refine hK.out _ _ (hF) (fun hHeld => ?_)
                    clear hK K
                    refine wpAnyH_ready (rs := [14]) (by kernel_rfl) (by simp) ?_
                    refine AllReadyH.cons rfl (fun K hK => ?_) AllReadyH.nil
                    go_simp
                    refine (HN3.out _).mono ?_
                    rintro e_ Wn ⟨rfl, rfl⟩
                    refine hK.out _ _ (hF) (fun hHeld => ?_)
                    clear hK K
                    refine wpAnyH_take (i := 15) (v := ?v14) rfl (by kernel_rfl) (by kernel_rfl) (by kernel_rfl) (fun _ _ _ h => h) (Or.inl ⟨by rfl, ?hy14⟩) (by assumption) ?rest14
                    case hy14 => (intro w hSw; (try dsimp only at hSw); go_simp; try with_reducible rfl)
                    try simp only [Act.put, List.getElem_toArray, List.getElem_cons_zero, List.getElem_cons_succ, List.setIfInBounds_toArray, List.set_cons_zero, List.set_cons_succ]
                    refine wpAnyH_take (i := 16) (v := ?v15) rfl (by kernel_rfl) (by kernel_rfl) (by kernel_rfl) (fun _ _ _ h => h) (Or.inl ⟨by rfl, ?hy15⟩) (by assumption) ?rest15
                    case hy15 => (intro w hSw; (try dsimp only at hSw); go_simp; try with_reducible rfl)
                    try simp only [Act.put, List.getElem_toArray, List.getElem_cons_zero, List.getElem_cons_succ, List.setIfInBounds_toArray, List.set_cons_zero, List.set_cons_succ]
                    refine wpAnyH_ready (rs := [18]) (by kernel_rfl) (by simp) ?_
                    refine AllReadyH.cons rfl (fun K hK => ?_) AllReadyH.nil
                    refine step_storea aggQ rfl (.tmp 8) (.tmp 54) rfl g8 [.int .u16 (n0 : Int), .int .u32 (n1 : Int), .int .u32 (n2 : Int), .int .u32 (n3 : Int)] rfl rfl _ _ hB8 rfl rfl four_r ?_
                    intro V2 hB9 hF9
                    have hF := (frm_join wr hF hF9 (fun i hi => by rw [hi]; exact hs8)).out
                    refine hK.out _ _ (hF) (fun hHeld => ?_)
                    clear hK K
                    refine wpAnyH_done (by kernel_rfl) ?_ _
                    exact key V2 g8 ⟨hF, hB9, hs8⟩
                  refine AllReadyH.cons rfl (fun K hK => ?_) AllReadyH.nil
                  refine step_alloca rfl 40 rfl (recC default) zeroQ ?_
                  intro g8 V1 hB8 hs8 hF8
                  have hF := frm_false_trans hF hF8
                  refine hK.out _ _ (hF) (fun hHeld => ?_)
                  clear hK K
                  refine wpAnyH_ready (rs := [10]) (by kernel_rfl) (by simp) ?_
                  refine AllReadyH.cons rfl (fun K hK => ?_) AllReadyH.nil
                  go_simp
                  refine (HN2.out _).mono ?_
                  rintro e_ Wn ⟨rfl, rfl⟩
                  refine hK.out _ _ (hF) (fun hHeld => ?_)
                  clear hK K
                  refine wpAnyH_take (i := 11) (v := ?v16) rfl (by kernel_rfl) (by kernel_rfl) (by kernel_rfl) (fun _ _ _ h => h) (Or.inl ⟨by rfl, ?hy16⟩) (by assumption) ?rest16
                  case hy16 => (intro w hSw; (try dsimp only at hSw); go_simp; try with_reducible rfl)
                  try simp only [Act.put, List.getElem_toArray, List.getElem_cons_zero, List.getElem_cons_succ, List.setIfInBounds_toArray, List.set_cons_zero, List.set_cons_succ]
                  refine wpAnyH_ready (rs := [14]) (by kernel_rfl) (by simp) ?_
                  refine AllReadyH.cons rfl (fun K hK => ?_) AllReadyH.nil
                  go_simp
                  refine (HN3.out _).mono ?_
                  rintro e_ Wn ⟨rfl, rfl⟩
                  refine hK.out _ _ (hF) (fun hHeld => ?_)
                  clear hK K
                  refine wpAnyH_take (i := 15) (v := ?v17) rfl (by kernel_rfl) (by kernel_rfl) (by kernel_rfl) (fun _ _ _ h => h) (Or.inl ⟨by rfl, ?hy17⟩) (by assumption) ?rest17
                  case hy17 => (intro w hSw; (try dsimp only at hSw); go_simp; try with_reducible rfl)
                  try simp only [Act.put, List.getElem_toArray, List.getElem_cons_zero, List.getElem_cons_succ, List.setIfInBounds_toArray, List.set_cons_zero, List.set_cons_succ]
                  refine wpAnyH_take (i := 16) (v := ?v18) rfl (by kernel_rfl) (by kernel_rfl) (by kernel_rfl) (fun _ _ _ h => h) (Or.inl ⟨by rfl, ?hy18⟩) (by assumption) ?rest18
                  case hy18 => (intro w hSw; (try dsimp only at hSw); go_simp; try with_reducible rfl)
                  try simp only [Act.put, List.getElem_toArray, List.getElem_cons_zero, List.getElem_cons_succ, List.setIfInBounds_toArray, List.set_cons_zero, List.set_cons_succ]
                  refine wpAnyH_ready (rs := [18]) (by kernel_rfl) (by simp) ?_
                  refine AllReadyH.cons rfl (fun K hK => ?_) AllReadyH.nil
                  refine step_storea aggQ rfl (.tmp 8) (.tmp 54) rfl g8 [.int .u16 (n0 : Int), .int .u32 (n1 : Int), .int .u32 (n2 : Int), .int .u32 (n3 : Int)] rfl rfl _ _ hB8 rfl rfl four_r ?_
                  intro V2 hB9 hF9
                  have hF := (frm_join wr hF hF9 (fun i hi => by rw [hi]; exact hs8)).out
                  refine hK.out _ _ (hF) (fun hHeld => ?_)
                  clear hK K
                  refine wpAnyH_done (by kernel_rfl) ?_ _
                  exact key V2 g8 ⟨hF, hB9, hs8⟩
                refine AllReadyH.cons rfl (fun K hK => ?_) AllReadyH.nil
                refine step_alloca rfl 40 rfl (recC default) zeroQ ?_
                intro g8 V1 hB8 hs8 hF8
                have hF := frm_false_trans hF hF8
                refine hK.out _ _ (hF) (fun hHeld => ?_)
                clear hK K
                refine wpAnyH_ready (rs := [6]) (by kernel_rfl) (by simp) ?_
                refine AllReadyH.cons rfl (fun K hK => ?_) AllReadyH.nil
                go_simp
                refine (HN1.out _).mono ?_
                rintro e_ Wn ⟨rfl, rfl⟩
                refine hK.out _ _ (hF) (fun hHeld => ?_)
                clear hK K
                refine wpAnyH_take (i := 7) (v := ?v19) rfl (by kernel_rfl) (by kernel_rfl) (by kernel_rfl) (fun _ _ _ h => h) (Or.inl ⟨by rfl, ?hy19⟩) (by assumption) ?rest19
                case hy19 => (intro w hSw; (try dsimp only at hSw); go_simp; try with_reducible rfl)
                try simp only [Act.put, List.getElem_toArray, List.getElem_cons_zero, List.getElem_cons_succ, List.setIfInBounds_toArray, List.set_cons_zero, List.set_cons_succ]
                refine wpAnyH_ready (rs := [10]) (by kernel_rfl) (by simp) ?_
                refine AllReadyH.cons rfl (fun K hK => ?_) AllReadyH.nil
                go_simp
                refine (HN2.out _).mono ?_
                rintro e_ Wn ⟨rfl, rfl⟩
                refine hK.out _ _ (hF) (fun hHeld => ?_)
                clear hK K
                refine wpAnyH_take (i := 11) (v := ?v20) rfl (by kernel_rfl) (by kernel_rfl) (by kernel_rfl) (fun _ _ _ h => h) (Or.inl ⟨by rfl, ?hy20⟩) (by assumption) ?rest20
                case hy20 => (intro w hSw; (try dsimp only at hSw); go_simp; try with_reducible rfl)
                try simp only [Act.put, List.getElem_toArray, List.getElem_cons_zero, List.getElem_cons_succ, List.setIfInBounds_toArray, List.set_cons_zero, List.set_cons_succ]
                refine wpAnyH_ready (rs := [14]) (by kernel_rfl) (by simp) ?_
                refine AllReadyH.cons rfl (fun K hK => ?_) AllReadyH.nil
                go_simp
                refine (HN3.out _).mono ?_
                rintro e_ Wn ⟨rfl, rfl⟩
                refine hK.out _ _ (hF) (fun hHeld => ?_)
                clear hK K
                refine wpAnyH_take (i := 15) (v := ?v21) rfl (by kernel_rfl) (by kernel_rfl) (by kernel_rfl) (fun _ _ _ h => h) (Or.inl ⟨by rfl, ?hy21⟩) (by assumption) ?rest21
                case hy21 => (intro w hSw; (try dsimp only at hSw); go_simp; try with_reducible rfl)
                try simp only [Act.put, List.getElem_toArray, List.getElem_cons_zero, List.getElem_cons_succ, List.setIfInBounds_toArray, List.set_cons_zero, List.set_cons_succ]
                refine wpAnyH_take (i := 16) (v := ?v22) rfl (by kernel_rfl) (by kernel_rfl) (by kernel_rfl) (fun _ _ _ h => h) (Or.inl ⟨by rfl, ?hy22⟩) (by assumption) ?rest22
                case hy22 => (intro w hSw; (try dsimp only at hSw); go_simp; try with_reducible rfl)
                try simp only [Act.put, List.getElem_toArray, List.getElem_cons_zero, List.getElem_cons_succ, List.setIfInBounds_toArray, List.set_cons_zero, List.set_cons_succ]
                refine wpAnyH_ready (rs := [18]) (by kernel_rfl) (by simp) ?_
                refine AllReadyH.cons rfl (fun K hK => ?_) AllReadyH.nil
                refine step_storea aggQ rfl (.tmp 8) (.tmp 54) rfl g8 [.int .u16 (n0 : Int), .int .u32 (n1 : Int), .int .u32 (n2 : Int), .int .u32 (n3 : Int)] rfl rfl _ _ hB8 rfl rfl four_r ?_
                intro V2 hB9 hF9
                have hF := (frm_join wr hF hF9 (fun i hi => by rw [hi]; exact hs8)).out
                refine hK.out _ _ (hF) (fun hHeld => ?_)
                clear hK K
                refine wpAnyH_done (by kernel_rfl) ?_ _
                exact key V2 g8 ⟨hF, hB9, hs8⟩
              refine AllReadyH.cons rfl (fun K hK => ?_) AllReadyH.nil
              refine step_alloca rfl 40 rfl (recC default) zeroQ ?_
              intro g8 V1 hB8 hs8 hF8
              have hF := frm_false_trans hF hF8
              refine hK.out _ _ (hF) (fun hHeld => ?_)
              clear hK K
              refine wpAnyH_ready (rs := [2]) (by kernel_rfl) (by simp) ?_
              refine AllReadyH.cons rfl (fun K hK => ?_) AllReadyH.nil
              go_simp
              refine (HN0.out _).mono ?_
              rintro e_ Wn ⟨rfl, rfl⟩
              refine hK.out _ _ (hF) (fun hHeld => ?_)
              clear hK K
              refine wpAnyH_take (i := 3) (v := ?v23) rfl (by kernel_rfl) (by kernel_rfl) (by kernel_rfl) (fun _ _ _ h => h) (Or.inl ⟨by rfl, ?hy23⟩) (by assumption) ?rest23
              case hy23 => (intro w hSw; (try dsimp only at hSw); go_simp; try with_reducible rfl)
              try simp only [Act.put, List.getElem_toArray, List.getElem_cons_zero, List.getElem_cons_succ, List.setIfInBounds_toArray, List.set_cons_zero, List.set_cons_succ]
              refine wpAnyH_ready (rs := [6]) (by kernel_rfl) (by simp) ?_
              refine AllReadyH.cons rfl (fun K hK => ?_) AllReadyH.nil
              go_simp
              refine (HN1.out _).mono ?_
              rintro e_ Wn ⟨rfl, rfl⟩
              refine hK.out _ _ (hF) (fun hHeld => ?_)
              clear hK K
              refine wpAnyH_take (i := 7) (v := ?v24) rfl (by kernel_rfl) (by kernel_rfl) (by kernel_rfl) (fun _ _ _ h => h) (Or.inl ⟨by rfl, ?hy24⟩) (by assumption) ?rest24
              case hy24 => (intro w hSw; (try dsimp only at hSw); go_simp; try with_reducible rfl)
              try simp only [Act.put, List.getElem_toArray, List.getElem_cons_zero, List.getElem_cons_succ, List.setIfInBounds_toArray, List.set_cons_zero, List.set_cons_succ]
              refine wpAnyH_ready (rs := [10]) (by kernel_rfl) (by simp) ?_
              refine AllReadyH.cons rfl (fun K hK => ?_) AllReadyH.nil
              go_simp
              refine (HN2.out _).mono ?_
              rintro e_ Wn ⟨rfl, rfl⟩
              refine hK.out _ _ (hF) (fun hHeld => ?_)
              clear hK K
              refine wpAnyH_take (i := 11) (v := ?v25) rfl (by kernel_rfl) (by kernel_rfl) (by kernel_rfl) (fun _ _ _ h => h) (Or.inl ⟨by rfl, ?hy25⟩) (by assumption) ?rest25
              case hy25 => (intro w hSw; (try dsimp only at hSw); go_simp; try with_reducible rfl)
              try simp only [Act.put, List.getElem_toArray, List.getElem_cons_zero, List.getElem_cons_succ, List.setIfInBounds_toArray, List.set_cons_zero, List.set_cons_succ]
              refine wpAnyH_ready (rs := [14]) (by kernel_rfl) (by simp) ?_
              refine AllReadyH.cons rfl (fun K hK => ?_) AllReadyH.nil
              go_simp
              refine (HN3.out _).mono ?_
              rintro e_ Wn ⟨rfl, rfl⟩
              refine hK.out _ _ (hF) (fun hHeld => ?_)
              clear hK K
              refine wpAnyH_take (i := 15) (v := ?v26) rfl (by kernel_rfl) (by kernel_rfl) (by kernel_rfl) (fun _ _ _ h => h) (Or.inl ⟨by rfl, ?hy26⟩) (by assumption) ?rest26
              case hy26 => (intro w hSw; (try dsimp only at hSw); go_simp; try with_reducible rfl)
              try simp only [Act.put, List.getElem_toArray, List.getElem_cons_zero, List.getElem_cons_succ, List.setIfInBounds_toArray, List.set_cons_zero, List.set_cons_succ]
              refine wpAnyH_take (i := 16) (v := ?v27) rfl (by kernel_rfl) (by kernel_rfl) (by kernel_rfl) (fun _ _ _ h => h) (Or.inl ⟨by rfl, ?hy27⟩) (by assumption) ?rest27
              case hy27 => (intro w hSw; (try dsimp only at hSw); go_simp; try with_reducible rfl)
              try simp only [Act.put, List.getElem_toArray, List.getElem_cons_zero, List.getElem_cons_succ, List.setIfInBounds_toArray, List.set_cons_zero, List.set_cons_succ]
              refine wpAnyH_ready (rs := [18]) (by kernel_rfl) (by simp) ?_
              refine AllReadyH.cons rfl (fun K hK => ?_) AllReadyH.nil
              refine step_storea aggQ rfl (.tmp 8) (.tmp 54) rfl g8 [.int .u16 (n0 : Int), .int .u32 (n1 : Int), .int .u32 (n2 : Int), .int .u32 (n3 : Int)] rfl rfl _ _ hB8 rfl rfl four_r ?_
              intro V2 hB9 hF9
              have hF := (frm_join wr hF hF9 (fun i hi => by rw [hi]; exact hs8)).out
              refine hK.out _ _ (hF) (fun hHeld => ?_)
              clear hK K
              refine wpAnyH_done (by kernel_rfl) ?_ _
              exact key V2 g8 ⟨hF, hB9, hs8⟩
            · rintro V g8 ⟨hfv, hb8, hs8⟩
              have HV := hide hfv
              have HRV := hide (HRD.out.frm0 hfv)
              have HB8 := hide hb8
              have hg8 := hb8.lt
              clear hfv hb8
              have hwz : whyL (R.take k) ⟨n0, n1, n2, n3⟩ = whyL (R.take k) ⟨n0, n1, n2, n3⟩ := rfl
              clear hwz
              obtain ⟨ya, hya⟩ : ∃ y, y = n0 := ⟨_, rfl⟩
              obtain ⟨yf, hyf⟩ : ∃ y, y = n1 := ⟨_, rfl⟩
              obtain ⟨yt, hyt⟩ : ∃ y, y = n2 := ⟨_, rfl⟩
              obtain ⟨yl, hyl⟩ : ∃ y, y = n3 := ⟨_, rfl⟩
              rw [← hya, ← hyf, ← hyt, ← hyl] at HY HB8
              clear hya hyf hyt hyl
              have HYI : Hid (Rec.in32 ⟨ya, yf, yt, yl⟩) := by show _; rw [HY.out]; exact decR_in _
              have hyr : R.take (k + 1) = R.take k ++ [⟨ya, yf, yt, yl⟩] := by rw [take_succ_rec R k (by rw [HRL.out]; exact hlt), HRk.out, HY.out]
              have hstep := step_iff2 HRV.out.2.1 HYI.out
              rw [← hyr] at hstep
              have HTOD : Hid (∀ (h : ¬ DirOk (R.take (k + 1))), errB b = 3) := fun h => errB_form HB32.out HMAC.out (fun hh => h (by have := hh.2.take (k + 1); rwa [HRB.out] at this))
              have hadd1 : whyL (R.take k) ⟨ya, yf, yt, yl⟩ = 0 → DirOk (R.take (k + 1)) → addL (R.take k) ⟨ya, yf, yt, yl⟩ = R.take (k + 1) := fun h0 h1 => by
                rw [hyr] at h1 ⊢
                have h2 := (step_iff HRV.out.2.1 HYI.out).1 h1
                exact step_add HRV.out.2.1 h2.1 h0
              have HST := hide hstep
              have HAD1 := hide hadd1
              clear hstep hadd1 hyr
              obtain ⟨_, _, A, n', c, hbg, hqq⟩ := HRV.out
              obtain rfl : n' = k := by have := hqq.len; rw [List.length_take, HRL.out] at this; omega
              have HBG := hide hbg
              have HQQ := hide hqq
              clear hbg hqq
              have hgk : n' ≤ 100000 := by omega
              by_cases hk0 : n' = 0
              · subst hk0
                have HLESS : Hid True := trivial
                have HS : Hid (∀ W, Frm (fun _ => False) V W → W.cell? ⟨g, 0, none⟩ = some (.slice A 0 c) ∧ (W.cell? ⟨g8, 0, none⟩ = some (.int .u16 (ya : Int)) ∧ W.cell? ⟨g8, 1, none⟩ = some (.int .u32 (yf : Int)) ∧ W.cell? ⟨g8, 2, none⟩ = some (.int .u32 (yt : Int)) ∧ W.cell? ⟨g8, 3, none⟩ = some (.int .u32 (yl : Int)))) := fun W f => ⟨(HBG.out.frm f (fun h => h)).cell 0, keepQ (HB8.out.frm f (fun h => h))⟩
                by_cases hz : whyL (R.take 0) ⟨ya, yf, yt, yl⟩ = 0
                · have HNX : Hid (addL (R.take 0) ⟨ya, yf, yt, yl⟩ = R.take (0 + 1)) := HAD1.out hz (HST.out.2 ⟨.inl rfl, hz⟩)
                  have HADDS := hide (fun W (f : Frm (fun _ => False) V W) => radd_any g (R.take 0) ⟨ya, yf, yt, yl⟩ w0 W (HRV.out.frm0 f) HYI.out)
                  rw [hz] at HADDS
                  clear hz
                  go_wp2_with fail
                  refine wp_region_x (S := fun W => W.cell? ⟨g, 0, none⟩ = some (.slice A 0 c) ∧ (W.cell? ⟨g8, 0, none⟩ = some (.int .u16 (ya : Int)) ∧ W.cell? ⟨g8, 1, none⟩ = some (.int .u32 (yf : Int)) ∧ W.cell? ⟨g8, 2, none⟩ = some (.int .u32 (yt : Int)) ∧ W.cell? ⟨g8, 3, none⟩ = some (.int .u32 (yl : Int)))) [27, 26, 25] (by kernel_rfl) (HS.out _ ((Frm.refl _ _).drew)) ?_
                  intro hHeld
                  obtain ⟨W0, hW0⟩ : ∃ W', W' = V.drew := ⟨_, rfl⟩
                  have fX : Frm (fun _ => False) wr W0 := by rw [hW0]; exact HV.out.drew
                  have fV : Frm (fun _ => False) V W0 := by rw [hW0]; exact (Frm.refl _ _).drew
                  rw [← hW0] at hHeld ⊢
                  clear hW0
                  refine anyX_take [27, 26, 25, 24, 22, 21, 20, 7, 6, 5, 4, 3, 2, 1, 0] (i := 0) (v := ?v28) rfl (by kernel_rfl) (by kernel_rfl) (by kernel_rfl) (by kernel_rfl) (by kernel_rfl) (by kernel_rfl) (by kernel_rfl) (fun _ _ _ h => h) (Or.inl ⟨by rfl, ?hy28⟩) (by assumption) ?rest28
                  case hy28 => (intro w hSw; (try dsimp only at hSw); go_simp; try with_reducible rfl)
                  try simp only [Act.put, List.getElem_toArray, List.getElem_cons_zero, List.getElem_cons_succ, List.setIfInBounds_toArray, List.set_cons_zero, List.set_cons_succ]
                  refine anyX_take [27, 26, 25, 24, 22, 21, 20, 7, 6, 5, 4, 3, 2, 1] (i := 1) (v := ?v29) rfl (by kernel_rfl) (by kernel_rfl) (by kernel_rfl) (by kernel_rfl) (by kernel_rfl) (by kernel_rfl) (by kernel_rfl) (fun _ _ _ h => h) (Or.inl ⟨by rfl, ?hy29⟩) (by assumption) ?rest29
                  case hy29 => (intro w hSw; (try dsimp only at hSw); go_simp; try with_reducible rfl)
                  try simp only [Act.put, List.getElem_toArray, List.getElem_cons_zero, List.getElem_cons_succ, List.setIfInBounds_toArray, List.set_cons_zero, List.set_cons_succ]
                  refine anyX_take [27, 26, 25, 24, 22, 21, 20, 7, 6, 5, 4, 3, 2] (i := 2) (v := ?v30) rfl (by kernel_rfl) (by kernel_rfl) (by kernel_rfl) (by kernel_rfl) (by kernel_rfl) (by kernel_rfl) (by kernel_rfl) (fun _ _ _ h => h) (Or.inl ⟨by rfl, ?hy30⟩) (by assumption) ?rest30
                  case hy30 => (intro w hSw; (try dsimp only at hSw); go_simp; try with_reducible rfl)
                  try simp only [Act.put, List.getElem_toArray, List.getElem_cons_zero, List.getElem_cons_succ, List.setIfInBounds_toArray, List.set_cons_zero, List.set_cons_succ]
                  refine anyX_take [27, 26, 25, 24, 22, 21, 20, 7, 6, 5, 4, 3] (i := 3) (v := ?v31) rfl (by kernel_rfl) (by kernel_rfl) (by kernel_rfl) (by kernel_rfl) (by kernel_rfl) (by kernel_rfl) (by kernel_rfl) (fun _ _ _ h => h) (Or.inl ⟨by rfl, ?hy31⟩) (by assumption) ?rest31
                  case hy31 => (intro w hSw; (try dsimp only at hSw); go_simp; try with_reducible rfl)
                  try simp only [Act.put, List.getElem_toArray, List.getElem_cons_zero, List.getElem_cons_succ, List.setIfInBounds_toArray, List.set_cons_zero, List.set_cons_succ]
                  refine anyX_take [27, 26, 25, 24, 22, 21, 20, 7, 6, 5, 4] (i := 4) (v := ?v32) rfl (by kernel_rfl) (by kernel_rfl) (by kernel_rfl) (by kernel_rfl) (by kernel_rfl) (by kernel_rfl) (by kernel_rfl) (fun _ _ _ h => h) (Or.inl ⟨by rfl, ?hy32⟩) (by assumption) ?rest32
                  case hy32 => (intro w hSw; (try dsimp only at hSw); go_simp; try with_reducible rfl)
                  try simp only [Act.put, List.getElem_toArray, List.getElem_cons_zero, List.getElem_cons_succ, List.setIfInBounds_toArray, List.set_cons_zero, List.set_cons_succ]
                  refine anyX_take [27, 26, 25, 24, 22, 21, 20, 7, 6, 5] (i := 5) (v := ?v33) rfl (by kernel_rfl) (by kernel_rfl) (by kernel_rfl) (by kernel_rfl) (by kernel_rfl) (by kernel_rfl) (by kernel_rfl) (fun _ _ _ h => h) (Or.inl ⟨by rfl, ?hy33⟩) (by assumption) ?rest33
                  case hy33 => (intro w hSw; (try dsimp only at hSw); go_simp; try with_reducible rfl)
                  try simp only [Act.put, List.getElem_toArray, List.getElem_cons_zero, List.getElem_cons_succ, List.setIfInBounds_toArray, List.set_cons_zero, List.set_cons_succ]
                  refine anyX_take [27, 26, 25, 24, 22, 21, 20, 7, 6] (i := 6) (v := ?v34) rfl (by kernel_rfl) (by kernel_rfl) (by kernel_rfl) (by kernel_rfl) (by kernel_rfl) (by kernel_rfl) (by kernel_rfl) (fun _ _ _ h => h) (Or.inl ⟨by rfl, ?hy34⟩) (by assumption) ?rest34
                  case hy34 => (intro w hSw; (try dsimp only at hSw); go_simp; try with_reducible rfl)
                  try simp only [Act.put, List.getElem_toArray, List.getElem_cons_zero, List.getElem_cons_succ, List.setIfInBounds_toArray, List.set_cons_zero, List.set_cons_succ]
                  refine anyX_take [27, 26, 25, 24, 22, 21, 20, 7] (i := 7) (v := undef) rfl (by kernel_rfl) (by kernel_rfl) (by kernel_rfl) (by kernel_rfl) (by kernel_rfl) (by kernel_rfl) (by kernel_rfl) (fun _ _ _ h => h) (Or.inr ⟨by rfl, rfl⟩) (by assumption) ?rest35
                  try simp only [Act.put, List.getElem_toArray, List.getElem_cons_zero, List.getElem_cons_succ, List.setIfInBounds_toArray, List.set_cons_zero, List.set_cons_succ]
                  refine anyX_take [27, 26, 25, 24, 22, 21, 20, 19, 18, 11, 10, 9, 8] (i := 8) (v := undef) rfl (by kernel_rfl) (by kernel_rfl) (by kernel_rfl) (by kernel_rfl) (by kernel_rfl) (by kernel_rfl) (by kernel_rfl) (fun _ _ _ h => h) (Or.inr ⟨by rfl, rfl⟩) (by assumption) ?rest36
                  try simp only [Act.put, List.getElem_toArray, List.getElem_cons_zero, List.getElem_cons_succ, List.setIfInBounds_toArray, List.set_cons_zero, List.set_cons_succ]
                  refine anyX_take [27, 26, 25, 24, 22, 21, 20, 19, 18, 11, 10, 9] (i := 9) (v := undef) rfl (by kernel_rfl) (by kernel_rfl) (by kernel_rfl) (by kernel_rfl) (by kernel_rfl) (by kernel_rfl) (by kernel_rfl) (fun _ _ _ h => h) (Or.inr ⟨by rfl, rfl⟩) (by assumption) ?rest37
                  try simp only [Act.put, List.getElem_toArray, List.getElem_cons_zero, List.getElem_cons_succ, List.setIfInBounds_toArray, List.set_cons_zero, List.set_cons_succ]
                  refine anyX_take [27, 26, 25, 24, 22, 21, 20, 19, 18, 11, 10] (i := 10) (v := undef) rfl (by kernel_rfl) (by kernel_rfl) (by kernel_rfl) (by kernel_rfl) (by kernel_rfl) (by kernel_rfl) (by kernel_rfl) (fun _ _ _ h => h) (Or.inr ⟨by rfl, rfl⟩) (by assumption) ?rest38
                  try simp only [Act.put, List.getElem_toArray, List.getElem_cons_zero, List.getElem_cons_succ, List.setIfInBounds_toArray, List.set_cons_zero, List.set_cons_succ]
                  refine anyX_take [27, 26, 25, 24, 22, 21, 20, 19, 18, 11] (i := 11) (v := undef) rfl (by kernel_rfl) (by kernel_rfl) (by kernel_rfl) (by kernel_rfl) (by kernel_rfl) (by kernel_rfl) (by kernel_rfl) (fun _ _ _ h => h) (Or.inr ⟨by rfl, rfl⟩) (by assumption) ?rest39
                  try simp only [Act.put, List.getElem_toArray, List.getElem_cons_zero, List.getElem_cons_succ, List.setIfInBounds_toArray, List.set_cons_zero, List.set_cons_succ]
                  refine anyX_take [27, 26, 25, 24, 22, 21, 20, 19, 18, 17, 16, 15, 14, 13, 12] (i := 12) (v := undef) rfl (by kernel_rfl) (by kernel_rfl) (by kernel_rfl) (by kernel_rfl) (by kernel_rfl) (by kernel_rfl) (by kernel_rfl) (fun _ _ _ h => h) (Or.inr ⟨by rfl, rfl⟩) (by assumption) ?rest40
                  try simp only [Act.put, List.getElem_toArray, List.getElem_cons_zero, List.getElem_cons_succ, List.setIfInBounds_toArray, List.set_cons_zero, List.set_cons_succ]
                  refine anyX_take [27, 26, 25, 24, 22, 21, 20, 19, 18, 17, 16, 15, 14, 13] (i := 13) (v := undef) rfl (by kernel_rfl) (by kernel_rfl) (by kernel_rfl) (by kernel_rfl) (by kernel_rfl) (by kernel_rfl) (by kernel_rfl) (fun _ _ _ h => h) (Or.inr ⟨by rfl, rfl⟩) (by assumption) ?rest41
                  try simp only [Act.put, List.getElem_toArray, List.getElem_cons_zero, List.getElem_cons_succ, List.setIfInBounds_toArray, List.set_cons_zero, List.set_cons_succ]
                  refine anyX_take [27, 26, 25, 24, 22, 21, 20, 19, 18, 17, 16, 15, 14] (i := 14) (v := undef) rfl (by kernel_rfl) (by kernel_rfl) (by kernel_rfl) (by kernel_rfl) (by kernel_rfl) (by kernel_rfl) (by kernel_rfl) (fun _ _ _ h => h) (Or.inr ⟨by rfl, rfl⟩) (by assumption) ?rest42
                  try simp only [Act.put, List.getElem_toArray, List.getElem_cons_zero, List.getElem_cons_succ, List.setIfInBounds_toArray, List.set_cons_zero, List.set_cons_succ]
                  refine anyX_take [27, 26, 25, 24, 22, 21, 20, 19, 18, 17, 16, 15] (i := 15) (v := undef) rfl (by kernel_rfl) (by kernel_rfl) (by kernel_rfl) (by kernel_rfl) (by kernel_rfl) (by kernel_rfl) (by kernel_rfl) (fun _ _ _ h => h) (Or.inr ⟨by rfl, rfl⟩) (by assumption) ?rest43
                  try simp only [Act.put, List.getElem_toArray, List.getElem_cons_zero, List.getElem_cons_succ, List.setIfInBounds_toArray, List.set_cons_zero, List.set_cons_succ]
                  refine anyX_take [27, 26, 25, 24, 22, 21, 20, 19, 18, 17, 16] (i := 16) (v := undef) rfl (by kernel_rfl) (by kernel_rfl) (by kernel_rfl) (by kernel_rfl) (by kernel_rfl) (by kernel_rfl) (by kernel_rfl) (fun _ _ _ h => h) (Or.inr ⟨by rfl, rfl⟩) (by assumption) ?rest44
                  try simp only [Act.put, List.getElem_toArray, List.getElem_cons_zero, List.getElem_cons_succ, List.setIfInBounds_toArray, List.set_cons_zero, List.set_cons_succ]
                  refine anyX_take [27, 26, 25, 24, 22, 21, 20, 19, 18, 17] (i := 17) (v := undef) rfl (by kernel_rfl) (by kernel_rfl) (by kernel_rfl) (by kernel_rfl) (by kernel_rfl) (by kernel_rfl) (by kernel_rfl) (fun _ _ _ h => h) (Or.inr ⟨by rfl, rfl⟩) (by assumption) ?rest45
                  try simp only [Act.put, List.getElem_toArray, List.getElem_cons_zero, List.getElem_cons_succ, List.setIfInBounds_toArray, List.set_cons_zero, List.set_cons_succ]
                  refine anyX_take [27, 26, 25, 24, 22, 21, 20, 19, 18] (i := 18) (v := undef) rfl (by kernel_rfl) (by kernel_rfl) (by kernel_rfl) (by kernel_rfl) (by kernel_rfl) (by kernel_rfl) (by kernel_rfl) (fun _ _ _ h => h) (Or.inr ⟨by rfl, rfl⟩) (by assumption) ?rest46
                  try simp only [Act.put, List.getElem_toArray, List.getElem_cons_zero, List.getElem_cons_succ, List.setIfInBounds_toArray, List.set_cons_zero, List.set_cons_succ]
                  refine anyX_take [27, 26, 25, 24, 22, 21, 20, 19] (i := 19) (v := undef) rfl (by kernel_rfl) (by kernel_rfl) (by kernel_rfl) (by kernel_rfl) (by kernel_rfl) (by kernel_rfl) (by kernel_rfl) (fun _ _ _ h => h) (Or.inr ⟨by rfl, rfl⟩) (by assumption) ?rest47
                  try simp only [Act.put, List.getElem_toArray, List.getElem_cons_zero, List.getElem_cons_succ, List.setIfInBounds_toArray, List.set_cons_zero, List.set_cons_succ]
                  refine anyX_take [27, 26, 25, 24, 22, 21, 20] (i := 20) (v := undef) rfl (by kernel_rfl) (by kernel_rfl) (by kernel_rfl) (by kernel_rfl) (by kernel_rfl) (by kernel_rfl) (by kernel_rfl) (fun _ _ _ h => h) (Or.inr ⟨by rfl, rfl⟩) (by assumption) ?rest48
                  try simp only [Act.put, List.getElem_toArray, List.getElem_cons_zero, List.getElem_cons_succ, List.setIfInBounds_toArray, List.set_cons_zero, List.set_cons_succ]
                  refine anyX_take [27, 26, 25, 24, 22, 21] (i := 21) (v := ?v49) rfl (by kernel_rfl) (by kernel_rfl) (by kernel_rfl) (by kernel_rfl) (by kernel_rfl) (by kernel_rfl) (by kernel_rfl) (fun _ _ _ h => h) (Or.inl ⟨by rfl, ?hy49⟩) (by assumption) ?rest49
                  case hy49 => (intro w hSw; (try dsimp only at hSw); go_simp; try with_reducible rfl)
                  try simp only [Act.put, List.getElem_toArray, List.getElem_cons_zero, List.getElem_cons_succ, List.setIfInBounds_toArray, List.set_cons_zero, List.set_cons_succ]
                  refine anyX_take [27, 26, 25, 24, 22] (i := 22) (v := ?v50) rfl (by kernel_rfl) (by kernel_rfl) (by kernel_rfl) (by kernel_rfl) (by kernel_rfl) (by kernel_rfl) (by kernel_rfl) (fun _ _ _ h => h) (Or.inl ⟨by rfl, ?hy50⟩) (by assumption) ?rest50
                  case hy50 => (intro w hSw; (try dsimp only at hSw); go_simp; try with_reducible rfl)
                  try simp only [Act.put, List.getElem_toArray, List.getElem_cons_zero, List.getElem_cons_succ, List.setIfInBounds_toArray, List.set_cons_zero, List.set_cons_succ]
                  refine anyX_take [27, 26, 25, 23] (i := 23) (v := ?v51) rfl (by kernel_rfl) (by kernel_rfl) (by kernel_rfl) (by kernel_rfl) (by kernel_rfl) (by kernel_rfl) (by kernel_rfl) (fun _ _ _ h => h) (Or.inl ⟨by rfl, ?hy51⟩) (by assumption) ?rest51
                  case hy51 => (intro w hSw; (try dsimp only at hSw); go_simp; try with_reducible rfl)
                  try simp only [Act.put, List.getElem_toArray, List.getElem_cons_zero, List.getElem_cons_succ, List.setIfInBounds_toArray, List.set_cons_zero, List.set_cons_succ]
                  refine anyX_take [27, 26, 25, 24] (i := 24) (v := ?v52) rfl (by kernel_rfl) (by kernel_rfl) (by kernel_rfl) (by kernel_rfl) (by kernel_rfl) (by kernel_rfl) (by kernel_rfl) (fun _ _ _ h => h) (Or.inl ⟨by rfl, ?hy52⟩) (by assumption) ?rest52
                  case hy52 => (intro w hSw; (try dsimp only at hSw); go_simp; try with_reducible rfl)
                  try simp only [Act.put, List.getElem_toArray, List.getElem_cons_zero, List.getElem_cons_succ, List.setIfInBounds_toArray, List.set_cons_zero, List.set_cons_succ]
                  refine anyX_ready (rs := [25]) (by kernel_rfl) (by simp) ?_
                  refine AllX.last rfl rfl (fun K hK => ?_)
                  have HADD := hide (HADDS.out _ fV)
                  go_simp
                  refine HADD.out.mono ?_
                  rintro e_ W5 ⟨rfl, hr5, f5⟩
                  refine hK.out _ _ ?_
                  clear hK K
                  refine anyX_ready (rs := [26]) (by kernel_rfl) (by simp) ?_
                  refine AllX.last rfl rfl (fun K hK => ?_)
                  go_simp
                  refine hK.out _ _ ?_
                  clear hK K
                  refine anyX_ready (rs := [27]) (by kernel_rfl) (by simp) ?_
                  refine AllX.last rfl rfl (fun K hK => ?_)
                  go_simp
                  refine hK.out _ _ ?_
                  clear hK K
                  refine anyX_done (by kernel_rfl) ?_ _
                  have HR5 := hide hr5
                  have HF5 := hide ((frm_join w (frm_false_trans HF.out fX) f5 (fun i hi => by rw [hi]; exact hgw)).out)
                  clear hHeld hr5 f5 fX HADD HS HLESS
                  go_wp2_with fail
                  go_roundw
                  case rel => exact ⟨0 + 1, by omega, by go_num, HNX.out ▸ HR5.out, HF5.out⟩
                  case measure => have := HK.out; simp [intOf]; omega
                · have HE := hide (HTOD.out (fun h => hz (HST.out.1 h).2))
                  obtain ⟨zz, hzz⟩ : ∃ z, z = whyL (R.take 0) ⟨ya, yf, yt, yl⟩ := ⟨_, rfl⟩
                  have HADDS := hide (fun W (f : Frm (fun _ => False) V W) => radd_any g (R.take 0) ⟨ya, yf, yt, yl⟩ w0 W (HRV.out.frm0 f) HYI.out)
                  rw [← hzz] at hz HADDS
                  have hz' : ¬ (zz : Int) = 0 := by omega
                  clear hzz
                  go_wp2_with fail
                  refine wp_region_x (S := fun W => W.cell? ⟨g, 0, none⟩ = some (.slice A 0 c) ∧ (W.cell? ⟨g8, 0, none⟩ = some (.int .u16 (ya : Int)) ∧ W.cell? ⟨g8, 1, none⟩ = some (.int .u32 (yf : Int)) ∧ W.cell? ⟨g8, 2, none⟩ = some (.int .u32 (yt : Int)) ∧ W.cell? ⟨g8, 3, none⟩ = some (.int .u32 (yl : Int)))) [27, 26, 25] (by kernel_rfl) (HS.out _ ((Frm.refl _ _).drew)) ?_
                  intro hHeld
                  obtain ⟨W0, hW0⟩ : ∃ W', W' = V.drew := ⟨_, rfl⟩
                  have fX : Frm (fun _ => False) wr W0 := by rw [hW0]; exact HV.out.drew
                  have fV : Frm (fun _ => False) V W0 := by rw [hW0]; exact (Frm.refl _ _).drew
                  rw [← hW0] at hHeld ⊢
                  clear hW0
                  refine anyX_take [27, 26, 25, 24, 22, 21, 20, 7, 6, 5, 4, 3, 2, 1, 0] (i := 0) (v := ?v53) rfl (by kernel_rfl) (by kernel_rfl) (by kernel_rfl) (by kernel_rfl) (by kernel_rfl) (by kernel_rfl) (by kernel_rfl) (fun _ _ _ h => h) (Or.inl ⟨by rfl, ?hy53⟩) (by assumption) ?rest53
                  case hy53 => (intro w hSw; (try dsimp only at hSw); go_simp; try with_reducible rfl)
                  try simp only [Act.put, List.getElem_toArray, List.getElem_cons_zero, List.getElem_cons_succ, List.setIfInBounds_toArray, List.set_cons_zero, List.set_cons_succ]
                  refine anyX_take [27, 26, 25, 24, 22, 21, 20, 7, 6, 5, 4, 3, 2, 1] (i := 1) (v := ?v54) rfl (by kernel_rfl) (by kernel_rfl) (by kernel_rfl) (by kernel_rfl) (by kernel_rfl) (by kernel_rfl) (by kernel_rfl) (fun _ _ _ h => h) (Or.inl ⟨by rfl, ?hy54⟩) (by assumption) ?rest54
                  case hy54 => (intro w hSw; (try dsimp only at hSw); go_simp; try with_reducible rfl)
                  try simp only [Act.put, List.getElem_toArray, List.getElem_cons_zero, List.getElem_cons_succ, List.setIfInBounds_toArray, List.set_cons_zero, List.set_cons_succ]
                  refine anyX_take [27, 26, 25, 24, 22, 21, 20, 7, 6, 5, 4, 3, 2] (i := 2) (v := ?v55) rfl (by kernel_rfl) (by kernel_rfl) (by kernel_rfl) (by kernel_rfl) (by kernel_rfl) (by kernel_rfl) (by kernel_rfl) (fun _ _ _ h => h) (Or.inl ⟨by rfl, ?hy55⟩) (by assumption) ?rest55
                  case hy55 => (intro w hSw; (try dsimp only at hSw); go_simp; try with_reducible rfl)
                  try simp only [Act.put, List.getElem_toArray, List.getElem_cons_zero, List.getElem_cons_succ, List.setIfInBounds_toArray, List.set_cons_zero, List.set_cons_succ]
                  refine anyX_take [27, 26, 25, 24, 22, 21, 20, 7, 6, 5, 4, 3] (i := 3) (v := ?v56) rfl (by kernel_rfl) (by kernel_rfl) (by kernel_rfl) (by kernel_rfl) (by kernel_rfl) (by kernel_rfl) (by kernel_rfl) (fun _ _ _ h => h) (Or.inl ⟨by rfl, ?hy56⟩) (by assumption) ?rest56
                  case hy56 => (intro w hSw; (try dsimp only at hSw); go_simp; try with_reducible rfl)
                  try simp only [Act.put, List.getElem_toArray, List.getElem_cons_zero, List.getElem_cons_succ, List.setIfInBounds_toArray, List.set_cons_zero, List.set_cons_succ]
                  refine anyX_take [27, 26, 25, 24, 22, 21, 20, 7, 6, 5, 4] (i := 4) (v := ?v57) rfl (by kernel_rfl) (by kernel_rfl) (by kernel_rfl) (by kernel_rfl) (by kernel_rfl) (by kernel_rfl) (by kernel_rfl) (fun _ _ _ h => h) (Or.inl ⟨by rfl, ?hy57⟩) (by assumption) ?rest57
                  case hy57 => (intro w hSw; (try dsimp only at hSw); go_simp; try with_reducible rfl)
                  try simp only [Act.put, List.getElem_toArray, List.getElem_cons_zero, List.getElem_cons_succ, List.setIfInBounds_toArray, List.set_cons_zero, List.set_cons_succ]
                  refine anyX_take [27, 26, 25, 24, 22, 21, 20, 7, 6, 5] (i := 5) (v := ?v58) rfl (by kernel_rfl) (by kernel_rfl) (by kernel_rfl) (by kernel_rfl) (by kernel_rfl) (by kernel_rfl) (by kernel_rfl) (fun _ _ _ h => h) (Or.inl ⟨by rfl, ?hy58⟩) (by assumption) ?rest58
                  case hy58 => (intro w hSw; (try dsimp only at hSw); go_simp; try with_reducible rfl)
                  try simp only [Act.put, List.getElem_toArray, List.getElem_cons_zero, List.getElem_cons_succ, List.setIfInBounds_toArray, List.set_cons_zero, List.set_cons_succ]
                  refine anyX_take [27, 26, 25, 24, 22, 21, 20, 7, 6] (i := 6) (v := ?v59) rfl (by kernel_rfl) (by kernel_rfl) (by kernel_rfl) (by kernel_rfl) (by kernel_rfl) (by kernel_rfl) (by kernel_rfl) (fun _ _ _ h => h) (Or.inl ⟨by rfl, ?hy59⟩) (by assumption) ?rest59
                  case hy59 => (intro w hSw; (try dsimp only at hSw); go_simp; try with_reducible rfl)
                  try simp only [Act.put, List.getElem_toArray, List.getElem_cons_zero, List.getElem_cons_succ, List.setIfInBounds_toArray, List.set_cons_zero, List.set_cons_succ]
                  refine anyX_take [27, 26, 25, 24, 22, 21, 20, 7] (i := 7) (v := undef) rfl (by kernel_rfl) (by kernel_rfl) (by kernel_rfl) (by kernel_rfl) (by kernel_rfl) (by kernel_rfl) (by kernel_rfl) (fun _ _ _ h => h) (Or.inr ⟨by rfl, rfl⟩) (by assumption) ?rest60
                  try simp only [Act.put, List.getElem_toArray, List.getElem_cons_zero, List.getElem_cons_succ, List.setIfInBounds_toArray, List.set_cons_zero, List.set_cons_succ]
                  refine anyX_take [27, 26, 25, 24, 22, 21, 20, 19, 18, 11, 10, 9, 8] (i := 8) (v := undef) rfl (by kernel_rfl) (by kernel_rfl) (by kernel_rfl) (by kernel_rfl) (by kernel_rfl) (by kernel_rfl) (by kernel_rfl) (fun _ _ _ h => h) (Or.inr ⟨by rfl, rfl⟩) (by assumption) ?rest61
                  try simp only [Act.put, List.getElem_toArray, List.getElem_cons_zero, List.getElem_cons_succ, List.setIfInBounds_toArray, List.set_cons_zero, List.set_cons_succ]
                  refine anyX_take [27, 26, 25, 24, 22, 21, 20, 19, 18, 11, 10, 9] (i := 9) (v := undef) rfl (by kernel_rfl) (by kernel_rfl) (by kernel_rfl) (by kernel_rfl) (by kernel_rfl) (by kernel_rfl) (by kernel_rfl) (fun _ _ _ h => h) (Or.inr ⟨by rfl, rfl⟩) (by assumption) ?rest62
                  try simp only [Act.put, List.getElem_toArray, List.getElem_cons_zero, List.getElem_cons_succ, List.setIfInBounds_toArray, List.set_cons_zero, List.set_cons_succ]
                  refine anyX_take [27, 26, 25, 24, 22, 21, 20, 19, 18, 11, 10] (i := 10) (v := undef) rfl (by kernel_rfl) (by kernel_rfl) (by kernel_rfl) (by kernel_rfl) (by kernel_rfl) (by kernel_rfl) (by kernel_rfl) (fun _ _ _ h => h) (Or.inr ⟨by rfl, rfl⟩) (by assumption) ?rest63
                  try simp only [Act.put, List.getElem_toArray, List.getElem_cons_zero, List.getElem_cons_succ, List.setIfInBounds_toArray, List.set_cons_zero, List.set_cons_succ]
                  refine anyX_take [27, 26, 25, 24, 22, 21, 20, 19, 18, 11] (i := 11) (v := undef) rfl (by kernel_rfl) (by kernel_rfl) (by kernel_rfl) (by kernel_rfl) (by kernel_rfl) (by kernel_rfl) (by kernel_rfl) (fun _ _ _ h => h) (Or.inr ⟨by rfl, rfl⟩) (by assumption) ?rest64
                  try simp only [Act.put, List.getElem_toArray, List.getElem_cons_zero, List.getElem_cons_succ, List.setIfInBounds_toArray, List.set_cons_zero, List.set_cons_succ]
                  refine anyX_take [27, 26, 25, 24, 22, 21, 20, 19, 18, 17, 16, 15, 14, 13, 12] (i := 12) (v := undef) rfl (by kernel_rfl) (by kernel_rfl) (by kernel_rfl) (by kernel_rfl) (by kernel_rfl) (by kernel_rfl) (by kernel_rfl) (fun _ _ _ h => h) (Or.inr ⟨by rfl, rfl⟩) (by assumption) ?rest65
                  try simp only [Act.put, List.getElem_toArray, List.getElem_cons_zero, List.getElem_cons_succ, List.setIfInBounds_toArray, List.set_cons_zero, List.set_cons_succ]
                  refine anyX_take [27, 26, 25, 24, 22, 21, 20, 19, 18, 17, 16, 15, 14, 13] (i := 13) (v := undef) rfl (by kernel_rfl) (by kernel_rfl) (by kernel_rfl) (by kernel_rfl) (by kernel_rfl) (by kernel_rfl) (by kernel_rfl) (fun _ _ _ h => h) (Or.inr ⟨by rfl, rfl⟩) (by assumption) ?rest66
                  try simp only [Act.put, List.getElem_toArray, List.getElem_cons_zero, List.getElem_cons_succ, List.setIfInBounds_toArray, List.set_cons_zero, List.set_cons_succ]
                  refine anyX_take [27, 26, 25, 24, 22, 21, 20, 19, 18, 17, 16, 15, 14] (i := 14) (v := undef) rfl (by kernel_rfl) (by kernel_rfl) (by kernel_rfl) (by kernel_rfl) (by kernel_rfl) (by kernel_rfl) (by kernel_rfl) (fun _ _ _ h => h) (Or.inr ⟨by rfl, rfl⟩) (by assumption) ?rest67
                  try simp only [Act.put, List.getElem_toArray, List.getElem_cons_zero, List.getElem_cons_succ, List.setIfInBounds_toArray, List.set_cons_zero, List.set_cons_succ]
                  refine anyX_take [27, 26, 25, 24, 22, 21, 20, 19, 18, 17, 16, 15] (i := 15) (v := undef) rfl (by kernel_rfl) (by kernel_rfl) (by kernel_rfl) (by kernel_rfl) (by kernel_rfl) (by kernel_rfl) (by kernel_rfl) (fun _ _ _ h => h) (Or.inr ⟨by rfl, rfl⟩) (by assumption) ?rest68
                  try simp only [Act.put, List.getElem_toArray, List.getElem_cons_zero, List.getElem_cons_succ, List.setIfInBounds_toArray, List.set_cons_zero, List.set_cons_succ]
                  refine anyX_take [27, 26, 25, 24, 22, 21, 20, 19, 18, 17, 16] (i := 16) (v := undef) rfl (by kernel_rfl) (by kernel_rfl) (by kernel_rfl) (by kernel_rfl) (by kernel_rfl) (by kernel_rfl) (by kernel_rfl) (fun _ _ _ h => h) (Or.inr ⟨by rfl, rfl⟩) (by assumption) ?rest69
                  try simp only [Act.put, List.getElem_toArray, List.getElem_cons_zero, List.getElem_cons_succ, List.setIfInBounds_toArray, List.set_cons_zero, List.set_cons_succ]
                  refine anyX_take [27, 26, 25, 24, 22, 21, 20, 19, 18, 17] (i := 17) (v := undef) rfl (by kernel_rfl) (by kernel_rfl) (by kernel_rfl) (by kernel_rfl) (by kernel_rfl) (by kernel_rfl) (by kernel_rfl) (fun _ _ _ h => h) (Or.inr ⟨by rfl, rfl⟩) (by assumption) ?rest70
                  try simp only [Act.put, List.getElem_toArray, List.getElem_cons_zero, List.getElem_cons_succ, List.setIfInBounds_toArray, List.set_cons_zero, List.set_cons_succ]
                  refine anyX_take [27, 26, 25, 24, 22, 21, 20, 19, 18] (i := 18) (v := undef) rfl (by kernel_rfl) (by kernel_rfl) (by kernel_rfl) (by kernel_rfl) (by kernel_rfl) (by kernel_rfl) (by kernel_rfl) (fun _ _ _ h => h) (Or.inr ⟨by rfl, rfl⟩) (by assumption) ?rest71
                  try simp only [Act.put, List.getElem_toArray, List.getElem_cons_zero, List.getElem_cons_succ, List.setIfInBounds_toArray, List.set_cons_zero, List.set_cons_succ]
                  refine anyX_take [27, 26, 25, 24, 22, 21, 20, 19] (i := 19) (v := undef) rfl (by kernel_rfl) (by kernel_rfl) (by kernel_rfl) (by kernel_rfl) (by kernel_rfl) (by kernel_rfl) (by kernel_rfl) (fun _ _ _ h => h) (Or.inr ⟨by rfl, rfl⟩) (by assumption) ?rest72
                  try simp only [Act.put, List.getElem_toArray, List.getElem_cons_zero, List.getElem_cons_succ, List.setIfInBounds_toArray, List.set_cons_zero, List.set_cons_succ]
                  refine anyX_take [27, 26, 25, 24, 22, 21, 20] (i := 20) (v := undef) rfl (by kernel_rfl) (by kernel_rfl) (by kernel_rfl) (by kernel_rfl) (by kernel_rfl) (by kernel_rfl) (by kernel_rfl) (fun _ _ _ h => h) (Or.inr ⟨by rfl, rfl⟩) (by assumption) ?rest73
                  try simp only [Act.put, List.getElem_toArray, List.getElem_cons_zero, List.getElem_cons_succ, List.setIfInBounds_toArray, List.set_cons_zero, List.set_cons_succ]
                  refine anyX_take [27, 26, 25, 24, 22, 21] (i := 21) (v := ?v74) rfl (by kernel_rfl) (by kernel_rfl) (by kernel_rfl) (by kernel_rfl) (by kernel_rfl) (by kernel_rfl) (by kernel_rfl) (fun _ _ _ h => h) (Or.inl ⟨by rfl, ?hy74⟩) (by assumption) ?rest74
                  case hy74 => (intro w hSw; (try dsimp only at hSw); go_simp; try with_reducible rfl)
                  try simp only [Act.put, List.getElem_toArray, List.getElem_cons_zero, List.getElem_cons_succ, List.setIfInBounds_toArray, List.set_cons_zero, List.set_cons_succ]
                  refine anyX_take [27, 26, 25, 24, 22] (i := 22) (v := ?v75) rfl (by kernel_rfl) (by kernel_rfl) (by kernel_rfl) (by kernel_rfl) (by kernel_rfl) (by kernel_rfl) (by kernel_rfl) (fun _ _ _ h => h) (Or.inl ⟨by rfl, ?hy75⟩) (by assumption) ?rest75
                  case hy75 => (intro w hSw; (try dsimp only at hSw); go_simp; try with_reducible rfl)
                  try simp only [Act.put, List.getElem_toArray, List.getElem_cons_zero, List.getElem_cons_succ, List.setIfInBounds_toArray, List.set_cons_zero, List.set_cons_succ]
                  refine anyX_take [27, 26, 25, 23] (i := 23) (v := ?v76) rfl (by kernel_rfl) (by kernel_rfl) (by kernel_rfl) (by kernel_rfl) (by kernel_rfl) (by kernel_rfl) (by kernel_rfl) (fun _ _ _ h => h) (Or.inl ⟨by rfl, ?hy76⟩) (by assumption) ?rest76
                  case hy76 => (intro w hSw; (try dsimp only at hSw); go_simp; try with_reducible rfl)
                  try simp only [Act.put, List.getElem_toArray, List.getElem_cons_zero, List.getElem_cons_succ, List.setIfInBounds_toArray, List.set_cons_zero, List.set_cons_succ]
                  refine anyX_take [27, 26, 25, 24] (i := 24) (v := ?v77) rfl (by kernel_rfl) (by kernel_rfl) (by kernel_rfl) (by kernel_rfl) (by kernel_rfl) (by kernel_rfl) (by kernel_rfl) (fun _ _ _ h => h) (Or.inl ⟨by rfl, ?hy77⟩) (by assumption) ?rest77
                  case hy77 => (intro w hSw; (try dsimp only at hSw); go_simp; try with_reducible rfl)
                  try simp only [Act.put, List.getElem_toArray, List.getElem_cons_zero, List.getElem_cons_succ, List.setIfInBounds_toArray, List.set_cons_zero, List.set_cons_succ]
                  refine anyX_ready (rs := [25]) (by kernel_rfl) (by simp) ?_
                  refine AllX.last rfl rfl (fun K hK => ?_)
                  have HADD := hide (HADDS.out _ fV)
                  go_simp
                  refine HADD.out.mono ?_
                  rintro e_ W5 ⟨rfl, hr5, f5⟩
                  refine hK.out _ _ ?_
                  clear hK K
                  refine anyX_ready (rs := [26]) (by kernel_rfl) (by simp) ?_
                  refine AllX.last rfl rfl (fun K hK => ?_)
                  go_simp
                  refine hK.out _ _ ?_
                  clear hK K
                  refine anyX_ready (rs := [27]) (by kernel_rfl) (by simp) ?_
                  refine AllX.last rfl rfl (fun K hK => ?_)
                  go_simp
                  refine hK.out _ _ ?_
                  clear hK K
                  refine anyX_done (by kernel_rfl) ?_ _
                  have HF5 := hide ((frm_join w (frm_false_trans HF.out fX) f5 (fun i hi => by rw [hi]; exact hgw)).out)
                  clear hHeld hr5 f5 fX HADD HS HLESS
                  go_wp2_with fail
                  go_ret2
                  exact ⟨none, by rw [HE.out]; rfl, HF5.out, fun h => absurd h (by rw [HE.out]; decide), fun _ => rfl⟩
              · have hkp : 0 < n' := by omega
                have hkp' : (0 : Int) < (n' : Int) := by omega
                obtain ⟨j, hj⟩ : ∃ j, n' = j + 1 := ⟨n' - 1, by omega⟩
                have hji : IntKind.i64.wrap ((n' : Int) - 1) = (j : Int) := by rw [IntKind.wrap_i64]; omega
                have hji2 : (n' : Int) - 1 = (j : Int) := by omega
                have hwj : IntKind.i64.wrap (j : Int) = (j : Int) := by rw [IntKind.wrap_i64]; omega
                have hjn : j < n' := by omega
                have hjn' : (j : Int) < (n' : Int) := by omega
                have hj0 : 0 ≤ (j : Int) := by omega
                obtain ⟨gr, rfl, _, hgr, hcr⟩ := HQQ.out.cells hkp
                obtain ⟨z, hzd⟩ : ∃ z, z = (R.take n').getD j default := ⟨_, rfl⟩
                have hcr2 := fun q hq => hcr j q hjn hq
                rw [← hzd] at hcr2
                have hlast : (R.take n').getLastD default = z := by
                  rw [hj, getLast_take R j (by rw [HRL.out]; omega), hzd, List.getD_eq_getElem?_getD, List.getD_eq_getElem?_getD, List.getElem?_take, if_pos hjn]
                have hne0 : ¬ R.take n' = [] := fun h => by have := congrArg List.length h; rw [List.length_take, HRL.out] at this; simp at this; omega
                rw [hlast] at HST
                clear hlast hcr hzd
                obtain ⟨za, zf, zt, zl⟩ := z
                have hcz : ∀ W, Frm (fun _ => False) V W → (W.cell? ⟨gr, j * 4, none⟩ = some (.int .u16 (za : Int)) ∧ W.cell? ⟨gr, j * 4 + 1, none⟩ = some (.int .u32 (zf : Int)) ∧ W.cell? ⟨gr, j * 4 + 2, none⟩ = some (.int .u32 (zt : Int)) ∧ W.cell? ⟨gr, j * 4 + 3, none⟩ = some (.int .u32 (zl : Int))) := fun W f =>
                  ⟨cell_frm f (hcr2 0 (by decide)) (fun h => h), cell_frm f (hcr2 1 (by decide)) (fun h => h), cell_frm f (hcr2 2 (by decide)) (fun h => h), cell_frm f (hcr2 3 (by decide)) (fun h => h)⟩
                have HS : Hid (∀ W, Frm (fun _ => False) V W → W.cell? ⟨g, 0, none⟩ = some (.slice (some ⟨gr, 0, none⟩) n' c) ∧ (W.cell? ⟨g8, 0, none⟩ = some (.int .u16 (ya : Int)) ∧ W.cell? ⟨g8, 1, none⟩ = some (.int .u32 (yf : Int)) ∧ W.cell? ⟨g8, 2, none⟩ = some (.int .u32 (yt : Int)) ∧ W.cell? ⟨g8, 3, none⟩ = some (.int .u32 (yl : Int))) ∧ (W.cell? ⟨gr, j * 4, none⟩ = some (.int .u16 (za : Int)) ∧ W.cell? ⟨gr, j * 4 + 1, none⟩ = some (.int .u32 (zf : Int)) ∧ W.cell? ⟨gr, j * 4 + 2, none⟩ = some (.int .u32 (zt : Int)) ∧ W.cell? ⟨gr, j * 4 + 3, none⟩ = some (.int .u32 (zl : Int)))) := fun W f => ⟨(HBG.out.frm f (fun h => h)).cell 0, keepQ (HB8.out.frm f (fun h => h)), hcz W f⟩
                clear hcr2 hcz hj
                have hless := fun W => less_any ⟨ya, yf, yt, yl⟩ ⟨za, zf, zt, zl⟩ W
                simp only [recV, recC] at hless
                have HLESS := hide hless
                clear hless
                by_cases hl : Rec.lt ⟨ya, yf, yt, yl⟩ ⟨za, zf, zt, zl⟩
                · rw [decide_eq_true hl] at HLESS
                  have HE := hide (HTOD.out (fun h => by rcases (HST.out.1 h).1 with h1 | h1; exact hne0 h1; exact h1 hl))
                  clear hl hne0
                  go_wp2_with fail
                  refine wp_region_x (S := fun W => W.cell? ⟨g, 0, none⟩ = some (.slice (some ⟨gr, 0, none⟩) n' c) ∧ (W.cell? ⟨g8, 0, none⟩ = some (.int .u16 (ya : Int)) ∧ W.cell? ⟨g8, 1, none⟩ = some (.int .u32 (yf : Int)) ∧ W.cell? ⟨g8, 2, none⟩ = some (.int .u32 (yt : Int)) ∧ W.cell? ⟨g8, 3, none⟩ = some (.int .u32 (yl : Int))) ∧ (W.cell? ⟨gr, j * 4, none⟩ = some (.int .u16 (za : Int)) ∧ W.cell? ⟨gr, j * 4 + 1, none⟩ = some (.int .u32 (zf : Int)) ∧ W.cell? ⟨gr, j * 4 + 2, none⟩ = some (.int .u32 (zt : Int)) ∧ W.cell? ⟨gr, j * 4 + 3, none⟩ = some (.int .u32 (zl : Int)))) [] (by kernel_rfl) (HS.out _ ((Frm.refl _ _).drew)) ?_
                  intro hHeld
                  obtain ⟨W0, hW0⟩ : ∃ W', W' = V.drew := ⟨_, rfl⟩
                  have fX : Frm (fun _ => False) wr W0 := by rw [hW0]; exact HV.out.drew
                  have fV : Frm (fun _ => False) V W0 := by rw [hW0]; exact (Frm.refl _ _).drew
                  rw [← hW0] at hHeld ⊢
                  clear hW0
                  refine anyX_take [0] (i := 0) (v := ?v78) rfl (by kernel_rfl) (by kernel_rfl) (by kernel_rfl) (by kernel_rfl) (by kernel_rfl) (by kernel_rfl) (by kernel_rfl) (fun _ _ _ h => h) (Or.inl ⟨by rfl, ?hy78⟩) (by assumption) ?rest78
                  case hy78 => (intro w hSw; (try dsimp only at hSw); go_simp; try with_reducible rfl)
                  try simp only [Act.put, List.getElem_toArray, List.getElem_cons_zero, List.getElem_cons_succ, List.setIfInBounds_toArray, List.set_cons_zero, List.set_cons_succ]
                  refine anyX_take [1] (i := 1) (v := ?v79) rfl (by kernel_rfl) (by kernel_rfl) (by kernel_rfl) (by kernel_rfl) (by kernel_rfl) (by kernel_rfl) (by kernel_rfl) (fun _ _ _ h => h) (Or.inl ⟨by rfl, ?hy79⟩) (by assumption) ?rest79
                  case hy79 => (intro w hSw; (try dsimp only at hSw); go_simp; try with_reducible rfl)
                  try simp only [Act.put, List.getElem_toArray, List.getElem_cons_zero, List.getElem_cons_succ, List.setIfInBounds_toArray, List.set_cons_zero, List.set_cons_succ]
                  refine anyX_take [2] (i := 2) (v := ?v80) rfl (by kernel_rfl) (by kernel_rfl) (by kernel_rfl) (by kernel_rfl) (by kernel_rfl) (by kernel_rfl) (by kernel_rfl) (fun _ _ _ h => h) (Or.inl ⟨by rfl, ?hy80⟩) (by assumption) ?rest80
                  case hy80 => (intro w hSw; (try dsimp only at hSw); go_simp; try with_reducible rfl)
                  try simp only [Act.put, List.getElem_toArray, List.getElem_cons_zero, List.getElem_cons_succ, List.setIfInBounds_toArray, List.set_cons_zero, List.set_cons_succ]
                  refine anyX_take [3] (i := 3) (v := ?v81) rfl (by kernel_rfl) (by kernel_rfl) (by kernel_rfl) (by kernel_rfl) (by kernel_rfl) (by kernel_rfl) (by kernel_rfl) (fun _ _ _ h => h) (Or.inl ⟨by rfl, ?hy81⟩) (by assumption) ?rest81
                  case hy81 => (intro w hSw; (try dsimp only at hSw); go_simp; try with_reducible rfl)
                  try simp only [Act.put, List.getElem_toArray, List.getElem_cons_zero, List.getElem_cons_succ, List.setIfInBounds_toArray, List.set_cons_zero, List.set_cons_succ]
                  refine anyX_take [4] (i := 4) (v := ?v82) rfl (by kernel_rfl) (by kernel_rfl) (by kernel_rfl) (by kernel_rfl) (by kernel_rfl) (by kernel_rfl) (by kernel_rfl) (fun _ _ _ h => h) (Or.inl ⟨by rfl, ?hy82⟩) (by assumption) ?rest82
                  case hy82 => (intro w hSw; (try dsimp only at hSw); go_simp; try with_reducible rfl)
                  try simp only [Act.put, List.getElem_toArray, List.getElem_cons_zero, List.getElem_cons_succ, List.setIfInBounds_toArray, List.set_cons_zero, List.set_cons_succ]
                  refine anyX_take [5] (i := 5) (v := ?v83) rfl (by kernel_rfl) (by kernel_rfl) (by kernel_rfl) (by kernel_rfl) (by kernel_rfl) (by kernel_rfl) (by kernel_rfl) (fun _ _ _ h => h) (Or.inl ⟨by rfl, ?hy83⟩) (by assumption) ?rest83
                  case hy83 => (intro w hSw; (try dsimp only at hSw); go_simp; try with_reducible rfl)
                  try simp only [Act.put, List.getElem_toArray, List.getElem_cons_zero, List.getElem_cons_succ, List.setIfInBounds_toArray, List.set_cons_zero, List.set_cons_succ]
                  refine anyX_take [6] (i := 6) (v := ?v84) rfl (by kernel_rfl) (by kernel_rfl) (by kernel_rfl) (by kernel_rfl) (by kernel_rfl) (by kernel_rfl) (by kernel_rfl) (fun _ _ _ h => h) (Or.inl ⟨by rfl, ?hy84⟩) (by assumption) ?rest84
                  case hy84 => (intro w hSw; (try dsimp only at hSw); go_simp; try with_reducible rfl)
                  try simp only [Act.put, List.getElem_toArray, List.getElem_cons_zero, List.getElem_cons_succ, List.setIfInBounds_toArray, List.set_cons_zero, List.set_cons_succ]
                  refine anyX_take [7] (i := 7) (v := ?v85) rfl (by kernel_rfl) (by kernel_rfl) (by kernel_rfl) (by kernel_rfl) (by kernel_rfl) (by kernel_rfl) (by kernel_rfl) (fun _ _ _ h => h) (Or.inl ⟨by rfl, ?hy85⟩) (by assumption) ?rest85
                  case hy85 => (intro w hSw; (try dsimp only at hSw); go_simp; try with_reducible rfl)
                  try simp only [Act.put, List.getElem_toArray, List.getElem_cons_zero, List.getElem_cons_succ, List.setIfInBounds_toArray, List.set_cons_zero, List.set_cons_succ]
                  refine anyX_take [8] (i := 8) (v := ?v86) rfl (by kernel_rfl) (by kernel_rfl) (by kernel_rfl) (by kernel_rfl) (by kernel_rfl) (by kernel_rfl) (by kernel_rfl) (fun _ _ _ h => h) (Or.inl ⟨by rfl, ?hy86⟩) (by assumption) ?rest86
                  case hy86 => (intro w hSw; (try dsimp only at hSw); go_simp; try with_reducible rfl)
                  try simp only [Act.put, List.getElem_toArray, List.getElem_cons_zero, List.getElem_cons_succ, List.setIfInBounds_toArray, List.set_cons_zero, List.set_cons_succ]
                  refine anyX_take [9] (i := 9) (v := ?v87) rfl (by kernel_rfl) (by kernel_rfl) (by kernel_rfl) (by kernel_rfl) (by kernel_rfl) (by kernel_rfl) (by kernel_rfl) (fun _ _ _ h => h) (Or.inl ⟨by rfl, ?hy87⟩) (by assumption) ?rest87
                  case hy87 => (intro w hSw; (try dsimp only at hSw); go_simp; try with_reducible rfl)
                  try simp only [Act.put, List.getElem_toArray, List.getElem_cons_zero, List.getElem_cons_succ, List.setIfInBounds_toArray, List.set_cons_zero, List.set_cons_succ]
                  refine anyX_take [10] (i := 10) (v := ?v88) rfl (by kernel_rfl) (by kernel_rfl) (by kernel_rfl) (by kernel_rfl) (by kernel_rfl) (by kernel_rfl) (by kernel_rfl) (fun _ _ _ h => h) (Or.inl ⟨by rfl, ?hy88⟩) (by assumption) ?rest88
                  case hy88 => (intro w hSw; (try dsimp only at hSw); go_simp; try with_reducible rfl)
                  try simp only [Act.put, List.getElem_toArray, List.getElem_cons_zero, List.getElem_cons_succ, List.setIfInBounds_toArray, List.set_cons_zero, List.set_cons_succ]
                  refine anyX_take [11] (i := 11) (v := ?v89) rfl (by kernel_rfl) (by kernel_rfl) (by kernel_rfl) (by kernel_rfl) (by kernel_rfl) (by kernel_rfl) (by kernel_rfl) (fun _ _ _ h => h) (Or.inl ⟨by rfl, ?hy89⟩) (by assumption) ?rest89
                  case hy89 => (intro w hSw; (try dsimp only at hSw); go_simp; try with_reducible rfl)
                  try simp only [Act.put, List.getElem_toArray, List.getElem_cons_zero, List.getElem_cons_succ, List.setIfInBounds_toArray, List.set_cons_zero, List.set_cons_succ]
                  refine anyX_take [12] (i := 12) (v := ?v90) rfl (by kernel_rfl) (by kernel_rfl) (by kernel_rfl) (by kernel_rfl) (by kernel_rfl) (by kernel_rfl) (by kernel_rfl) (fun _ _ _ h => h) (Or.inl ⟨by rfl, ?hy90⟩) (by assumption) ?rest90
                  case hy90 => (intro w hSw; (try dsimp only at hSw); go_simp; try with_reducible rfl)
                  try simp only [Act.put, List.getElem_toArray, List.getElem_cons_zero, List.getElem_cons_succ, List.setIfInBounds_toArray, List.set_cons_zero, List.set_cons_succ]
                  refine anyX_take [13] (i := 13) (v := ?v91) rfl (by kernel_rfl) (by kernel_rfl) (by kernel_rfl) (by kernel_rfl) (by kernel_rfl) (by kernel_rfl) (by kernel_rfl) (fun _ _ _ h => h) (Or.inl ⟨by rfl, ?hy91⟩) (by assumption) ?rest91
                  case hy91 => (intro w hSw; (try dsimp only at hSw); go_simp; try with_reducible rfl)
                  try simp only [Act.put, List.getElem_toArray, List.getElem_cons_zero, List.getElem_cons_succ, List.setIfInBounds_toArray, List.set_cons_zero, List.set_cons_succ]
                  refine anyX_take [14] (i := 14) (v := ?v92) rfl (by kernel_rfl) (by kernel_rfl) (by kernel_rfl) (by kernel_rfl) (by kernel_rfl) (by kernel_rfl) (by kernel_rfl) (fun _ _ _ h => h) (Or.inl ⟨by rfl, ?hy92⟩) (by assumption) ?rest92
                  case hy92 => (intro w hSw; (try dsimp only at hSw); go_simp; try with_reducible rfl)
                  try simp only [Act.put, List.getElem_toArray, List.getElem_cons_zero, List.getElem_cons_succ, List.setIfInBounds_toArray, List.set_cons_zero, List.set_cons_succ]
                  refine anyX_take [15] (i := 15) (v := ?v93) rfl (by kernel_rfl) (by kernel_rfl) (by kernel_rfl) (by kernel_rfl) (by kernel_rfl) (by kernel_rfl) (by kernel_rfl) (fun _ _ _ h => h) (Or.inl ⟨by rfl, ?hy93⟩) (by assumption) ?rest93
                  case hy93 => (intro w hSw; (try dsimp only at hSw); go_simp; try with_reducible rfl)
                  try simp only [Act.put, List.getElem_toArray, List.getElem_cons_zero, List.getElem_cons_succ, List.setIfInBounds_toArray, List.set_cons_zero, List.set_cons_succ]
                  refine anyX_take [16] (i := 16) (v := ?v94) rfl (by kernel_rfl) (by kernel_rfl) (by kernel_rfl) (by kernel_rfl) (by kernel_rfl) (by kernel_rfl) (by kernel_rfl) (fun _ _ _ h => h) (Or.inl ⟨by rfl, ?hy94⟩) (by assumption) ?rest94
                  case hy94 => (intro w hSw; (try dsimp only at hSw); go_simp; try with_reducible rfl)
                  try simp only [Act.put, List.getElem_toArray, List.getElem_cons_zero, List.getElem_cons_succ, List.setIfInBounds_toArray, List.set_cons_zero, List.set_cons_succ]
                  refine anyX_take [17] (i := 17) (v := ?v95) rfl (by kernel_rfl) (by kernel_rfl) (by kernel_rfl) (by kernel_rfl) (by kernel_rfl) (by kernel_rfl) (by kernel_rfl) (fun _ _ _ h => h) (Or.inl ⟨by rfl, ?hy95⟩) (by assumption) ?rest95
                  case hy95 => (intro w hSw; (try dsimp only at hSw); go_simp; try with_reducible rfl)
                  try simp only [Act.put, List.getElem_toArray, List.getElem_cons_zero, List.getElem_cons_succ, List.setIfInBounds_toArray, List.set_cons_zero, List.set_cons_succ]
                  refine anyX_take [18] (i := 18) (v := ?v96) rfl (by kernel_rfl) (by kernel_rfl) (by kernel_rfl) (by kernel_rfl) (by kernel_rfl) (by kernel_rfl) (by kernel_rfl) (fun _ _ _ h => h) (Or.inl ⟨by rfl, ?hy96⟩) (by assumption) ?rest96
                  case hy96 => (intro w hSw; (try dsimp only at hSw); go_simp; try with_reducible rfl)
                  try simp only [Act.put, List.getElem_toArray, List.getElem_cons_zero, List.getElem_cons_succ, List.setIfInBounds_toArray, List.set_cons_zero, List.set_cons_succ]
                  refine anyX_take [19] (i := 19) (v := ?v97) rfl (by kernel_rfl) (by kernel_rfl) (by kernel_rfl) (by kernel_rfl) (by kernel_rfl) (by kernel_rfl) (by kernel_rfl) (fun _ _ _ h => h) (Or.inl ⟨by rfl, ?hy97⟩) (by assumption) ?rest97
                  case hy97 => (intro w hSw; (try dsimp only at hSw); go_simp; try with_reducible rfl)
                  try simp only [Act.put, List.getElem_toArray, List.getElem_cons_zero, List.getElem_cons_succ, List.setIfInBounds_toArray, List.set_cons_zero, List.set_cons_succ]
                  refine anyX_ready (rs := [20]) (by kernel_rfl) (by simp) ?_
                  refine AllX.cons rfl rfl (fun K hK => ?_) AllX.nil
                  go_simp
                  refine (HLESS.out _).mono ?_
                  rintro e_ Wl ⟨rfl, fl⟩
                  have fX := frm_false_trans fX fl
                  have fV := frm_false_trans fV fl
                  clear fl
                  refine hK.out _ _ (HS.out _ fV) (fun hHeld => ?_)
                  clear hK K
                  refine anyX_take [21] (i := 21) (v := ?v98) rfl (by kernel_rfl) (by kernel_rfl) (by kernel_rfl) (by kernel_rfl) (by kernel_rfl) (by kernel_rfl) (by kernel_rfl) (fun _ _ _ h => h) (Or.inl ⟨by rfl, ?hy98⟩) (by assumption) ?rest98
                  case hy98 => (intro w hSw; (try dsimp only at hSw); go_simp; try with_reducible rfl)
                  try simp only [Act.put, List.getElem_toArray, List.getElem_cons_zero, List.getElem_cons_succ, List.setIfInBounds_toArray, List.set_cons_zero, List.set_cons_succ]
                  refine anyX_take [22] (i := 22) (v := ?v99) rfl (by kernel_rfl) (by kernel_rfl) (by kernel_rfl) (by kernel_rfl) (by kernel_rfl) (by kernel_rfl) (by kernel_rfl) (fun _ _ _ h => h) (Or.inl ⟨by rfl, ?hy99⟩) (by assumption) ?rest99
                  case hy99 => (intro w hSw; (try dsimp only at hSw); go_simp; try with_reducible rfl)
                  try simp only [Act.put, List.getElem_toArray, List.getElem_cons_zero, List.getElem_cons_succ, List.setIfInBounds_toArray, List.set_cons_zero, List.set_cons_succ]
                  refine anyX_take [23] (i := 23) (v := undef) rfl (by kernel_rfl) (by kernel_rfl) (by kernel_rfl) (by kernel_rfl) (by kernel_rfl) (by kernel_rfl) (by kernel_rfl) (fun _ _ _ h => h) (Or.inr ⟨by rfl, rfl⟩) (by assumption) ?rest100
                  try simp only [Act.put, List.getElem_toArray, List.getElem_cons_zero, List.getElem_cons_succ, List.setIfInBounds_toArray, List.set_cons_zero, List.set_cons_succ]
                  refine anyX_take [24] (i := 24) (v := undef) rfl (by kernel_rfl) (by kernel_rfl) (by kernel_rfl) (by kernel_rfl) (by kernel_rfl) (by kernel_rfl) (by kernel_rfl) (fun _ _ _ h => h) (Or.inr ⟨by rfl, rfl⟩) (by assumption) ?rest101
                  try simp only [Act.put, List.getElem_toArray, List.getElem_cons_zero, List.getElem_cons_succ, List.setIfInBounds_toArray, List.set_cons_zero, List.set_cons_succ]
                  refine anyX_take [25] (i := 25) (v := undef) rfl (by kernel_rfl) (by kernel_rfl) (by kernel_rfl) (by kernel_rfl) (by kernel_rfl) (by kernel_rfl) (by kernel_rfl) (fun _ _ _ h => h) (Or.inr ⟨by rfl, rfl⟩) (by assumption) ?rest102
                  try simp only [Act.put, List.getElem_toArray, List.getElem_cons_zero, List.getElem_cons_succ, List.setIfInBounds_toArray, List.set_cons_zero, List.set_cons_succ]
                  refine anyX_take [26] (i := 26) (v := undef) rfl (by kernel_rfl) (by kernel_rfl) (by kernel_rfl) (by kernel_rfl) (by kernel_rfl) (by kernel_rfl) (by kernel_rfl) (fun _ _ _ h => h) (Or.inr ⟨by rfl, rfl⟩) (by assumption) ?rest103
                  try simp only [Act.put, List.getElem_toArray, List.getElem_cons_zero, List.getElem_cons_succ, List.setIfInBounds_toArray, List.set_cons_zero, List.set_cons_succ]
                  refine anyX_take [27] (i := 27) (v := ?v104) rfl (by kernel_rfl) (by kernel_rfl) (by kernel_rfl) (by kernel_rfl) (by kernel_rfl) (by kernel_rfl) (by kernel_rfl) (fun _ _ _ h => h) (Or.inl ⟨by rfl, ?hy104⟩) (by assumption) ?rest104
                  case hy104 => (intro w hSw; (try dsimp only at hSw); go_simp; try with_reducible rfl)
                  try simp only [Act.put, List.getElem_toArray, List.getElem_cons_zero, List.getElem_cons_succ, List.setIfInBounds_toArray, List.set_cons_zero, List.set_cons_succ]
                  refine anyX_done (by kernel_rfl) ?_ _
                  have HF5 := hide (frm_false_trans HF.out fX)
                  clear hHeld fX HS HLESS
                  go_wp2_with fail
                  go_ret2
                  exact ⟨none, by rw [HE.out]; rfl, HF5.out, fun h => absurd h (by rw [HE.out]; decide), fun _ => rfl⟩
                · rw [decide_eq_false hl] at HLESS
                  by_cases hz : whyL (R.take n') ⟨ya, yf, yt, yl⟩ = 0
                  · have HNX : Hid (addL (R.take n') ⟨ya, yf, yt, yl⟩ = R.take (n' + 1)) := HAD1.out hz (HST.out.2 ⟨.inr hl, hz⟩)
                    have HADDS := hide (fun W (f : Frm (fun _ => False) V W) => radd_any g (R.take n') ⟨ya, yf, yt, yl⟩ w0 W (HRV.out.frm0 f) HYI.out)
                    rw [hz] at HADDS
                    clear hz hl hne0
                    go_wp2_with fail
                    refine wp_region_x (S := fun W => W.cell? ⟨g, 0, none⟩ = some (.slice (some ⟨gr, 0, none⟩) n' c) ∧ (W.cell? ⟨g8, 0, none⟩ = some (.int .u16 (ya : Int)) ∧ W.cell? ⟨g8, 1, none⟩ = some (.int .u32 (yf : Int)) ∧ W.cell? ⟨g8, 2, none⟩ = some (.int .u32 (yt : Int)) ∧ W.cell? ⟨g8, 3, none⟩ = some (.int .u32 (yl : Int))) ∧ (W.cell? ⟨gr, j * 4, none⟩ = some (.int .u16 (za : Int)) ∧ W.cell? ⟨gr, j * 4 + 1, none⟩ = some (.int .u32 (zf : Int)) ∧ W.cell? ⟨gr, j * 4 + 2, none⟩ = some (.int .u32 (zt : Int)) ∧ W.cell? ⟨gr, j * 4 + 3, none⟩ = some (.int .u32 (zl : Int)))) [27, 26, 25] (by kernel_rfl) (HS.out _ ((Frm.refl _ _).drew)) ?_
                    intro hHeld
                    obtain ⟨W0, hW0⟩ : ∃ W', W' = V.drew := ⟨_, rfl⟩
                    have fX : Frm (fun _ => False) wr W0 := by rw [hW0]; exact HV.out.drew
                    have fV : Frm (fun _ => False) V W0 := by rw [hW0]; exact (Frm.refl _ _).drew
                    rw [← hW0] at hHeld ⊢
                    clear hW0
                    refine anyX_take [27, 26, 25, 24, 22, 21, 20, 7, 6, 5, 4, 3, 2, 1, 0] (i := 0) (v := ?v105) rfl (by kernel_rfl) (by kernel_rfl) (by kernel_rfl) (by kernel_rfl) (by kernel_rfl) (by kernel_rfl) (by kernel_rfl) (fun _ _ _ h => h) (Or.inl ⟨by rfl, ?hy105⟩) (by assumption) ?rest105
                    case hy105 => (intro w hSw; (try dsimp only at hSw); go_simp; try with_reducible rfl)
                    try simp only [Act.put, List.getElem_toArray, List.getElem_cons_zero, List.getElem_cons_succ, List.setIfInBounds_toArray, List.set_cons_zero, List.set_cons_succ]
                    refine anyX_take [27, 26, 25, 24, 22, 21, 20, 7, 6, 5, 4, 3, 2, 1] (i := 1) (v := ?v106) rfl (by kernel_rfl) (by kernel_rfl) (by kernel_rfl) (by kernel_rfl) (by kernel_rfl) (by kernel_rfl) (by kernel_rfl) (fun _ _ _ h => h) (Or.inl ⟨by rfl, ?hy106⟩) (by assumption) ?rest106
                    case hy106 => (intro w hSw; (try dsimp only at hSw); go_simp; try with_reducible rfl)
                    try simp only [Act.put, List.getElem_toArray, List.getElem_cons_zero, List.getElem_cons_succ, List.setIfInBounds_toArray, List.set_cons_zero, List.set_cons_succ]
                    refine anyX_take [27, 26, 25, 24, 22, 21, 20, 7, 6, 5, 4, 3, 2] (i := 2) (v := ?v107) rfl (by kernel_rfl) (by kernel_rfl) (by kernel_rfl) (by kernel_rfl) (by kernel_rfl) (by kernel_rfl) (by kernel_rfl) (fun _ _ _ h => h) (Or.inl ⟨by rfl, ?hy107⟩) (by assumption) ?rest107
                    case hy107 => (intro w hSw; (try dsimp only at hSw); go_simp; try with_reducible rfl)
                    try simp only [Act.put, List.getElem_toArray, List.getElem_cons_zero, List.getElem_cons_succ, List.setIfInBounds_toArray, List.set_cons_zero, List.set_cons_succ]
                    refine anyX_take [27, 26, 25, 24, 22, 21, 20, 7, 6, 5, 4, 3] (i := 3) (v := ?v108) rfl (by kernel_rfl) (by kernel_rfl) (by kernel_rfl) (by kernel_rfl) (by kernel_rfl) (by kernel_rfl) (by kernel_rfl) (fun _ _ _ h => h) (Or.inl ⟨by rfl, ?hy108⟩) (by assumption) ?rest108
                    case hy108 => (intro w hSw; (try dsimp only at hSw); go_simp; try with_reducible rfl)
                    try simp only [Act.put, List.getElem_toArray, List.getElem_cons_zero, List.getElem_cons_succ, List.setIfInBounds_toArray, List.set_cons_zero, List.set_cons_succ]
                    refine anyX_take [27, 26, 25, 24, 22, 21, 20, 7, 6, 5, 4] (i := 4) (v := ?v109) rfl (by kernel_rfl) (by kernel_rfl) (by kernel_rfl) (by kernel_rfl) (by kernel_rfl) (by kernel_rfl) (by kernel_rfl) (fun _ _ _ h => h) (Or.inl ⟨by rfl, ?hy109⟩) (by assumption) ?rest109
                    case hy109 => (intro w hSw; (try dsimp only at hSw); go_simp; try with_reducible rfl)
                    try simp only [Act.put, List.getElem_toArray, List.getElem_cons_zero, List.getElem_cons_succ, List.setIfInBounds_toArray, List.set_cons_zero, List.set_cons_succ]
                    refine anyX_take [27, 26, 25, 24, 22, 21, 20, 7, 6, 5] (i := 5) (v := ?v110) rfl (by kernel_rfl) (by kernel_rfl) (by kernel_rfl) (by kernel_rfl) (by kernel_rfl) (by kernel_rfl) (by kernel_rfl) (fun _ _ _ h => h) (Or.inl ⟨by rfl, ?hy110⟩) (by assumption) ?rest110
                    case hy110 => (intro w hSw; (try dsimp only at hSw); go_simp; try with_reducible rfl)
                    try simp only [Act.put, List.getElem_toArray, List.getElem_cons_zero, List.getElem_cons_succ, List.setIfInBounds_toArray, List.set_cons_zero, List.set_cons_succ]
                    refine anyX_take [27, 26, 25, 24, 22, 21, 20, 7, 6] (i := 6) (v := ?v111) rfl (by kernel_rfl) (by kernel_rfl) (by kernel_rfl) (by kernel_rfl) (by kernel_rfl) (by kernel_rfl) (by kernel_rfl) (fun _ _ _ h => h) (Or.inl ⟨by rfl, ?hy111⟩) (by assumption) ?rest111
                    case hy111 => (intro w hSw; (try dsimp only at hSw); go_simp; try with_reducible rfl)
                    try simp only [Act.put, List.getElem_toArray, List.getElem_cons_zero, List.getElem_cons_succ, List.setIfInBounds_toArray, List.set_cons_zero, List.set_cons_succ]
                    refine anyX_take [27, 26, 25, 24, 22, 21, 20, 7] (i := 7) (v := ?v112) rfl (by kernel_rfl) (by kernel_rfl) (by kernel_rfl) (by kernel_rfl) (by kernel_rfl) (by kernel_rfl) (by kernel_rfl) (fun _ _ _ h => h) (Or.inl ⟨by rfl, ?hy112⟩) (by assumption) ?rest112
                    case hy112 => (intro w hSw; (try dsimp only at hSw); go_simp; try with_reducible rfl)
                    try simp only [Act.put, List.getElem_toArray, List.getElem_cons_zero, List.getElem_cons_succ, List.setIfInBounds_toArray, List.set_cons_zero, List.set_cons_succ]
                    refine anyX_take [27, 26, 25, 24, 22, 21, 20, 19, 18, 11, 10, 9, 8] (i := 8) (v := ?v113) rfl (by kernel_rfl) (by kernel_rfl) (by kernel_rfl) (by kernel_rfl) (by kernel_rfl) (by kernel_rfl) (by kernel_rfl) (fun _ _ _ h => h) (Or.inl ⟨by rfl, ?hy113⟩) (by assumption) ?rest113
                    case hy113 => (intro w hSw; (try dsimp only at hSw); go_simp; try with_reducible rfl)
                    try simp only [Act.put, List.getElem_toArray, List.getElem_cons_zero, List.getElem_cons_succ, List.setIfInBounds_toArray, List.set_cons_zero, List.set_cons_succ]
                    refine anyX_take [27, 26, 25, 24, 22, 21, 20, 19, 18, 11, 10, 9] (i := 9) (v := ?v114) rfl (by kernel_rfl) (by kernel_rfl) (by kernel_rfl) (by kernel_rfl) (by kernel_rfl) (by kernel_rfl) (by kernel_rfl) (fun _ _ _ h => h) (Or.inl ⟨by rfl, ?hy114⟩) (by assumption) ?rest114
                    case hy114 => (intro w hSw; (try dsimp only at hSw); go_simp; try with_reducible rfl)
                    try simp only [Act.put, List.getElem_toArray, List.getElem_cons_zero, List.getElem_cons_succ, List.setIfInBounds_toArray, List.set_cons_zero, List.set_cons_succ]
                    refine anyX_take [27, 26, 25, 24, 22, 21, 20, 19, 18, 11, 10] (i := 10) (v := ?v115) rfl (by kernel_rfl) (by kernel_rfl) (by kernel_rfl) (by kernel_rfl) (by kernel_rfl) (by kernel_rfl) (by kernel_rfl) (fun _ _ _ h => h) (Or.inl ⟨by rfl, ?hy115⟩) (by assumption) ?rest115
                    case hy115 => (intro w hSw; (try dsimp only at hSw); go_simp; try with_reducible rfl)
                    try simp only [Act.put, List.getElem_toArray, List.getElem_cons_zero, List.getElem_cons_succ, List.setIfInBounds_toArray, List.set_cons_zero, List.set_cons_succ]
                    refine anyX_take [27, 26, 25, 24, 22, 21, 20, 19, 18, 11] (i := 11) (v := ?v116) rfl (by kernel_rfl) (by kernel_rfl) (by kernel_rfl) (by kernel_rfl) (by kernel_rfl) (by kernel_rfl) (by kernel_rfl) (fun _ _ _ h => h) (Or.inl ⟨by rfl, ?hy116⟩) (by assumption) ?rest116
                    case hy116 => (intro w hSw; (try dsimp only at hSw); go_simp; try with_reducible rfl)
                    try simp only [Act.put, List.getElem_toArray, List.getElem_cons_zero, List.getElem_cons_succ, List.setIfInBounds_toArray, List.set_cons_zero, List.set_cons_succ]
                    refine anyX_take [27, 26, 25, 24, 22, 21, 20, 19, 18, 17, 16, 15, 14, 13, 12] (i := 12) (v := ?v117) rfl (by kernel_rfl) (by kernel_rfl) (by kernel_rfl) (by kernel_rfl) (by kernel_rfl) (by kernel_rfl) (by kernel_rfl) (fun _ _ _ h => h) (Or.inl ⟨by rfl, ?hy117⟩) (by assumption) ?rest117
                    case hy117 => (intro w hSw; (try dsimp only at hSw); go_simp; try with_reducible rfl)
                    try simp only [Act.put, List.getElem_toArray, List.getElem_cons_zero, List.getElem_cons_succ, List.setIfInBounds_toArray, List.set_cons_zero, List.set_cons_succ]
                    refine anyX_take [27, 26, 25, 24, 22, 21, 20, 19, 18, 17, 16, 15, 14, 13] (i := 13) (v := ?v118) rfl (by kernel_rfl) (by kernel_rfl) (by kernel_rfl) (by kernel_rfl) (by kernel_rfl) (by kernel_rfl) (by kernel_rfl) (fun _ _ _ h => h) (Or.inl ⟨by rfl, ?hy118⟩) (by assumption) ?rest118
                    case hy118 => (intro w hSw; (try dsimp only at hSw); go_simp; try with_reducible rfl)
                    try simp only [Act.put, List.getElem_toArray, List.getElem_cons_zero, List.getElem_cons_succ, List.setIfInBounds_toArray, List.set_cons_zero, List.set_cons_succ]
                    refine anyX_take [27, 26, 25, 24, 22, 21, 20, 19, 18, 17, 16, 15, 14] (i := 14) (v := ?v119) rfl (by kernel_rfl) (by kernel_rfl) (by kernel_rfl) (by kernel_rfl) (by kernel_rfl) (by kernel_rfl) (by kernel_rfl) (fun _ _ _ h => h) (Or.inl ⟨by rfl, ?hy119⟩) (by assumption) ?rest119
                    case hy119 => (intro w hSw; (try dsimp only at hSw); go_simp; try with_reducible rfl)
                    try simp only [Act.put, List.getElem_toArray, List.getElem_cons_zero, List.getElem_cons_succ, List.setIfInBounds_toArray, List.set_cons_zero, List.set_cons_succ]
                    refine anyX_take [27, 26, 25, 24, 22, 21, 20, 19, 18, 17, 16, 15] (i := 15) (v := ?v120) rfl (by kernel_rfl) (by kernel_rfl) (by kernel_rfl) (by kernel_rfl) (by kernel_rfl) (by kernel_rfl) (by kernel_rfl) (fun _ _ _ h => h) (Or.inl ⟨by rfl, ?hy120⟩) (by assumption) ?rest120
                    case hy120 => (intro w hSw; (try dsimp only at hSw); go_simp; try with_reducible rfl)
                    try simp only [Act.put, List.getElem_toArray, List.getElem_cons_zero, List.getElem_cons_succ, List.setIfInBounds_toArray, List.set_cons_zero, List.set_cons_succ]
                    refine anyX_take [27, 26, 25, 24, 22, 21, 20, 19, 18, 17, 16] (i := 16) (v := ?v121) rfl (by kernel_rfl) (by kernel_rfl) (by kernel_rfl) (by kernel_rfl) (by kernel_rfl) (by kernel_rfl) (by kernel_rfl) (fun _ _ _ h => h) (Or.inl ⟨by rfl, ?hy121⟩) (by assumption) ?rest121
                    case hy121 => (intro w hSw; (try dsimp only at hSw); go_simp; try with_reducible rfl)
                    try simp only [Act.put, List.getElem_toArray, List.getElem_cons_zero, List.getElem_cons_succ, List.setIfInBounds_toArray, List.set_cons_zero, List.set_cons_succ]
                    refine anyX_take [27, 26, 25, 24, 22, 21, 20, 19, 18, 17] (i := 17) (v := ?v122) rfl (by kernel_rfl) (by kernel_rfl) (by kernel_rfl) (by kernel_rfl) (by kernel_rfl) (by kernel_rfl) (by kernel_rfl) (fun _ _ _ h => h) (Or.inl ⟨by rfl, ?hy122⟩) (by assumption) ?rest122
                    case hy122 => (intro w hSw; (try dsimp only at hSw); go_simp; try with_reducible rfl)
                    try simp only [Act.put, List.getElem_toArray, List.getElem_cons_zero, List.getElem_cons_succ, List.setIfInBounds_toArray, List.set_cons_zero, List.set_cons_succ]
                    refine anyX_take [27, 26, 25, 24, 22, 21, 20, 19, 18] (i := 18) (v := ?v123) rfl (by kernel_rfl) (by kernel_rfl) (by kernel_rfl) (by kernel_rfl) (by kernel_rfl) (by kernel_rfl) (by kernel_rfl) (fun _ _ _ h => h) (Or.inl ⟨by rfl, ?hy123⟩) (by assumption) ?rest123
                    case hy123 => (intro w hSw; (try dsimp only at hSw); go_simp; try with_reducible rfl)
                    try simp only [Act.put, List.getElem_toArray, List.getElem_cons_zero, List.getElem_cons_succ, List.setIfInBounds_toArray, List.set_cons_zero, List.set_cons_succ]
                    refine anyX_take [27, 26, 25, 24, 22, 21, 20, 19] (i := 19) (v := ?v124) rfl (by kernel_rfl) (by kernel_rfl) (by kernel_rfl) (by kernel_rfl) (by kernel_rfl) (by kernel_rfl) (by kernel_rfl) (fun _ _ _ h => h) (Or.inl ⟨by rfl, ?hy124⟩) (by assumption) ?rest124
                    case hy124 => (intro w hSw; (try dsimp only at hSw); go_simp; try with_reducible rfl)
                    try simp only [Act.put, List.getElem_toArray, List.getElem_cons_zero, List.getElem_cons_succ, List.setIfInBounds_toArray, List.set_cons_zero, List.set_cons_succ]
                    refine anyX_ready (rs := [20]) (by kernel_rfl) (by simp) ?_
                    refine AllX.cons rfl rfl (fun K hK => ?_) AllX.nil
                    go_simp
                    refine (HLESS.out _).mono ?_
                    rintro e_ Wl ⟨rfl, fl⟩
                    have fX := frm_false_trans fX fl
                    have fV := frm_false_trans fV fl
                    clear fl
                    refine hK.out _ _ (HS.out _ fV) (fun hHeld => ?_)
                    clear hK K
                    refine anyX_take [27, 26, 25, 24, 22, 21] (i := 21) (v := ?v125) rfl (by kernel_rfl) (by kernel_rfl) (by kernel_rfl) (by kernel_rfl) (by kernel_rfl) (by kernel_rfl) (by kernel_rfl) (fun _ _ _ h => h) (Or.inl ⟨by rfl, ?hy125⟩) (by assumption) ?rest125
                    case hy125 => (intro w hSw; (try dsimp only at hSw); go_simp; try with_reducible rfl)
                    try simp only [Act.put, List.getElem_toArray, List.getElem_cons_zero, List.getElem_cons_succ, List.setIfInBounds_toArray, List.set_cons_zero, List.set_cons_succ]
                    refine anyX_take [27, 26, 25, 24, 22] (i := 22) (v := ?v126) rfl (by kernel_rfl) (by kernel_rfl) (by kernel_rfl) (by kernel_rfl) (by kernel_rfl) (by kernel_rfl) (by kernel_rfl) (fun _ _ _ h => h) (Or.inl ⟨by rfl, ?hy126⟩) (by assumption) ?rest126
                    case hy126 => (intro w hSw; (try dsimp only at hSw); go_simp; try with_reducible rfl)
                    try simp only [Act.put, List.getElem_toArray, List.getElem_cons_zero, List.getElem_cons_succ, List.setIfInBounds_toArray, List.set_cons_zero, List.set_cons_succ]
                    refine anyX_take [27, 26, 25, 23] (i := 23) (v := ?v127) rfl (by kernel_rfl) (by kernel_rfl) (by kernel_rfl) (by kernel_rfl) (by kernel_rfl) (by kernel_rfl) (by kernel_rfl) (fun _ _ _ h => h) (Or.inl ⟨by rfl, ?hy127⟩) (by assumption) ?rest127
                    case hy127 => (intro w hSw; (try dsimp only at hSw); go_simp; try with_reducible rfl)
                    try simp only [Act.put, List.getElem_toArray, List.getElem_cons_zero, List.getElem_cons_succ, List.setIfInBounds_toArray, List.set_cons_zero, List.set_cons_succ]
                    refine anyX_take [27, 26, 25, 24] (i := 24) (v := ?v128) rfl (by kernel_rfl) (by kernel_rfl) (by kernel_rfl) (by kernel_rfl) (by kernel_rfl) (by kernel_rfl) (by kernel_rfl) (fun _ _ _ h => h) (Or.inl ⟨by rfl, ?hy128⟩) (by assumption) ?rest128
                    case hy128 => (intro w hSw; (try dsimp only at hSw); go_simp; try with_reducible rfl)
                    try simp only [Act.put, List.getElem_toArray, List.getElem_cons_zero, List.getElem_cons_succ, List.setIfInBounds_toArray, List.set_cons_zero, List.set_cons_succ]
                    refine anyX_ready (rs := [25]) (by kernel_rfl) (by simp) ?_
                    refine AllX.last rfl rfl (fun K hK => ?_)
                    have HADD := hide (HADDS.out _ fV)
                    go_simp
                    refine HADD.out.mono ?_
                    rintro e_ W5 ⟨rfl, hr5, f5⟩
                    refine hK.out _ _ ?_
                    clear hK K
                    refine anyX_ready (rs := [26]) (by kernel_rfl) (by simp) ?_
                    refine AllX.last rfl rfl (fun K hK => ?_)
                    go_simp
                    refine hK.out _ _ ?_
                    clear hK K
                    refine anyX_ready (rs := [27]) (by kernel_rfl) (by simp) ?_
                    refine AllX.last rfl rfl (fun K hK => ?_)
                    go_simp
                    refine hK.out _ _ ?_
                    clear hK K
                    refine anyX_done (by kernel_rfl) ?_ _
                    have HR5 := hide hr5
                    have HF5 := hide ((frm_join w (frm_false_trans HF.out fX) f5 (fun i hi => by rw [hi]; exact hgw)).out)
                    clear hHeld hr5 f5 fX HADD HS HLESS
                    go_wp2_with fail
                    go_roundw
                    case rel => exact ⟨n' + 1, by omega, by go_num, HNX.out ▸ HR5.out, HF5.out⟩
                    case measure => have := HK.out; simp [intOf]; omega
                  · have HE := hide (HTOD.out (fun h => hz (HST.out.1 h).2))
                    obtain ⟨zz, hzz⟩ : ∃ z, z = whyL (R.take n') ⟨ya, yf, yt, yl⟩ := ⟨_, rfl⟩
                    have HADDS := hide (fun W (f : Frm (fun _ => False) V W) => radd_any g (R.take n') ⟨ya, yf, yt, yl⟩ w0 W (HRV.out.frm0 f) HYI.out)
                    rw [← hzz] at hz HADDS
                    have hz' : ¬ (zz : Int) = 0 := by omega
                    clear hzz hl hne0
                    go_wp2_with fail
                    refine wp_region_x (S := fun W => W.cell? ⟨g, 0, none⟩ = some (.slice (some ⟨gr, 0, none⟩) n' c) ∧ (W.cell? ⟨g8, 0, none⟩ = some (.int .u16 (ya : Int)) ∧ W.cell? ⟨g8, 1, none⟩ = some (.int .u32 (yf : Int)) ∧ W.cell? ⟨g8, 2, none⟩ = some (.int .u32 (yt : Int)) ∧ W.cell? ⟨g8, 3, none⟩ = some (.int .u32 (yl : Int))) ∧ (W.cell? ⟨gr, j * 4, none⟩ = some (.int .u16 (za : Int)) ∧ W.cell? ⟨gr, j * 4 + 1, none⟩ = some (.int .u32 (zf : Int)) ∧ W.cell? ⟨gr, j * 4 + 2, none⟩ = some (.int .u32 (zt : Int)) ∧ W.cell? ⟨gr, j * 4 + 3, none⟩ = some (.int .u32 (zl : Int)))) [27, 26, 25] (by kernel_rfl) (HS.out _ ((Frm.refl _ _).drew)) ?_
                    intro hHeld
                    obtain ⟨W0, hW0⟩ : ∃ W', W' = V.drew := ⟨_, rfl⟩
                    have fX : Frm (fun _ => False) wr W0 := by rw [hW0]; exact HV.out.drew
                    have fV : Frm (fun _ => False) V W0 := by rw [hW0]; exact (Frm.refl _ _).drew
                    rw [← hW0] at hHeld ⊢
                    clear hW0
                    refine anyX_take [27, 26, 25, 24, 22, 21, 20, 7, 6, 5, 4, 3, 2, 1, 0] (i := 0) (v := ?v129) rfl (by kernel_rfl) (by kernel_rfl) (by kernel_rfl) (by kernel_rfl) (by kernel_rfl) (by kernel_rfl) (by kernel_rfl) (fun _ _ _ h => h) (Or.inl ⟨by rfl, ?hy129⟩) (by assumption) ?rest129
                    case hy129 => (intro w hSw; (try dsimp only at hSw); go_simp; try with_reducible rfl)
                    try simp only [Act.put, List.getElem_toArray, List.getElem_cons_zero, List.getElem_cons_succ, List.setIfInBounds_toArray, List.set_cons_zero, List.set_cons_succ]
                    refine anyX_take [27, 26, 25, 24, 22, 21, 20, 7, 6, 5, 4, 3, 2, 1] (i := 1) (v := ?v130) rfl (by kernel_rfl) (by kernel_rfl) (by kernel_rfl) (by kernel_rfl) (by kernel_rfl) (by kernel_rfl) (by kernel_rfl) (fun _ _ _ h => h) (Or.inl ⟨by rfl, ?hy130⟩) (by assumption) ?rest130
                    case hy130 => (intro w hSw; (try dsimp only at hSw); go_simp; try with_reducible rfl)
                    try simp only [Act.put, List.getElem_toArray, List.getElem_cons_zero, List.getElem_cons_succ, List.setIfInBounds_toArray, List.set_cons_zero, List.set_cons_succ]
                    refine anyX_take [27, 26, 25, 24, 22, 21, 20, 7, 6, 5, 4, 3, 2] (i := 2) (v := ?v131) rfl (by kernel_rfl) (by kernel_rfl) (by kernel_rfl) (by kernel_rfl) (by kernel_rfl) (by kernel_rfl) (by kernel_rfl) (fun _ _ _ h => h) (Or.inl ⟨by rfl, ?hy131⟩) (by assumption) ?rest131
                    case hy131 => (intro w hSw; (try dsimp only at hSw); go_simp; try with_reducible rfl)
                    try simp only [Act.put, List.getElem_toArray, List.getElem_cons_zero, List.getElem_cons_succ, List.setIfInBounds_toArray, List.set_cons_zero, List.set_cons_succ]
                    refine anyX_take [27, 26, 25, 24, 22, 21, 20, 7, 6, 5, 4, 3] (i := 3) (v := ?v132) rfl (by kernel_rfl) (by kernel_rfl) (by kernel_rfl) (by kernel_rfl) (by kernel_rfl) (by kernel_rfl) (by kernel_rfl) (fun _ _ _ h => h) (Or.inl ⟨by rfl, ?hy132⟩) (by assumption) ?rest132
                    case hy132 => (intro w hSw; (try dsimp only at hSw); go_simp; try with_reducible rfl)
                    try simp only [Act.put, List.getElem_toArray, List.getElem_cons_zero, List.getElem_cons_succ, List.setIfInBounds_toArray, List.set_cons_zero, List.set_cons_succ]
                    refine anyX_take [27, 26, 25, 24, 22, 21, 20, 7, 6, 5, 4] (i := 4) (v := ?v133) rfl (by kernel_rfl) (by kernel_rfl) (by kernel_rfl) (by kernel_rfl) (by kernel_rfl) (by kernel_rfl) (by kernel_rfl) (fun _ _ _ h => h) (Or.inl ⟨by rfl, ?hy133⟩) (by assumption) ?rest133
                    case hy133 => (intro w hSw; (try dsimp only at hSw); go_simp; try with_reducible rfl)
                    try simp only [Act.put, List.getElem_toArray, List.getElem_cons_zero, List.getElem_cons_succ, List.setIfInBounds_toArray, List.set_cons_zero, List.set_cons_succ]
                    refine anyX_take [27, 26, 25, 24, 22, 21, 20, 7, 6, 5] (i := 5) (v := ?v134) rfl (by kernel_rfl) (by kernel_rfl) (by kernel_rfl) (by kernel_rfl) (by kernel_rfl) (by kernel_rfl) (by kernel_rfl) (fun _ _ _ h => h) (Or.inl ⟨by rfl, ?hy134⟩) (by assumption) ?rest134
                    case hy134 => (intro w hSw; (try dsimp only at hSw); go_simp; try with_reducible rfl)
                    try simp only [Act.put, List.getElem_toArray, List.getElem_cons_zero, List.getElem_cons_succ, List.setIfInBounds_toArray, List.set_cons_zero, List.set_cons_succ]
                    refine anyX_take [27, 26, 25, 24, 22, 21, 20, 7, 6] (i := 6) (v := ?v135) rfl (by kernel_rfl) (by kernel_rfl) (by kernel_rfl) (by kernel_rfl) (by kernel_rfl) (by kernel_rfl) (by kernel_rfl) (fun _ _ _ h => h) (Or.inl ⟨by rfl, ?hy135⟩) (by assumption) ?rest135
                    case hy135 => (intro w hSw; (try dsimp only at hSw); go_simp; try with_reducible rfl)
                    try simp only [Act.put, List.getElem_toArray, List.getElem_cons_zero, List.getElem_cons_succ, List.setIfInBounds_toArray, List.set_cons_zero, List.set_cons_succ]
                    refine anyX_take [27, 26, 25, 24, 22, 21, 20, 7] (i := 7) (v := ?v136) rfl (by kernel_rfl) (by kernel_rfl) (by kernel_rfl) (by kernel_rfl) (by kernel_rfl) (by kernel_rfl) (by kernel_rfl) (fun _ _ _ h => h) (Or.inl ⟨by rfl, ?hy136⟩) (by assumption) ?rest136
                    case hy136 => (intro w hSw; (try dsimp only at hSw); go_simp; try with_reducible rfl)
                    try simp only [Act.put, List.getElem_toArray, List.getElem_cons_zero, List.getElem_cons_succ, List.setIfInBounds_toArray, List.set_cons_zero, List.set_cons_succ]
                    refine anyX_take [27, 26, 25, 24, 22, 21, 20, 19, 18, 11, 10, 9, 8] (i := 8) (v := ?v137) rfl (by kernel_rfl) (by kernel_rfl) (by kernel_rfl) (by kernel_rfl) (by kernel_rfl) (by kernel_rfl) (by kernel_rfl) (fun _ _ _ h => h) (Or.inl ⟨by rfl, ?hy137⟩) (by assumption) ?rest137
                    case hy137 => (intro w hSw; (try dsimp only at hSw); go_simp; try with_reducible rfl)
                    try simp only [Act.put, List.getElem_toArray, List.getElem_cons_zero, List.getElem_cons_succ, List.setIfInBounds_toArray, List.set_cons_zero, List.set_cons_succ]
                    refine anyX_take [27, 26, 25, 24, 22, 21, 20, 19, 18, 11, 10, 9] (i := 9) (v := ?v138) rfl (by kernel_rfl) (by kernel_rfl) (by kernel_rfl) (by kernel_rfl) (by kernel_rfl) (by kernel_rfl) (by kernel_rfl) (fun _ _ _ h => h) (Or.inl ⟨by rfl, ?hy138⟩) (by assumption) ?rest138
                    case hy138 => (intro w hSw; (try dsimp only at hSw); go_simp; try with_reducible rfl)
                    try simp only [Act.put, List.getElem_toArray, List.getElem_cons_zero, List.getElem_cons_succ, List.setIfInBounds_toArray, List.set_cons_zero, List.set_cons_succ]
                    refine anyX_take [27, 26, 25, 24, 22, 21, 20, 19, 18, 11, 10] (i := 10) (v := ?v139) rfl (by kernel_rfl) (by kernel_rfl) (by kernel_rfl) (by kernel_rfl) (by kernel_rfl) (by kernel_rfl) (by kernel_rfl) (fun _ _ _ h => h) (Or.inl ⟨by rfl, ?hy139⟩) (by assumption) ?rest139
                    case hy139 => (intro w hSw; (try dsimp only at hSw); go_simp; try with_reducible rfl)
                    try simp only [Act.put, List.getElem_toArray, List.getElem_cons_zero, List.getElem_cons_succ, List.setIfInBounds_toArray, List.set_cons_zero, List.set_cons_succ]
                    refine anyX_take [27, 26, 25, 24, 22, 21, 20, 19, 18, 11] (i := 11) (v := ?v140) rfl (by kernel_rfl) (by kernel_rfl) (by kernel_rfl) (by kernel_rfl) (by kernel_rfl) (by kernel_rfl) (by kernel_rfl) (fun _ _ _ h => h) (Or.inl ⟨by rfl, ?hy140⟩) (by assumption) ?rest140
                    case hy140 => (intro w hSw; (try dsimp only at hSw); go_simp; try with_reducible rfl)
                    try simp only [Act.put, List.getElem_toArray, List.getElem_cons_zero, List.getElem_cons_succ, List.setIfInBounds_toArray, List.set_cons_zero, List.set_cons_succ]
                    refine anyX_take [27, 26, 25, 24, 22, 21, 20, 19, 18, 17, 16, 15, 14, 13, 12] (i := 12) (v := ?v141) rfl (by kernel_rfl) (by kernel_rfl) (by kernel_rfl) (by kernel_rfl) (by kernel_rfl) (by kernel_rfl) (by kernel_rfl) (fun _ _ _ h => h) (Or.inl ⟨by rfl, ?hy141⟩) (by assumption) ?rest141
                    case hy141 => (intro w hSw; (try dsimp only at hSw); go_simp; try with_reducible rfl)
                    try simp only [Act.put, List.getElem_toArray, List.getElem_cons_zero, List.getElem_cons_succ, List.setIfInBounds_toArray, List.set_cons_zero, List.set_cons_succ]
                    refine anyX_take [27, 26, 25, 24, 22, 21, 20, 19, 18, 17, 16, 15, 14, 13] (i := 13) (v := ?v142) rfl (by kernel_rfl) (by kernel_rfl) (by kernel_rfl) (by kernel_rfl) (by kernel_rfl) (by kernel_rfl) (by kernel_rfl) (fun _ _ _ h => h) (Or.inl ⟨by rfl, ?hy142⟩) (by assumption) ?rest142
                    case hy142 => (intro w hSw; (try dsimp only at hSw); go_simp; try with_reducible rfl)
                    try simp only [Act.put, List.getElem_toArray, List.getElem_cons_zero, List.getElem_cons_succ, List.setIfInBounds_toArray, List.set_cons_zero, List.set_cons_succ]
                    refine anyX_take [27, 26, 25, 24, 22, 21, 20, 19, 18, 17, 16, 15, 14] (i := 14) (v := ?v143) rfl (by kernel_rfl) (by kernel_rfl) (by kernel_rfl) (by kernel_rfl) (by kernel_rfl) (by kernel_rfl) (by kernel_rfl) (fun _ _ _ h => h) (Or.inl ⟨by rfl, ?hy143⟩) (by assumption) ?rest143
                    case hy143 => (intro w hSw; (try dsimp only at hSw); go_simp; try with_reducible rfl)
                    try simp only [Act.put, List.getElem_toArray, List.getElem_cons_zero, List.getElem_cons_succ, List.setIfInBounds_toArray, List.set_cons_zero, List.set_cons_succ]
                    refine anyX_take [27, 26, 25, 24, 22, 21, 20, 19, 18, 17, 16, 15] (i := 15) (v := ?v144) rfl (by kernel_rfl) (by kernel_rfl) (by kernel_rfl) (by kernel_rfl) (by kernel_rfl) (by kernel_rfl) (by kernel_rfl) (fun _ _ _ h => h) (Or.inl ⟨by rfl, ?hy144⟩) (by assumption) ?rest144
                    case hy144 => (intro w hSw; (try dsimp only at hSw); go_simp; try with_reducible rfl)
                    try simp only [Act.put, List.getElem_toArray, List.getElem_cons_zero, List.getElem_cons_succ, List.setIfInBounds_toArray, List.set_cons_zero, List.set_cons_succ]
                    refine anyX_take [27, 26, 25, 24, 22, 21, 20, 19, 18, 17, 16] (i := 16) (v := ?v145) rfl (by kernel_rfl) (by kernel_rfl) (by kernel_rfl) (by kernel_rfl) (by kernel_rfl) (by kernel_rfl) (by kernel_rfl) (fun _ _ _ h => h) (Or.inl ⟨by rfl, ?hy145⟩) (by assumption) ?rest145
                    case hy145 => (intro w hSw; (try dsimp only at hSw); go_simp; try with_reducible rfl)
                    try simp only [Act.put, List.getElem_toArray, List.getElem_cons_zero, List.getElem_cons_succ, List.setIfInBounds_toArray, List.set_cons_zero, List.set_cons_succ]
                    refine anyX_take [27, 26, 25, 24, 22, 21, 20, 19, 18, 17] (i := 17) (v := ?v146) rfl (by kernel_rfl) (by kernel_rfl) (by kernel_rfl) (by kernel_rfl) (by kernel_rfl) (by kernel_rfl) (by kernel_rfl) (fun _ _ _ h => h) (Or.inl ⟨by rfl, ?hy146⟩) (by assumption) ?rest146
                    case hy146 => (intro w hSw; (try dsimp only at hSw); go_simp; try with_reducible rfl)
                    try simp only [Act.put, List.getElem_toArray, List.getElem_cons_zero, List.getElem_cons_succ, List.setIfInBounds_toArray, List.set_cons_zero, List.set_cons_succ]
                    refine anyX_take [27, 26, 25, 24, 22, 21, 20, 19, 18] (i := 18) (v := ?v147) rfl (by kernel_rfl) (by kernel_rfl) (by kernel_rfl) (by kernel_rfl) (by kernel_rfl) (by kernel_rfl) (by kernel_rfl) (fun _ _ _ h => h) (Or.inl ⟨by rfl, ?hy147⟩) (by assumption) ?rest147
                    case hy147 => (intro w hSw; (try dsimp only at hSw); go_simp; try with_reducible rfl)
                    try simp only [Act.put, List.getElem_toArray, List.getElem_cons_zero, List.getElem_cons_succ, List.setIfInBounds_toArray, List.set_cons_zero, List.set_cons_succ]
                    refine anyX_take [27, 26, 25, 24, 22, 21, 20, 19] (i := 19) (v := ?v148) rfl (by kernel_rfl) (by kernel_rfl) (by kernel_rfl) (by kernel_rfl) (by kernel_rfl) (by kernel_rfl) (by kernel_rfl) (fun _ _ _ h => h) (Or.inl ⟨by rfl, ?hy148⟩) (by assumption) ?rest148
                    case hy148 => (intro w hSw; (try dsimp only at hSw); go_simp; try with_reducible rfl)
                    try simp only [Act.put, List.getElem_toArray, List.getElem_cons_zero, List.getElem_cons_succ, List.setIfInBounds_toArray, List.set_cons_zero, List.set_cons_succ]
                    refine anyX_ready (rs := [20]) (by kernel_rfl) (by simp) ?_
                    refine AllX.cons rfl rfl (fun K hK => ?_) AllX.nil
                    go_simp
                    refine (HLESS.out _).mono ?_
                    rintro e_ Wl ⟨rfl, fl⟩
                    have fX := frm_false_trans fX fl
                    have fV := frm_false_trans fV fl
                    clear fl
                    refine hK.out _ _ (HS.out _ fV) (fun hHeld => ?_)
                    clear hK K
                    refine anyX_take [27, 26, 25, 24, 22, 21] (i := 21) (v := ?v149) rfl (by kernel_rfl) (by kernel_rfl) (by kernel_rfl) (by kernel_rfl) (by kernel_rfl) (by kernel_rfl) (by kernel_rfl) (fun _ _ _ h => h) (Or.inl ⟨by rfl, ?hy149⟩) (by assumption) ?rest149
                    case hy149 => (intro w hSw; (try dsimp only at hSw); go_simp; try with_reducible rfl)
                    try simp only [Act.put, List.getElem_toArray, List.getElem_cons_zero, List.getElem_cons_succ, List.setIfInBounds_toArray, List.set_cons_zero, List.set_cons_succ]
                    refine anyX_take [27, 26, 25, 24, 22] (i := 22) (v := ?v150) rfl (by kernel_rfl) (by kernel_rfl) (by kernel_rfl) (by kernel_rfl) (by kernel_rfl) (by kernel_rfl) (by kernel_rfl) (fun _ _ _ h => h) (Or.inl ⟨by rfl, ?hy150⟩) (by assumption) ?rest150
                    case hy150 => (intro w hSw; (try dsimp only at hSw); go_simp; try with_reducible rfl)
                    try simp only [Act.put, List.getElem_toArray, List.getElem_cons_zero, List.getElem_cons_succ, List.setIfInBounds_toArray, List.set_cons_zero, List.set_cons_succ]
                    refine anyX_take [27, 26, 25, 23] (i := 23) (v := ?v151) rfl (by kernel_rfl) (by kernel_rfl) (by kernel_rfl) (by kernel_rfl) (by kernel_rfl) (by kernel_rfl) (by kernel_rfl) (fun _ _ _ h => h) (Or.inl ⟨by rfl, ?hy151⟩) (by assumption) ?rest151
                    case hy151 => (intro w hSw; (try dsimp only at hSw); go_simp; try with_reducible rfl)
                    try simp only [Act.put, List.getElem_toArray, List.getElem_cons_zero, List.getElem_cons_succ, List.setIfInBounds_toArray, List.set_cons_zero, List.set_cons_succ]
                    refine anyX_take [27, 26, 25, 24] (i := 24) (v := ?v152) rfl (by kernel_rfl) (by kernel_rfl) (by kernel_rfl) (by kernel_rfl) (by kernel_rfl) (by kernel_rfl) (by kernel_rfl) (fun _ _ _ h => h) (Or.inl ⟨by rfl, ?hy152⟩) (by assumption) ?rest152
                    case hy152 => (intro w hSw; (try dsimp only at hSw); go_simp; try with_reducible rfl)
                    try simp only [Act.put, List.getElem_toArray, List.getElem_cons_zero, List.getElem_cons_succ, List.setIfInBounds_toArray, List.set_cons_zero, List.set_cons_succ]
                    refine anyX_ready (rs := [25]) (by kernel_rfl) (by simp) ?_
                    refine AllX.last rfl rfl (fun K hK => ?_)
                    have HADD := hide (HADDS.out _ fV)
                    go_simp
                    refine HADD.out.mono ?_
                    rintro e_ W5 ⟨rfl, hr5, f5⟩
                    refine hK.out _ _ ?_
                    clear hK K
                    refine anyX_ready (rs := [26]) (by kernel_rfl) (by simp) ?_
                    refine AllX.last rfl rfl (fun K hK => ?_)
                    go_simp
                    refine hK.out _ _ ?_
                    clear hK K
                    refine anyX_ready (rs := [27]) (by kernel_rfl) (by simp) ?_
                    refine AllX.last rfl rfl (fun K hK => ?_)
                    go_simp
                    refine hK.out _ _ ?_
                    clear hK K
                    refine anyX_done (by kernel_rfl) ?_ _
                    have HF5 := hide ((frm_join w (frm_false_trans HF.out fX) f5 (fun i hi => by rw [hi]; exact hgw)).out)
                    clear hHeld hr5 f5 fX HADD HS HLESS
                    go_wp2_with fail
                    go_ret2
                    exact ⟨none, by rw [HE.out]; rfl, HF5.out, fun h => absurd h (by rw [HE.out]; decide), fun _ => rfl⟩
          · obtain rfl : k = K := by omega
            have hlt' : ¬ ((14 * k : Nat) : Int) < (m : Int) := by have := HK.out; omega
            have hall : R.take k = R := List.take_of_length_le (by rw [HRL.out]; exact Nat.le_refl _)
            rw [hall] at HRD
            have HE : Hid (errB b = 0) := errB_ok HB32.out HMAC.out ⟨by rw [HLO.out]; exact h14, by rw [HRB.out]; exact HRD.out.2.1⟩
            clear hall
            go_wp2_with fail
            go_ret2
            exact ⟨some ⟨g, 0, none⟩, by rw [HE.out]; rfl, HF.out, fun _ => ⟨g, rfl, by rw [HRB.out]; exact HRD.out⟩, fun h => absurd HE.out h⟩
      · have h14' : ¬ ((m : Int) % 14) = 0 := by omega
        have h14'' : ¬ Int.tmod (m : Int) 14 = 0 := by rw [Int.tmod_eq_emod_of_nonneg (by omega)]; exact h14'
        have HE : Hid (errB b = 3) := errB_form HB32.out HMAC.out (fun h => h14 (by have := h.1; rwa [HLO.out] at this))
        go_enter Tryd.func28, Tryd.ntmps28
        go_wp2_with fail
        refine (HSE.out w).mono ?_
        rintro e_ w1 ⟨rfl, hb1⟩
        have HF1 : Hid (Frm (fun _ => False) w w1) := Frm.of_below hb1
        clear hb1 HSE hcut
        go_wp2_with fail
        go_ret2
        exact ⟨none, by rw [HE.out]; rfl, HF1.out, fun h => absurd h (by rw [HE.out]; decide), fun _ => rfl⟩
    · have HE := hide (errB_mac HB32.out hmac)
      have hneL : ¬ ownB b ++ shaL (ownB b) = b := fun h2 => hmac (by
        have h3 := congrArg (List.drop m) h2
        rw [List.drop_append_of_le_length (by rw [HLO.out]; exact Nat.le_refl _), List.drop_eq_nil_of_le (by rw [HLO.out]; exact Nat.le_refl _), List.nil_append] at h3
        rw [h3, HDR.out])
      have hne2 : ((⟨(ownB b ++ shaL (ownB b)).toArray⟩ : ByteArray).toList == (⟨b.toArray⟩ : ByteArray).toList) = false := by
        rw [ByteArray.toList_eq, ByteArray.toList_eq]
        simpa using hneL
      clear hneL
      clear hmac
      obtain ⟨TO, hTO⟩ : ∃ T, T = (⟨(ownB b).toArray⟩ : ByteArray) := ⟨_, rfl⟩
      rw [← hTO] at HSE HSL hcut hszO
      clear hTO
      generalize (⟨(ownB b ++ shaL (ownB b)).toArray⟩ : ByteArray) = T2 at *
      generalize (⟨b.toArray⟩ : ByteArray) = T at *
      go_enter Tryd.func28, Tryd.ntmps28
      go_wp2_with fail
      refine (HSE.out w).mono ?_
      rintro e_ w1 ⟨rfl, hb1⟩
      have HF1 : Hid (Frm (fun _ => False) w w1) := Frm.of_below hb1
      clear hb1 HSE hcut
      go_wp2_with fail
      go_ret2
      exact ⟨none, by rw [HE.out]; rfl, HF1.out, fun h => absurd h (by rw [HE.out]; decide), fun _ => rfl⟩
end Go.Proofs.YtjicnfkodieaaaaDoor
