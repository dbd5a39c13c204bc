/-
  A block is added.
-/
import Derived.Test.YtjicnfkodieaaaaDoorSha3
namespace Go.Proofs.YtjicnfkodieaaaaDoor
set_option linter.unusedVariables false
open Go.RowKit

/-- An element of an array that is a value. -/
theorem run_index_agg {P : Program} {t e : TypeId} {N : Nat} {ik : IntKind} (hu : P.underlying t = some (.array N e)) (he : P.underlying e = some (.int ik)) (hi : (P.info? e).map (·.size) = some 1) (cs : List Value) (k : Nat) (v : Value) (hk : k < N) (hv : cs[k]? = some v) (w : World) :
    (Instr.index t (.agg cs.toArray) (.int .i64 (k : Int))).run P w = .ok v w := by
  cases hq : P.info? e with
  | none => simp [hq] at hi
  | some d =>
    have hs : d.size = 1 := by simpa [hq] using hi
    simp [Instr.index, asIntOf, run_underlying hu, hk, part, isAgg, run_underlying he, sizeOf, typeInfo, hq, hs, hv]
theorem index8 (L : List Nat) (k : Nat) (hk : k < 8) (hL : L.length = 8) (w : World) : Sem.run Tryd.prog (Instr.index 98 (.agg (cellsW L).toArray) (.int .i64 (k : Int))) w = .ok (.int .u32 (L.getD k 0 : Nat)) w :=
  run_index_agg (N := 8) (e := 35) (ik := .u32) (by kernel_rfl) (by kernel_rfl) (by kernel_rfl) _ k _ hk (cellsW_at L k (by omega)) w

theorem cellsS_set (a : List Nat) (b : List UInt8) (n k x : Nat) (hk : k < a.length) : (cellsS a b n).set k (.int .u32 (x : Int)) = cellsS (a.set k x) b n := by
  rw [cellsS, cellsS, List.set_append_left _ _ (by rw [cellsW_length]; exact hk), cellsW_set]
theorem cellsS_word (a : List Nat) (b : List UInt8) (n k : Nat) (hk : k < a.length) : (cellsS a b n)[k]? = some (.int .u32 (a.getD k 0 : Nat)) := by
  rw [cellsS, List.getElem?_append_left (by rw [cellsW_length]; exact hk), cellsW_at _ _ hk]

structure AddInv2 (w : World) (g : Nat) (a : List Nat) (b : List UInt8) (n : Nat) (wr : World) : Prop where
  src : Blk wr g 101 (cellsS a b n).toArray
  frm : Frm (fun k => k = g) w wr
theorem AddInv2.set {w : World} {g : Nat} {a : List Nat} {b : List UInt8} {n : Nat} {wr : World} (h : AddInv2 w g a b n wr) (k x : Nat) (hk : k < a.length) : AddInv2 w g (a.set k x) b n (wr.drew.setCell ⟨g, k, none⟩ (.int .u32 (x : Int))) := by
  have hb := Blk.set (w := wr.drew) h.src k (.int .u32 (x : Int))
  rw [List.setIfInBounds_toArray, cellsS_set _ _ _ _ _ hk] at hb
  exact ⟨hb, h.frm.drew.trans (Frm.setCell _ _ _ (fun i => i = g) rfl) (fun _ _ h => h)⟩

theorem Gl.drewN {w : World} (h : Gl w) (n : Nat) : Gl (w.drewN n) := ⟨h.k, h.first⟩
theorem Gl.drew {w : World} (h : Gl w) : Gl w.drew := ⟨h.k, h.first⟩

structure AddInv (w : World) (g g2 : Nat) (cs : List Value) (W : List Nat) (wr : World) : Prop where
  src : Blk wr g 101 cs.toArray
  wb : Blk wr g2 140 (cellsW W).toArray
  gl : Gl wr
  frm : Frm (fun k => k = g) w wr

set_option maxHeartbeats 4000000 in
set_option maxRecDepth 100000 in
theorem addBlock_any (g : Nat) (a : List Nat) (b : List UInt8) (n : Nat) (w : World) (hG : Gl w) (hb : Blk w g 101 (cellsS a b n).toArray) (ha : a.length = 8) (hbl : b.length = 64) (hg2 : 2 ≤ g) :
    Calls Tryd.prog 67 #[.pointer (some ⟨g, 0, none⟩)] w fun e w' => e = .returned (.tuple #[]) ∧ Blk w' g 101 (cellsS (addB a b) b n).toArray ∧ Frm (fun k => k = g) w w' := by
  have hlt := hb.lt
  go_enter Tryd.func67, Tryd.ntmps67
  go_wp2_with fail
  refine (schedule_any g a b n w hb ha hbl).mono ?_
  rintro e w1 ⟨rfl, hbl1⟩
  have hF1 : Frm (fun _ => False) w w1 := Frm.of_below hbl1
  have hb1 := hb.frm hF1 (fun h => h)
  have HWl : Hid ((cellsW (schedN b)).length = 64) := by rw [cellsW_length, schedN_length]; trivial
  have HWs : Hid (Ws (schedN b)) := schedN_ws b
  have HWn : Hid ((schedN b).length = 64) := schedN_length b
  have HAD : Hid (addB a b = plus a (rounds (schedN b) 64 (S8.of (plus a firstL))).list) := rfl
  generalize schedN b = W at *
  go_wp2_with (first
    | (with_reducible refine wpl_alloca (op := ⟨some 2, _, _, _, _, _⟩) rfl _ rfl _ zero64 ?_; intro g2 w2 hB2 hs2 hF2)
    | (with_reducible refine wpl_storea agg64 rfl (.tmp 2) (.tmp 20) rfl g2 (cellsW W) rfl rfl _ _ hB2 HWl.out (by simp [cellsW]) (cellsW_one _) ?_; intro w3 hB3 hF3))
  have hne : g ≠ g2 := by have := hbl1.size; omega
  have hF13 : Frm (fun k => k = g2) w1 w3 := (hF2.mono (T := fun k => k = g2) (fun _ _ h => h.elim)).trans hF3 (fun _ _ h => h)
  have hb3 := hb1.frm hF13 hne
  have hs12 := hbl1.size
  have hG3 : Gl w3 := (hG.frm hF1 (fun h => h) (fun h => h)).frm hF13 (by omega) (by omega)
  have hs13 := hF13.size
  refine (state_any g a b n w3 hG3 hb3 ha (by omega)).mono ?_
  rintro e w4 ⟨rfl, hbl4⟩
  have hF4 : Frm (fun _ => False) w3 w4 := Frm.of_below hbl4
  have hb4 := hb3.frm hF4 (fun h => h)
  have hB4 := hB3.frm hF4 (fun h => h)
  have hG4 := hG3.frm hF4 (fun h => h) (fun h => h)
  have HPw : Hid (Ws (plus a firstL)) := plus_ws _ _
  have HPl : Hid ((plus a firstL).length = 8) := by show _ = _; rw [plus_length _ _ (by rw [ha]; rfl), ha]
  generalize plus a firstL = p at *
  go_wp2_with (first
    | (with_reducible refine wpl_alloca (op := ⟨some 3, _, _, _, _, _⟩) rfl _ rfl _ zero8 ?_; intro g5 w5 hB5 hs5 hF5)
    | (with_reducible refine wpl_storea agg8 rfl (.tmp 3) (.tmp 22) rfl g5 (cellsW p) rfl rfl _ _ hB5 (by rw [cellsW_length, HPl.out]) (by simp [cellsW]) (cellsW_one _) ?_; intro w6 hB6 hF6))
  have hne5 : g ≠ g5 := by have := hbl4.size; omega
  have hne25 : g2 ≠ g5 := by have := hB3.lt; have := hbl4.size; omega
  have hF46 : Frm (fun k => k = g5) w4 w6 := (hF5.mono (T := fun k => k = g5) (fun _ _ h => h.elim)).trans hF6 (fun _ _ h => h)
  have hF06 : Frm (fun k => k = g) w w6 := by
    have f1 : Frm (fun k => k = g ∨ w.heap.size ≤ k) w w1 := hF1.mono (fun _ _ h => h.elim)
    have f2 : Frm (fun k => k = g) w w3 := (hF1.mono (T := fun k => k = g) (fun _ _ h => h.elim)).trans hF13 (fun i hi h => by omega)
    have f3 : Frm (fun k => k = g) w w4 := f2.trans hF4 (fun _ _ h => h.elim)
    exact f3.trans hF46 (fun i hi h => by have := f3.size; omega)
  have hst : AddInv w g g2 (cellsS a b n) W w6 := ⟨hb4.frm hF46 hne5, hB4.frm hF46 hne25, hG4.frm hF46 (by have := hb3.lt; have := hbl4.size; omega) (by have := hb3.lt; have := hbl4.size; omega), hF06⟩
  have hcs : ∀ i, i < 8 → w6.cell? ⟨g5, i, none⟩ = some (.int .u32 (p.getD i 0 : Nat)) := by
    intro i hi
    rw [hB6.cell, List.getElem?_toArray, cellsW_at _ _ (by rw [HPl.out]; exact hi)]
  have q0 := hcs 0 (by omega)
  have q1 := hcs 1 (by omega)
  have q2 := hcs 2 (by omega)
  have q3 := hcs 3 (by omega)
  have q4 := hcs 4 (by omega)
  have q5 := hcs 5 (by omega)
  have q6 := hcs 6 (by omega)
  have q7 := hcs 7 (by omega)
  have HOK : Hid (S8.of p).ok := S8.of_ok HPw.out
  have HRO : Hid (∀ k, (rounds W k (S8.of p)).ok) := fun k => rounds_ok W k HOK.out
  clear hcs hb4 hB4 hB6 hF46 hF5 hF6 hB5 hF06 hb3 hb1 hB3 hB2 hF1 hF2 hF3 hF4 hF13 hG3 hG4 hG hb hbl1 hbl4 HOK
  obtain ⟨s0, hs0⟩ : ∃ s0, s0 = S8.of p := ⟨_, rfl⟩
  have e0 : p.getD 0 0 = s0.a := by rw [hs0]; rfl
  have e1 : p.getD 1 0 = s0.b := by rw [hs0]; rfl
  have e2 : p.getD 2 0 = s0.c := by rw [hs0]; rfl
  have e3 : p.getD 3 0 = s0.d := by rw [hs0]; rfl
  have e4 : p.getD 4 0 = s0.e := by rw [hs0]; rfl
  have e5 : p.getD 5 0 = s0.f := by rw [hs0]; rfl
  have e6 : p.getD 6 0 = s0.g := by rw [hs0]; rfl
  have e7 : p.getD 7 0 = s0.h := by rw [hs0]; rfl
  rw [e0] at q0; rw [e1] at q1; rw [e2] at q2; rw [e3] at q3; rw [e4] at q4; rw [e5] at q5; rw [e6] at q6; rw [e7] at q7
  rw [← hs0] at HRO HAD
  clear e0 e1 e2 e3 e4 e5 e6 e7 hs0
  go_wp2_with fail
  go_quiet (fail)
  go_wp2_with fail
  have hstq : AddInv w g g2 (cellsS a b n) W (w6.drewN nq) := ⟨hst.src, hst.wb, hst.gl.drewN nq, hst.frm.drewN nq⟩
  go_loopw [4, 5, 6, 7, 8, 9, 10, 11, 39] (fun v4 v5 v6 v7 v8 v9 v10 v11 i wr => ∃ k : Nat, k ≤ 64 ∧ i = .int .i64 k ∧ v4 = .int .u32 ((rounds W k s0).a : Nat) ∧ v5 = .int .u32 ((rounds W k s0).b : Nat) ∧ v6 = .int .u32 ((rounds W k s0).c : Nat) ∧ v7 = .int .u32 ((rounds W k s0).d : Nat) ∧ v8 = .int .u32 ((rounds W k s0).e : Nat) ∧ v9 = .int .u32 ((rounds W k s0).f : Nat) ∧ v10 = .int .u32 ((rounds W k s0).g : Nat) ∧ v11 = .int .u32 ((rounds W k s0).h : Nat) ∧ AddInv w g g2 (cellsS a b n) W wr) (fun _ _ _ _ _ _ _ _ i _ => 64 - (intOf i).toNat)
  case atStart => exact ⟨0, by omega, rfl, rfl, rfl, rfl, rfl, rfl, rfl, rfl, rfl, hstq⟩
  case round =>
    obtain ⟨k, hk, rfl, rfl, rfl, rfl, rfl, rfl, rfl, rfl, rfl, hi⟩ := hrel
    clear hst hstq q0 q1 q2 q3 q4 q5 q6 q7
    by_cases hlt : k < 64
    · have hck := hi.gl.k k hlt
      have hcw : wr.cell? ⟨g2, k, none⟩ = some (.int .u32 (W.getD k 0 : Nat)) := by
        rw [hi.wb.cell, List.getElem?_toArray, cellsW_at _ _ (by rw [HWn.out]; exact hlt)]
      have HS : Hid (rounds W (k + 1) s0 = (rounds W k s0).step (kL.getD k 0) (W.getD k 0)) := rfl
      have HO := hide (HRO.out k)
      generalize rounds W k s0 = s at *
      generalize kL.getD k 0 = kk at *
      generalize W.getD k 0 = wk at *
      obtain ⟨a0, b0, c0, d0, e0, f0, g0, h0⟩ := s
      obtain ⟨o1, o2, o3, o4, o5, o6, o7, o8⟩ := HO.out
      simp only at o1 o2 o3 o4 o5 o6 o7 o8
      have tE : ∀ w, Calls Tryd.prog 86 #[.int .u32 e0, .int .i64 6, .int .i64 11, .int .i64 25] w fun e w' => e = .returned (.int .u32 (turnN e0 6 11 25 : Nat)) ∧ w = w' := fun w => turn_any e0 6 11 25 w o5 (by decide) (by decide) (by decide) (by decide) (by decide) (by decide)
      have tA : ∀ w, Calls Tryd.prog 86 #[.int .u32 a0, .int .i64 2, .int .i64 13, .int .i64 22] w fun e w' => e = .returned (.int .u32 (turnN a0 2 13 22 : Nat)) ∧ w = w' := fun w => turn_any a0 2 13 22 w o1 (by decide) (by decide) (by decide) (by decide) (by decide) (by decide)
      have TE := hide tE
      have TA := hide tA
      clear tE tA
      have m1 := u32_and_nat e0 f0 o5 o6
      have m2 := u32_andNot_nat g0 e0 o7 o5
      have m3 := u32_xor_nat (e0 &&& f0) (g0 &&& (4294967295 - e0)) (and_lt32 o5) (and_lt32 o7)
      have m4 := u32_and_nat a0 b0 o1 o2
      have m5 := u32_and_nat a0 c0 o1 o3
      have m6 := u32_xor_nat (a0 &&& b0) (a0 &&& c0) (and_lt32 o1) (and_lt32 o1)
      have m7 := u32_and_nat b0 c0 o2 o3
      have m8 := u32_xor_nat ((a0 &&& b0) ^^^ (a0 &&& c0)) (b0 &&& c0) (xor_lt32 (and_lt32 o1) (and_lt32 o1)) (and_lt32 o2)
      unfold S8.step tOf uOf at HS
      simp only at HS
      generalize turnN e0 6 11 25 = te at *
      generalize turnN a0 2 13 22 = ta at *
      generalize e0 &&& f0 = x1 at *
      generalize g0 &&& (4294967295 - e0) = x2 at *
      generalize x1 ^^^ x2 = x3 at *
      generalize a0 &&& b0 = y1 at *
      generalize a0 &&& c0 = y2 at *
      generalize y1 ^^^ y2 = y3 at *
      generalize b0 &&& c0 = y4 at *
      generalize y3 ^^^ y4 = y5 at *
      have n1 : IntKind.u32.wrap ((h0 : Int) + (te : Int)) = (ad h0 te : Nat) := by rw [IntKind.wrap_u32']; exact ad_int _ _
      have n2 : IntKind.u32.wrap ((ad h0 te : Nat) + (x3 : Int)) = (ad (ad h0 te) x3 : Nat) := by rw [IntKind.wrap_u32']; exact ad_int _ _
      have n3 : IntKind.u32.wrap ((ad (ad h0 te) x3 : Nat) + (kk : Int)) = (ad (ad (ad h0 te) x3) kk : Nat) := by rw [IntKind.wrap_u32']; exact ad_int _ _
      have n4 : IntKind.u32.wrap ((ad (ad (ad h0 te) x3) kk : Nat) + (wk : Int)) = (ad (ad (ad (ad h0 te) x3) kk) wk : Nat) := by rw [IntKind.wrap_u32']; exact ad_int _ _
      have n5 := ad_int ta y5
      generalize ad h0 te = z1 at *
      generalize ad z1 x3 = z2 at *
      generalize ad z2 kk = z3 at *
      generalize ad z3 wk = t at *
      generalize ad ta y5 = u at *
      have n6 := ad_int d0 t
      have n7 := ad_int t u
      generalize ad d0 t = dt at *
      generalize ad t u = tu at *
      clear o1 o2 o3 o4 o5 o6 o7 o8 HO
      go_wp2_with fail
      go_quiet ((go_at_call 86; (with_reducible exact quiet_same (TE.out _))))
      go_wp2_with (go_at_call 86; (with_reducible refine (TA.out _).mono ?_); rintro e w' ⟨rfl, rfl⟩)
      go_roundw
      case rel => exact ⟨k + 1, by omega, by go_num, by rw [HS.out, n7], by rw [HS.out], by rw [HS.out], by rw [HS.out], by rw [HS.out, n6], by rw [HS.out], by rw [HS.out], by rw [HS.out], ⟨hi.src, hi.wb, hi.gl.drewN nq, hi.frm.drewN nq⟩⟩
      case measure => simp [intOf]; omega
    · obtain rfl : k = 64 := by omega
      have HAD' := HAD.out
      obtain ⟨s, hs⟩ : ∃ s, s = rounds W 64 s0 := ⟨_, rfl⟩
      rw [← hs] at HAD' ⊢
      obtain ⟨L, hL⟩ : ∃ L, L = s.list := ⟨_, rfl⟩
      rw [← hL] at HAD'
      have hLl : L.length = 8 := by rw [hL]; rfl
      have HI : Hid (∀ (k : Nat) (w : World), k < 8 → Sem.run Tryd.prog (Instr.index 98 (.agg #[.int .u32 s.a, .int .u32 s.b, .int .u32 s.c, .int .u32 s.d, .int .u32 s.e, .int .u32 s.f, .int .u32 s.g, .int .u32 s.h]) (.int .i64 k)) w = .ok (.int .u32 (L.getD k 0 : Nat)) w) := by
        intro k w hk
        have := index8 L k hk hLl w
        rw [hL] at this ⊢
        exact this
      have HLl := hide hLl
      have hln : L.length = a.length := by rw [hLl, ha]
      have HPL : Hid ((plus a L).length = a.length) := plus_length _ _ hln.symm
      have H0 : Hid (AddInv2 w g (mix (plus a L) a 0) b n wr) := by show AddInv2 _ _ _ _ _ _; rw [mix_zero]; exact ⟨hi.src, hi.frm⟩
      have HA := hide HAD'
      have Hal := hide ha
      clear HAD' HAD hs hL hLl hln hi ha
      go_wp2_with fail
      go_loopw [98] (fun i wr => ∃ k : Nat, k ≤ 8 ∧ i = .int .i64 k ∧ AddInv2 w g (mix (plus a L) a k) b n wr) (fun i _ => 8 - (intOf i).toNat)
      case atStart => exact ⟨0, by omega, rfl, H0.out⟩
      case round =>
        clear H0
        obtain ⟨k, hk, rfl, hi⟩ := hrel
        by_cases hlt : k < 8
        · have hidx := fun w => HI.out k w hlt
          have hpl := HPL.out
          have hal := Hal.out
          have hc1 : wr.cell? ⟨g, k, none⟩ = some (.int .u32 (a.getD k 0 : Nat)) := by
            rw [hi.src.cell, List.getElem?_toArray, cellsS_word _ _ _ _ (by rw [mix_length _ _ _ hpl]; omega), List.getD_eq_getElem?_getD, mix_at _ _ _ hpl (by omega), ← List.getD_eq_getElem?_getD]
          have hf1 := hi.src.frozen k
          have hset := mix_set (plus a L) a k _ hpl (by omega) (plus_at a L k (by omega) (by rw [HLl.out]; exact hlt))
          have fin := hi.set k (ad (a.getD k 0) (L.getD k 0)) (by rw [mix_length _ _ _ hpl]; omega)
          rw [hset] at fin
          have FIN := hide fin
          generalize a.getD k 0 = x at *
          generalize L.getD k 0 = y at *
          have hadd : IntKind.u32.wrap ((x : Int) + (y : Int)) = (ad x y : Nat) := by rw [IntKind.wrap_u32']; exact ad_int _ _
          clear fin hset hal hpl
          go_wp2_with fail
          go_still_tail 11, (by kernel_rfl)
          have hc1' : wr.drew.cell? ⟨g, k, none⟩ = some (.int .u32 (x : Nat)) := hc1
          have hf1' : wr.drew.frozen? ⟨g, k, none⟩ = false := hf1
          change wpList _ _ _ _ _ wr.drew
          go_wp2
          go_roundw
          case rel => first | exact ⟨k + 1, by omega, by go_num, FIN.out⟩ | ((repeat apply Exists.intro); exact ⟨⟨k + 1, by omega, by go_num, FIN.out⟩, rfl⟩)
          case measure => simp [intOf]; omega
        · obtain rfl : k = 8 := by omega
          rw [mix_all _ _ _ HPL.out (by rw [Hal.out]; omega), ← HA.out] at hi
          go_wp2_with fail
          exact end0 rfl rfl ⟨rfl, hi.src, hi.frm⟩
end Go.Proofs.YtjicnfkodieaaaaDoor
