/-
  The law's hops, as the document's.
-/
import Derived.Test.YtoiiiflnnhkjbaaGreatDoorHp
import Derived.Test.YtoiiiflnnhkjbaaGreatDoorOnU5
import Derived.Test.YtoiiiflnnhkjbaaGreatDoorOnS0
namespace Go.Proofs.YtoiiiflnnhkjbaaGreatDoor
set_option linter.unusedVariables false
set_option linter.unusedSimpArgs false
open Go.RowKit

theorem XOwn.ne {w : World} {B n c : Nat} {A : Option Addr} {l : List HopL} {g : Nat} {t : TypeId} {cs : Array Value} (h : XOwn w B A n c l) (hb : Blk w g t cs) (hne : 71 ≠ t) : (Value.slice A n c).ownBlock ≠ some g := by
  intro e
  rcases h.block with ⟨rfl, _⟩ | ⟨g', cur, rfl, _, hg, _⟩
  · cases e
  · have e' : g' = g := by simpa [Value.ownBlock] using e
    subst e'
    exact Blk.ne (t := 71) hg hb hne rfl
theorem OAt.grow0 {w W W' : World} {l : List (Nat × TypeId × List Value)} (h : OAt w l W) {S : Nat → Prop} (f : Frm S W W') (hS : ∀ k, S k → w.heap.size ≤ k) : OAt w [] W' :=
  ⟨⟨fun _ h => (by cases h), fun _ h => (by cases h), List.nodup_nil, below_frm h.bel f h.bel.size hS⟩, h.tb.frm f (fun k hk => by have := hS k hk; have := h.four; omega), h.four⟩
theorem build_rhop (h : HopL) (hk : h.ok) (w : World) : Sem.run Tryz.prog (Instr.build 71 #[(0, .int .u16 (h.addr : Int)), (1, .int .u16 (h.who : Int)), (2, .string ⟨h.key.toArray⟩), (3, .int .u32 (h.epoch : Int)), (4, .agg (cellsB h.nonce).toArray), (5, .int .u64 (h.lo : Int)), (6, .int .u64 (h.hi : Int)), (7, .int .u32 (h.delay : Int))]) w = .ok (.agg (rhopC h).toArray) w := by
  obtain ⟨addr, who, key, epoch, nonce, lo, hi, delay⟩ := h
  have hn : nonce.length = 16 := hk.nonce
  clear hk
  show Sem.run Tryz.prog (Instr.build 71 #[(0, .int .u16 (addr : Int)), (1, .int .u16 (who : Int)), (2, .string ⟨key.toArray⟩), (3, .int .u32 (epoch : Int)), (4, .agg (cellsB nonce).toArray), (5, .int .u64 (lo : Int)), (6, .int .u64 (hi : Int)), (7, .int .u32 (delay : Int))]) w = .ok (.agg (rhopC ⟨addr, who, key, epoch, nonce, lo, hi, delay⟩).toArray) w
  have e : rhopC ⟨addr, who, key, epoch, nonce, lo, hi, delay⟩ = .int .u16 (addr : Int) :: .int .u16 (who : Int) :: .string ⟨key.toArray⟩ :: .int .u32 (epoch : Int) :: (cellsB nonce ++ [.int .u64 (lo : Int), .int .u64 (hi : Int), .int .u32 (delay : Int)]) := rfl
  rw [e]
  generalize (⟨key.toArray⟩ : ByteArray) = sk
  match nonce, hn with
  | [_, _, _, _, _, _, _, _, _, _, _, _, _, _, _, _], _ => exact run_build w _ _ _ (by kernel_rfl)
theorem step_made1X {ops : Array Oper} {op : Oper} {a : Act} {w : World} {K : Act → World → Prop} {Q : Exit → Act → World → Prop} {E : Prop} (hgd : op.guard = none) (x : Operand) (ho : op.op = .buildSlice 44 1 #[(0, x)]) (cs : List Value) (hl : cs.length = 23) (hx : a.eval x = .agg cs.toArray)
    (h : ∀ g w', Blk w' g 71 cs.toArray → w.heap.size ≤ g → Frm (fun _ => False) w w' → K (a.put op.dst (.slice (some ⟨g, 0, none⟩) 1 1)) w') : if Region.wanted op (yielded ops a.tmps) = true then Oper.wp Tryz.prog op a w K Q else E := by
  have hw : Region.wanted op (yielded ops a.tmps) = true := by simp [Region.wanted, hgd]
  rw [if_pos hw]
  unfold Oper.wp execOp
  simp only [ho, List.map_toArray, List.map_cons, List.map_nil, hx, Sem.run_bind, run_made1X w cs hl, Result.andThen_ok, Sem.run_pure]
  exact h _ _ (Blk.new _ _ _) (Nat.le_refl _) (Frm.alloc _ _ _)
theorem step_appX {ops : Array Oper} {op : Oper} {a : Act} {w : World} {K : Act → World → Prop} {Q : Exit → Act → World → Prop} {E : Prop} (hgd : op.guard = none) (s x : Operand)
    (ho : op.op = .call { callee := .builtin .append, args := #[s, x], argTypes := #[44, 44] }) (base : Nat) (A : Option Addr) (n c : Nat) (l : List HopL) (hs : a.eval s = .slice A n c) (hown : XOwn w base A n c l)
    (g : Nat) (r : HopL) (hr : r.ok) (hx : a.eval x = .slice (some ⟨g, 0, none⟩) 1 1) (hg : Blk w g 71 (rhopC r).toArray) (hsm : n ≤ 100000) (hb : base ≤ w.heap.size)
    (h : ∀ A' c' w', XOwn w' base A' (n + 1) c' (l ++ [r]) → Frm (fun k => some k = (Value.slice A n c).ownBlock) w w' → K (a.put op.dst (.slice A' (n + 1) c')) w') : if Region.wanted op (yielded ops a.tmps) = true then Oper.wp Tryz.prog op a w K Q else E := by
  have hw : Region.wanted op (yielded ops a.tmps) = true := by simp [Region.wanted, hgd]
  rw [if_pos hw]
  obtain ⟨A', c', w', hrun, h2, h3, _⟩ := run_appX op.type w base A n c l hown g r hr hg hsm hb
  unfold Oper.wp execOp
  simp only [ho, resolve, invoke, builtin, Sem.run_bind, Sem.run_pure, Result.andThen_ok, List.map_toArray, List.map_cons, List.map_nil, hs, hx, hrun]
  exact h A' c' w' h2 h3
theorem take_hop {hs : List HopL} {k : Nat} (hk : k < hs.length) : hs.take (k + 1) = hs.take k ++ [hs.getD k hop0] := by
  rw [List.take_succ_eq_append_getElem hk, List.getD_eq_getElem?_getD, List.getElem?_eq_getElem hk]
  rfl

set_option maxHeartbeats 16000000 in
set_option maxRecDepth 100000 in
theorem ref_any (A : Option Addr) (n c : Nat) (hs : List HopL) (w : World) (hT : Tb w) (hR : HRow w A n hs) (hn : n ≤ 1000) :
    Calls Tryz.prog 7 #[.slice A n c] w fun e w' => ∃ A' c', e = .returned (.slice A' n c') ∧ XOwn w' w.heap.size A' n c' hs ∧ Below w.heap.size w w' := by
  have H := hide (OAt.start hT)
  have HR := hide hR
  have HLEN := hide hR.len
  clear hR hT
  go_enter Tryz.func7, Tryz.ntmps7
  go_wp2_with fail
  have H0 := H
  clear H
  go_loopw [3, 4] (fun out v wr => ∃ (k : Nat) (B : Option Addr) (d : Nat), k ≤ n ∧ v = .int .i64 (k : Int) ∧ out = .slice B k d ∧ XOwn wr w.heap.size B k d (hs.take k) ∧ OAt w [] wr) (fun _ v _ => n - (intOf v).toNat)
  case atStart => exact ⟨0, none, 0, by omega, rfl, rfl, XOwn.nil _ _, H0.out⟩
  case round =>
    clear H0
    obtain ⟨k, B, d, hk, rfl, rfl, hxo, hat⟩ := hrel
    have H := hide hat
    have HXO := hide hxo
    clear hat hxo
    by_cases hlt : k < n
    · have hki : (k : Int) < (n : Int) := by omega
      have HO := hide (HR.out.hop hlt)
      have htk := take_hop (hs := hs) (k := k) (by rw [HLEN.out]; exact hlt)
      obtain ⟨p, rfl, _⟩ := HR.out.at' (by omega)
      have HHC : Hid (∀ W, Below w.heap.size w W → ∀ q u, (hopC (hs.getD k hop0))[q]? = some u → W.cell? ((p.add (k * 54)).add q) = some u) := fun W b => (HR.out.below b).cell hlt
      obtain ⟨h, hh⟩ : ∃ h, h = hs.getD k hop0 := ⟨_, rfl⟩
      rw [← hh] at HO htk HHC
      obtain ⟨L, hL⟩ : ∃ L, L = hs.take k := ⟨_, rfl⟩
      rw [← hL] at htk HXO
      have HTK := hide htk
      have HHL := hide (hopC_length HO.out)
      have HXN := hide (hopC_nonce HO.out)
      have HXK := hide (hopC_key HO.out)
      have HE := hide (hopC_epoch HO.out)
      have HLO := hide (hopC_lo HO.out)
      have HLH := hide (hopC_hi HO.out)
      have HLD := hide (hopC_delay HO.out)
      have HNC := hide (cl HO.out.nonce)
      have HBD := hide (fun (W : World) => build_rhop h HO.out W)
      have hslK := slK
      clear hh hL htk
      go_wp2_with (first
        | (with_reducible refine at_op (op := ⟨some 15, _, _, _, _, _⟩) ?_; refine wpl_held (op := ⟨some 15, _, _, _, _, _⟩) (.agg (hopC h).toArray) (held_loadC aggH _ rfl (p.add (k * 54)) rfl (hopC h) HHL.out (HHC.out _ H.out.bel)) rfl ?_)
        | (with_reducible refine at_op (op := ⟨some 5, _, _, _, _, _⟩) ?_; (with_reducible refine wpl_alloca (op := ⟨some 5, _, _, _, _, _⟩) rfl _ rfl _ zeroH ?_); intro g5 V5 hB1 hg1 hF1; go_simp; (with_reducible refine wpl_storea aggH rfl (.tmp 5) (.tmp 15) rfl g5 (hopC h) rfl rfl _ _ hB1 HHL.out hop0_len (hopC_one _) ?_); intro W5 hB2 hF2; replace HXO := hide ((HXO.out.frm0 hF1).frm hF2 (fun i hi e => by have := (HXO.out.ge i hi).2; omega)); replace H := hide (H.out.var hg1 hF1 hF2 hB2); clear hB1 hg1 hF1 hB2 hF2))
      refine wp_region_held_drew (S := fun W' => Blk W' g5 63 (hopC h).toArray) (by kernel_rfl) (H.out.drew.get 0 rfl) ?_
      intro hHeld
      obtain ⟨U0, hU0⟩ : ∃ U0, U0 = W5.drew := ⟨_, rfl⟩
      replace H := hide (by rw [hU0]; exact H.out.drew : OAt w _ U0)
      replace HXO : Hid (XOwn U0 w.heap.size B k d L) := by show XOwn _ _ _ _ _ _; rw [hU0]; exact HXO.out.frm0 ((Frm.refl _ _).drew)
      rw [← hU0] at hHeld ⊢
      clear hU0
      refine tkH 0 (v := ?v1) rfl ?hy1 ?rest1
      case hy1 => (intro w hSw; (try go_simp); try with_reducible rfl)
      try simp only [Act.put, PTs]
      refine tkH 1 (v := ?v2) rfl ?hy2 ?rest2
      case hy2 => (intro w hSw; (try go_simp); try with_reducible rfl)
      try simp only [Act.put, PTs]
      refine tkH 2 (v := ?v3) rfl ?hy3 ?rest3
      case hy3 => (intro w hSw; refine held_load1 Tryz.underlying48 rfl one16a (.tmp 17) ?_ g5 0 ?_ _ _ (.int .u16 (h.addr : Int)) hSw rfl <;> rfl)
      try simp only [Act.put, PTs]
      refine tkH 3 (v := ?v4) rfl ?hy4 ?rest4
      case hy4 => (intro w hSw; (try go_simp); try with_reducible rfl)
      try simp only [Act.put, PTs]
      refine tkH 4 (v := ?v5) rfl ?hy5 ?rest5
      case hy5 => (intro w hSw; refine held_load1 Tryz.underlying27 rfl one16w (.tmp 19) ?_ g5 1 ?_ _ _ (.int .u16 (h.who : Int)) hSw rfl <;> rfl)
      try simp only [Act.put, PTs]
      refine tkH 5 (v := ?v6) rfl ?hy6 ?rest6
      case hy6 => (intro w hSw; (try go_simp); try with_reducible rfl)
      try simp only [Act.put, PTs]
      refine tkH 6 (v := ?v7) rfl ?hy7 ?rest7
      case hy7 => (intro w hSw; (try go_simp); try with_reducible rfl)
      try simp only [Act.put, PTs]
      refine tkH 7 (v := ?v8) rfl ?hy8 ?rest8
      case hy8 => (intro w hSw; refine held_convR (.tmp 22) ?_ (some ⟨g5, 2, none⟩) 32 32 ?_ (h.key) ((hSw).mid 2 32 (h.key) HXK.out HO.out.key) <;> rfl)
      try simp only [Act.put, PTs]
      refine tkH 8 (v := ?v9) rfl ?hy9 ?rest9
      case hy9 => (intro w hSw; (try go_simp); try with_reducible rfl)
      try simp only [Act.put, PTs]
      refine tkH 9 (v := ?v10) rfl ?hy10 ?rest10
      case hy10 => (intro w hSw; refine held_load1 Tryz.underlying28 rfl one32 (.tmp 24) ?_ g5 34 ?_ _ _ (.int .u32 (h.epoch : Int)) hSw HE.out <;> rfl)
      try simp only [Act.put, PTs]
      refine tkH 10 (v := ?v11) rfl ?hy11 ?rest11
      case hy11 => (intro w hSw; (try go_simp); try with_reducible rfl)
      try simp only [Act.put, PTs]
      refine tkH 11 (v := ?v12) rfl ?hy12 ?rest12
      case hy12 => (intro w hSw; refine held_loada aggN (.tmp 26) ?_ g5 35 ?_ _ (hopC h) (cellsB h.nonce) hSw HXN.out (by rw [HHL.out]; decide) <;> rfl)
      try simp only [Act.put, PTs]
      refine tkH 12 (v := ?v13) rfl ?hy13 ?rest13
      case hy13 => (intro w hSw; (try go_simp); try with_reducible rfl)
      try simp only [Act.put, PTs]
      refine tkH 13 (v := ?v14) rfl ?hy14 ?rest14
      case hy14 => (intro w hSw; refine held_load1 Tryz.underlying49 rfl one64 (.tmp 28) ?_ g5 51 ?_ _ _ (.int .u64 (h.lo : Int)) hSw HLO.out <;> rfl)
      try simp only [Act.put, PTs]
      refine tkH 14 (v := ?v15) rfl ?hy15 ?rest15
      case hy15 => (intro w hSw; (try go_simp); try with_reducible rfl)
      try simp only [Act.put, PTs]
      refine tkH 15 (v := ?v16) rfl ?hy16 ?rest16
      case hy16 => (intro w hSw; refine held_load1 Tryz.underlying49 rfl one64 (.tmp 30) ?_ g5 52 ?_ _ _ (.int .u64 (h.hi : Int)) hSw HLH.out <;> rfl)
      try simp only [Act.put, PTs]
      refine tkH 16 (v := ?v17) rfl ?hy17 ?rest17
      case hy17 => (intro w hSw; (try go_simp); try with_reducible rfl)
      try simp only [Act.put, PTs]
      refine tkH 17 (v := ?v18) rfl ?hy18 ?rest18
      case hy18 => (intro w hSw; refine held_load1 Tryz.underlying28 rfl one32 (.tmp 32) ?_ g5 53 ?_ _ _ (.int .u32 (h.delay : Int)) hSw HLD.out <;> rfl)
      try simp only [Act.put, PTs]
      refine tkH 18 (v := ?v19) rfl ?hy19 ?rest19
      case hy19 => (intro w hSw; refine held_build 71 #[(0, .tmp 18), (1, .tmp 20), (2, .tmp 23), (3, .tmp 25), (4, .tmp 27), (5, .tmp 29), (6, .tmp 31), (7, .tmp 33)] ?_ _ (rhopC h) (HBD.out _) ?_ <;> rfl)
      try simp only [Act.put, PTs]
      refine rdH 19 rfl (by kernel_rfl) (fun K hK => ?_)
      refine step_made1X rfl (.tmp 34) rfl (rhopC h) (rhopC_length HO.out) rfl ?_
      intro g35 W8 hB8 hs8 hF8
      replace HXO := hide (HXO.out.frm0 hF8)
      replace H := hide (H.out.box hs8 hF8 hB8)
      clear hB8 hs8 hF8
      refine hK.out _ _ (H.out.get 0 rfl) (fun hHeld => ?_)
      clear hK K
      refine rdH 20 rfl (by kernel_rfl) (fun K hK => ?_)
      refine step_appX rfl (.tmp 16) (.tmp 35) rfl w.heap.size B k d L rfl HXO.out g35 h HO.out rfl (H.out.get 1 rfl) (by omega) H.out.bel.size ?_
      intro B' d' W9 hX9 hF9
      have hnew := HXO.out.ne (H.out.get 0 rfl) (by decide)
      have HB5 : Hid (Blk W9 g5 63 (hopC h).toArray) := (H.out.get 0 rfl).frm hF9 (fun e => hnew e.symm)
      replace H := hide (H.out.grow0 hF9 (fun i hi => (HXO.out.ge i hi.symm).1))
      rw [← HTK.out] at hX9
      replace HXO := hide hX9
      clear hX9 hF9 hnew
      refine hK.out _ _ (HB5.out) (fun hHeld => ?_)
      clear hK K
      refine tkH 21 (v := ?v20) rfl ?hy20 ?rest20
      case hy20 => (intro w hSw; (try go_simp); try with_reducible rfl)
      try simp only [Act.put, PTs]
      refine wpAnyH_done (by kernel_rfl) ?_ _
      clear hHeld
      clear HB5
      go_wp2_with fail
      replace H := hide (H.out.grow0 (Frm.refl (fun _ => False) _) (fun _ h => h.elim))
      go_roundw
      case rel => first | exact ⟨k + 1, B', d', by omega, by go_num, rfl, HXO.out, H.out⟩ | ((repeat apply Exists.intro); exact ⟨⟨k + 1, B', d', by omega, by go_num, rfl, HXO.out, H.out⟩, rfl⟩)
      case measure => simp [intOf]; omega
    · obtain rfl : n = k := by omega
      rw [List.take_of_length_le (by rw [HLEN.out]; exact Nat.le_refl _)] at HXO
      go_wp2_with fail
      go_ret
      exact ⟨B, d, rfl, HXO.out, H.out.bel⟩
end Go.Proofs.YtoiiiflnnhkjbaaGreatDoor
