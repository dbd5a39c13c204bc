/-
  The document's Add.
-/
import Derived.Test.YtjicnfkodieaaaaDoorRf1
import Derived.Test.YtjicnfkodieaaaaDoorRf2
import Derived.Test.YtjicnfkodieaaaaDoorHeldX
import Derived.Test.YtjicnfkodieaaaaDoorDsT
namespace Go.Proofs.YtjicnfkodieaaaaDoor
set_option linter.unusedVariables false
set_option linter.unusedSimpArgs false
open Go.RowKit

theorem wplk_min {P : Program} {ops : Array Oper} {rest : List Oper} {op : Oper} {a : Act} {Q : Exit → Act → World → Prop} (x y : Operand) (t t' : TypeId)
    (ho : op.op = .call { callee := .builtin .min, args := #[x, y], argTypes := #[t, t'] }) (w : World) (k : IntKind) (p q m : Int) (hx : a.eval x = .int k p) (hy : a.eval y = .int k q) (hm : m = if q < p then q else p) (hw : Region.wanted op (yielded ops a.tmps) = true)
    (h : wpList P ops Q rest (a.put op.dst (.int k m)) w) : wpList P ops Q (op :: rest) a w := by
  refine wpList_step fun K hK => ?_
  rw [if_pos hw]
  unfold Oper.wp execOp
  simp only [ho, resolve, invoke, builtin, Sem.run_bind, Sem.run_pure, Result.andThen_ok, List.map_toArray, List.map_cons, List.map_nil, hx, hy]
  subst hm
  exact hK _ _ h
theorem wplk_max {P : Program} {ops : Array Oper} {rest : List Oper} {op : Oper} {a : Act} {Q : Exit → Act → World → Prop} (x y : Operand) (t t' : TypeId)
    (ho : op.op = .call { callee := .builtin .max, args := #[x, y], argTypes := #[t, t'] }) (w : World) (k : IntKind) (p q m : Int) (hx : a.eval x = .int k p) (hy : a.eval y = .int k q) (hm : m = if q > p then q else p) (hw : Region.wanted op (yielded ops a.tmps) = true)
    (h : wpList P ops Q rest (a.put op.dst (.int k m)) w) : wpList P ops Q (op :: rest) a w := by
  refine wpList_step fun K hK => ?_
  rw [if_pos hw]
  unfold Oper.wp execOp
  simp only [ho, resolve, invoke, builtin, Sem.run_bind, Sem.run_pure, Result.andThen_ok, List.map_toArray, List.map_cons, List.map_nil, hx, hy]
  subst hm
  exact hK _ _ h
theorem step_appS {ops : Array Oper} {op : Oper} {a : Act} {K : Act → World → Prop} {Q : Exit → Act → World → Prop} {E : Prop} (hw : Region.wanted op (yielded ops a.tmps) = true) (s x : Operand)
    (ho : op.op = .call { callee := .builtin .append, args := #[s, x], argTypes := #[30, 30] }) (w : World) (base : Nat) (A : Option Addr) (n c : Nat) (l : List Rec) (hs : a.eval s = .slice A n c) (hown : QOwn w base A n c l)
    (X : Option Addr) (m cc : Nat) (l2 : List Rec) (hx : a.eval x = .slice X m cc) (hsrc : SrcQ w X m cc l2) (nm : Nat) (hnm : nm = n + m) (hsm : n + m ≤ 1000000) (hb : base ≤ w.heap.size)
    (h : ∀ A' c' w', QOwn w' base A' nm c' (l ++ l2) → Frm (fun k => some k = (Value.slice A n c).ownBlock) w w' → ((Value.slice A' nm c').ownBlock = (Value.slice A n c).ownBlock ∨ (Value.slice A' nm c').ownBlock = some w.heap.size) → K (a.put op.dst (.slice A' nm c')) w') :
    if Region.wanted op (yielded ops a.tmps) = true then Oper.wp Tryd.prog op a w K Q else E := by
  subst hnm
  rw [if_pos hw]
  obtain ⟨A', c', w', hrun, h2, h3, h4⟩ := run_appS op.type w base A n c l hown X m cc l2 hsrc hsm hb
  unfold Oper.wp execOp
  simp only [ho, resolve, invoke, builtin, Sem.run_bind, Sem.run_pure, Result.andThen_ok, List.map_toArray, List.map_cons, List.map_nil, hs, hx, hrun]
  exact h A' c' w' h2 h3 h4

/-- The new row, as far as it is made; nothing that lay is turned. -/
structure RowSt (wr W : World) (A : Option Addr) (m c : Nat) (L : List Rec) : Prop where
  fr : Frm (fun _ => False) wr W
  row : QOwn W wr.heap.size A m c L
/-- The record that goes in between lies in a block of its own. -/
structure OneSt (W : World) (g : Nat) (x : Rec) (A : Option Addr) (m c : Nat) : Prop where
  blk : Blk W g 40 (recC x).toArray
  ne : ∀ k, (Value.slice A m c).ownBlock = some k → k ≠ g
theorem RowSt.made {wr W : World} (f : Frm (fun _ => False) wr W) : RowSt wr (W.alloc (.cells #[] 40)) (some ⟨W.heap.size, 0, none⟩) 0 0 [] :=
  ⟨frm_false_trans f (Frm.alloc _ _ _), (QOwn.made W).base f.size⟩
theorem OneSt.made {W : World} {g : Nat} {x : Rec} (h : Blk W g 40 (recC x).toArray) : OneSt (W.alloc (.cells #[] 40)) g x (some ⟨W.heap.size, 0, none⟩) 0 0 :=
  ⟨h.frm (Frm.alloc _ _ (fun _ => False)) (fun h => h), fun k hk e => by
    have h1 := h.lt
    have h2 : W.heap.size = k := by simpa [Value.ownBlock] using hk
    omega⟩
theorem RowSt.one {wr W : World} {A : Option Addr} {m c : Nat} {L : List Rec} {x : Rec} (h : RowSt wr W A m c L) : RowSt wr (W.alloc (.cells (recC x).toArray 40)) A m c L :=
  ⟨frm_false_trans h.fr (Frm.alloc _ _ _), h.row.frm0 (Frm.alloc _ _ _)⟩
theorem OneSt.one {wr W : World} {A : Option Addr} {m c : Nat} {L : List Rec} {x : Rec} (h : RowSt wr W A m c L) : OneSt (W.alloc (.cells (recC x).toArray 40)) W.heap.size x A m c :=
  ⟨Blk.new _ _ _, fun k hk e => by have := (h.row.ge k hk).2; omega⟩
theorem RowSt.app {wr W W2 : World} {A A2 : Option Addr} {m c m2 c2 : Nat} {L L2 : List Rec} (h : RowSt wr W A m c L) (q : QOwn W2 wr.heap.size A2 m2 c2 L2) (f : Frm (fun k => some k = (Value.slice A m c).ownBlock) W W2) : RowSt wr W2 A2 m2 c2 L2 :=
  ⟨(frm_join wr h.fr f (fun k hk => (h.row.ge k hk.symm).1)).out, q⟩
theorem OneSt.app {W W2 : World} {g : Nat} {x : Rec} {A A2 : Option Addr} {m c m2 c2 : Nat} (h : OneSt W g x A m c) (f : Frm (fun k => some k = (Value.slice A m c).ownBlock) W W2) (o : (Value.slice A2 m2 c2).ownBlock = (Value.slice A m c).ownBlock ∨ (Value.slice A2 m2 c2).ownBlock = some W.heap.size) : OneSt W2 g x A2 m2 c2 := by
  refine ⟨h.blk.frm f (fun e => h.ne g e.symm rfl), fun k hk e => ?_⟩
  rcases o with o | o
  · exact h.ne k (by rw [← o]; exact hk) e
  · rw [o] at hk
    have h1 := h.blk.lt
    injection hk with hk
    omega
/-- The new row in its place. -/
theorem RDir.put {w0 w W : World} {g : Nat} {D D' : List Rec} {A : Option Addr} {n c N : Nat} (h : RDir w0 w g D) (f : Frm (fun _ => False) w W) (q : QOwn W N A n c D') (hD : DirOk D') (hN : w0.heap.size ≤ N) :
    RDir w0 (W.setCell ⟨g, 0, none⟩ (.slice A n c)) g D' ∧ Frm (fun k => k = g) w (W.setCell ⟨g, 0, none⟩ (.slice A n c)) := by
  obtain ⟨hl, _, A0, n0, c0, hb, _⟩ := h
  have hbW := hb.frm f (fun h => h)
  have fs : Frm (fun k => k = g) W (W.setCell ⟨g, 0, none⟩ (.slice A n c)) := Frm.setCell _ _ _ _ rfl
  refine ⟨⟨hl, hD, A, n, c, ?_, (q.base hN).frm fs fun k hk e => q.ne hbW (by decide) (by rw [← e]; exact hk)⟩, (f.mono (T := fun k => k = g) (fun _ _ h => h.elim)).trans fs (fun _ _ h => h)⟩
  have h1 := hbW.set 0 (.slice A n c)
  exact h1

set_option maxHeartbeats 8000000 in
set_option maxRecDepth 100000 in
theorem radd_any (g : Nat) (D : List Rec) (x : Rec) (w0 w : World) (h : RDir w0 w g D) (hx : x.in32) : Calls Tryd.prog 16 #[.pointer (some ⟨g, 0, none⟩), recV x] w fun en w' =>
    en = .returned (.int .i64 (whyL D x : Nat)) ∧ RDir w0 w' g (addL D x) ∧ Frm (fun k => k = g) w w' := by
  have HD := hide h
  obtain ⟨hlow, hok, A, n, c, hb, hq⟩ := h
  obtain ⟨xa, xf, xt, xl⟩ := x
  have hADD := hok.add hx
  have HOK := hide hok
  have HX := hide hx
  obtain ⟨W, hW⟩ : ∃ W, W = w.alloc (.cells #[.int .u16 (xa : Int), .int .u32 (xf : Int), .int .u32 (xt : Int), .int .u32 (xl : Int)] 40) := ⟨_, rfl⟩
  have hFW : Frm (fun _ => False) w W := by rw [hW]; exact Frm.alloc _ _ _
  have hBW : Blk W w.heap.size 40 #[.int .u16 (xa : Int), .int .u32 (xf : Int), .int .u32 (xt : Int), .int .u32 (xl : Int)] := by rw [hW]; exact Blk.new _ _ _
  have c0 : W.cell? ⟨w.heap.size, 0, none⟩ = some (.int .u16 (xa : Int)) := hBW.cell 0
  have c1 : W.cell? ⟨w.heap.size, 1, none⟩ = some (.int .u32 (xf : Int)) := hBW.cell 1
  have c2 : W.cell? ⟨w.heap.size, 2, none⟩ = some (.int .u32 (xt : Int)) := hBW.cell 2
  have HBX := hide hBW
  have HFW := hide hFW
  have HBG := hide hb
  have HQ := hide hq
  have hn := hq.len
  have HN := hide hn
  have hn64 : n ≤ 64 := by have := hok.len; omega
  have hlw : w0.heap.size ≤ w.heap.size := by have := hb.lt; omega
  have fin : ∀ k, whyL D ⟨xa, xf, xt, xl⟩ = k → k ≠ 0 → ∀ w1, Frm (fun _ => False) w w1 → (Value.int IntKind.i64 (k : Nat) = Value.int IntKind.i64 (whyL D ⟨xa, xf, xt, xl⟩ : Nat)) ∧ RDir w0 w1 g (addL D ⟨xa, xf, xt, xl⟩) ∧ Frm (fun k => k = g) w w1 := fun k e hk w1 f =>
    ⟨by rw [e], by unfold addL; rw [if_neg (by omega)]; exact HD.out.frm0 f, f.mono (fun _ _ h => h.elim)⟩
  have FINS := hide fin
  have HADDS := hide hADD
  have HWW := hide hW
  clear hW hFW hBW hb hq hok hx hn fin hADD
  simp only [recV, recC]
  by_cases h1 : 16 ≤ xa
  · have FIN := hide (FINS.out 1 (by unfold whyL; rw [if_pos (.inl h1)]) (by decide) W HFW.out)
    have h1' : (16 : Int) ≤ (xa : Int) := by omega
    clear FINS
    go_enter Tryd.func16, Tryd.ntmps16
    go_wp2_with fail
    rw [← HWW.out]
    go_ret
    obtain ⟨f1, f2, f3⟩ := FIN.out
    exact ⟨congrArg Ending.returned f1, f2, f3⟩
  · have h1' : ¬ (16 : Int) ≤ (xa : Int) := by omega
    by_cases h2 : xt < xf
    · have FIN := hide (FINS.out 1 (by unfold whyL; rw [if_pos (.inr h2)]) (by decide) W HFW.out)
      have h2' : (xt : Int) < (xf : Int) := by omega
      clear FINS
      go_enter Tryd.func16, Tryd.ntmps16
      go_wp2_with fail
      rw [← HWW.out]
      go_ret
      obtain ⟨f1, f2, f3⟩ := FIN.out
      exact ⟨congrArg Ending.returned f1, f2, f3⟩
    · have h2' : ¬ (xt : Int) < (xf : Int) := by omega
      go_enter Tryd.func16, Tryd.ntmps16
      go_wp2_with fail
      rw [← HWW.out]
      clear c0 c1 c2 HWW
      go_loopw [5, 6] (fun p i wr => ∃ k q : Nat, k ≤ n ∧ i = .int .i64 k ∧ p = .int .i64 q ∧ AtInv D ⟨xa, xf, xt, xl⟩ k q ∧ Frm (fun _ => False) W wr) (fun _ i _ => n - (intOf i).toNat)
      case atStart => exact ⟨0, 0, by omega, rfl, rfl, AtInv.zero _ _, Frm.refl _ _⟩
      case round =>
        obtain ⟨k, p, hk, rfl, rfl, hi, hf⟩ := hrel
        have HI := hide hi
        have HFr := hide hf
        have HF := hide (frm_false_trans HFW.out hf)
        have d0 : wr.cell? ⟨g, 0, none⟩ = some (.slice A n c) := (HBG.out.frm HF.out (fun h => h)).cell 0
        clear hi hf
        by_cases hlt : k < n
        · have hlt' : (k : Int) < (n : Int) := by omega
          obtain ⟨gr, rfl, _, hgr, hcells⟩ := HQ.out.cells (by omega)
          obtain ⟨y, hy⟩ : ∃ y, y = D.getD k default := ⟨_, rfl⟩
          have hyc : ∀ q u, (recC y)[q]? = some u → wr.cell? ((⟨gr, k * 4, none⟩ : Addr).add q) = some u := fun q u hq => by
            have hq4 : q < 4 := by have := (List.getElem?_eq_some_iff.1 hq).1; rwa [recC_length] at this
            have h1 := hcells k q hlt hq4
            rw [← hy, hq] at h1
            rw [Addr.add_mid]
            exact cell_frm HF.out h1 (fun h => h)
          have HY := hide hy
          have HKN : Hid (k < D.length) := by show _ < _; rw [HN.out]; exact hlt
          have hyok := HOK.out.ok y (by rw [hy]; exact getD_mem HKN.out)
          have HYO := hide hyok
          have hyt := hyok.ft
          clear hy hcells hyok
          obtain ⟨mx, hmx⟩ : ∃ m : Nat, m = max y.f xf := ⟨_, rfl⟩
          obtain ⟨mn, hmn⟩ : ∃ m : Nat, m = min y.t xt := ⟨_, rfl⟩
          have HMX : Hid ((mx : Int) = if (xf : Int) > (y.f : Int) then (xf : Int) else (y.f : Int)) := by show _ = _; split <;> omega
          have HMN : Hid ((mn : Int) = if (xt : Int) < (y.t : Int) then (xt : Int) else (y.t : Int)) := by show _ = _; split <;> omega
          have HCL : Hid (clashP y ⟨xa, xf, xt, xl⟩ ↔ y.a = xa ∧ mx ≤ mn) := by show _ ↔ _; rw [hmx, hmn]; exact Iff.rfl
          clear hmx hmn
          have HBXr := hide (HBX.out.frm HFr.out (fun h => h))
          clear HBX
          by_cases ha : y.a = xa
          · have ha' : (y.a : Int) = (xa : Int) := by omega
            by_cases hm : mx ≤ mn
            · have hm' : (mx : Int) ≤ (mn : Int) := by omega
              have FIN := hide (fun w1 f => FINS.out 12 (why_clash HOK.out (Nat.lt_of_not_le h1) (Nat.le_of_not_lt h2) HKN.out (by rw [← HY.out]; exact HCL.out.2 ⟨ha, hm⟩)) (by decide) w1 f)
              clear FINS
              go_wp2_with (first
                | (with_reducible refine wpl_loadq (op := ⟨some 33, _, _, _, _, _⟩) rfl (.tmp 32) rfl ⟨gr, k * 4, none⟩ rfl y hyc ?_)
                | ((with_reducible refine wpl_alloca (op := ⟨some 7, _, _, _, _, _⟩) rfl _ rfl _ zeroQ ?_); intro g7 w2 hB2 hs2 hF2)
                | ((refine wpl_storea aggQ rfl (.tmp 7) (.tmp 33) rfl g7 (recC y) rfl rfl _ _ hB2 rfl rfl (recC_one _) ?_); intro w3 hB3 hF3; have e0 : w3.cell? ⟨g7, 0, none⟩ = some (.int .u16 (y.a : Int)) := hB3.cell 0; have e1 : w3.cell? ⟨g7, 1, none⟩ = some (.int .u32 (y.f : Int)) := hB3.cell 1; have e2 : w3.cell? ⟨g7, 2, none⟩ = some (.int .u32 (y.t : Int)) := hB3.cell 2; have hBX3 := HBXr.out.frm (frm_join wr hF2 hF3 (fun i hi => by omega)).out (fun h => h); have k0 : w3.cell? ⟨w.heap.size, 0, none⟩ = some (.int .u16 (xa : Int)) := hBX3.cell 0; have k1 : w3.cell? ⟨w.heap.size, 1, none⟩ = some (.int .u32 (xf : Int)) := hBX3.cell 1; have k2 : w3.cell? ⟨w.heap.size, 2, none⟩ = some (.int .u32 (xt : Int)) := hBX3.cell 2)
                | (with_reducible refine wplk_max (op := ⟨some 44, _, _, _, _, _⟩) _ _ _ _ rfl _ .u32 _ _ (mx : Int) rfl rfl HMX.out rfl ?_)
                | (with_reducible refine wplk_min (op := ⟨some 49, _, _, _, _, _⟩) _ _ _ _ rfl _ .u32 _ _ (mn : Int) rfl rfl HMN.out rfl ?_)
                | (with_reducible refine wpl_loada (op := ⟨some 52, _, _, _, _, _⟩) aggQ rfl (.tmp 7) rfl g7 0 rfl _ (recC y) (recC y) hB3 rfl (Nat.le_refl _) ?_)
                | (with_reducible refine wpl_loada (op := ⟨some 53, _, _, _, _, _⟩) aggQ rfl (.tmp 3) rfl w.heap.size 0 rfl _ [.int .u16 (xa : Int), .int .u32 (xf : Int), .int .u32 (xt : Int), .int .u32 (xl : Int)] [.int .u16 (xa : Int), .int .u32 (xf : Int), .int .u32 (xt : Int), .int .u32 (xl : Int)] hBX3 (take4 _ _ _ _) (len4 _ _ _ _) ?_))
              go_ret
              obtain ⟨f1, f2, f3⟩ := FIN.out w3 (frm_false_trans HF.out (frm_join wr hF2 hF3 (fun i hi => by omega)).out)
              exact ⟨congrArg Ending.returned f1, f2, f3⟩
            · have hm' : ¬ (mx : Int) ≤ (mn : Int) := by omega
              have HNC : Hid (¬ clashP (D.getD k default) ⟨xa, xf, xt, xl⟩) := by show ¬ _; rw [← HY.out, HCL.out]; exact fun h => hm h.2
              go_wp2_with (first
                | (with_reducible refine wpl_loadq (op := ⟨some 33, _, _, _, _, _⟩) rfl (.tmp 32) rfl ⟨gr, k * 4, none⟩ rfl y hyc ?_)
                | ((with_reducible refine wpl_alloca (op := ⟨some 7, _, _, _, _, _⟩) rfl _ rfl _ zeroQ ?_); intro g7 w2 hB2 hs2 hF2)
                | ((refine wpl_storea aggQ rfl (.tmp 7) (.tmp 33) rfl g7 (recC y) rfl rfl _ _ hB2 rfl rfl (recC_one _) ?_); intro w3 hB3 hF3; have e0 : w3.cell? ⟨g7, 0, none⟩ = some (.int .u16 (y.a : Int)) := hB3.cell 0; have e1 : w3.cell? ⟨g7, 1, none⟩ = some (.int .u32 (y.f : Int)) := hB3.cell 1; have e2 : w3.cell? ⟨g7, 2, none⟩ = some (.int .u32 (y.t : Int)) := hB3.cell 2; have hBX3 := HBXr.out.frm (frm_join wr hF2 hF3 (fun i hi => by omega)).out (fun h => h); have k0 : w3.cell? ⟨w.heap.size, 0, none⟩ = some (.int .u16 (xa : Int)) := hBX3.cell 0; have k1 : w3.cell? ⟨w.heap.size, 1, none⟩ = some (.int .u32 (xf : Int)) := hBX3.cell 1; have k2 : w3.cell? ⟨w.heap.size, 2, none⟩ = some (.int .u32 (xt : Int)) := hBX3.cell 2)
                | (with_reducible refine wplk_max (op := ⟨some 44, _, _, _, _, _⟩) _ _ _ _ rfl _ .u32 _ _ (mx : Int) rfl rfl HMX.out rfl ?_)
                | (with_reducible refine wplk_min (op := ⟨some 49, _, _, _, _, _⟩) _ _ _ _ rfl _ .u32 _ _ (mn : Int) rfl rfl HMN.out rfl ?_)
                | (with_reducible refine wpl_loada (op := ⟨some 52, _, _, _, _, _⟩) aggQ rfl (.tmp 7) rfl g7 0 rfl _ (recC y) (recC y) hB3 rfl (Nat.le_refl _) ?_)
                | (with_reducible refine wpl_loada (op := ⟨some 53, _, _, _, _, _⟩) aggQ rfl (.tmp 3) rfl w.heap.size 0 rfl _ [.int .u16 (xa : Int), .int .u32 (xf : Int), .int .u32 (xt : Int), .int .u32 (xl : Int)] [.int .u16 (xa : Int), .int .u32 (xf : Int), .int .u32 (xt : Int), .int .u32 (xl : Int)] hBX3 (take4 _ _ _ _) (len4 _ _ _ _) ?_))
              have HL := hide (less_any y ⟨xa, xf, xt, xl⟩ w3)
              have HF3 := hide (frm_false_trans HFr.out (frm_join wr hF2 hF3 (fun i hi => by omega)).out)
              clear e0 e1 e2 k0 k1 k2 hBX3 hB2 hB3 hF2 hF3 hyc d0
              by_cases hl : y.lt ⟨xa, xf, xt, xl⟩
              · have HI2 := hide (HI.out.yes HOK.out.sorted HKN.out HNC.out (by rw [← HY.out]; exact hl))
                rw [decide_eq_true hl] at HL
                refine HL.out.mono ?_
                rintro e_ w4 ⟨rfl, f4⟩
                have HF4 := hide (frm_false_trans HF3.out f4)
                clear f4 HL
                go_wp2_with fail
                go_roundw
                case rel => exact ⟨k + 1, k + 1, by omega, by go_num, by go_num, HI2.out, HF4.out⟩
                case measure => simp [intOf]; omega
              · have HI2 := hide (HI.out.nope HNC.out (by rw [← HY.out]; exact hl))
                rw [decide_eq_false hl] at HL
                refine HL.out.mono ?_
                rintro e_ w4 ⟨rfl, f4⟩
                have HF4 := hide (frm_false_trans HF3.out f4)
                clear f4 HL
                go_wp2_with fail
                go_roundw
                case rel => exact ⟨k + 1, p, by omega, by go_num, rfl, HI2.out, HF4.out⟩
                case measure => simp [intOf]; omega
          · have ha' : ¬ (y.a : Int) = (xa : Int) := by omega
            have HNC : Hid (¬ clashP (D.getD k default) ⟨xa, xf, xt, xl⟩) := by show ¬ _; rw [← HY.out, HCL.out]; exact fun h => ha h.1
            go_wp2_with (first
              | (with_reducible refine wpl_loadq (op := ⟨some 33, _, _, _, _, _⟩) rfl (.tmp 32) rfl ⟨gr, k * 4, none⟩ rfl y hyc ?_)
              | ((with_reducible refine wpl_alloca (op := ⟨some 7, _, _, _, _, _⟩) rfl _ rfl _ zeroQ ?_); intro g7 w2 hB2 hs2 hF2)
              | ((refine wpl_storea aggQ rfl (.tmp 7) (.tmp 33) rfl g7 (recC y) rfl rfl _ _ hB2 rfl rfl (recC_one _) ?_); intro w3 hB3 hF3; have e0 : w3.cell? ⟨g7, 0, none⟩ = some (.int .u16 (y.a : Int)) := hB3.cell 0; have e1 : w3.cell? ⟨g7, 1, none⟩ = some (.int .u32 (y.f : Int)) := hB3.cell 1; have e2 : w3.cell? ⟨g7, 2, none⟩ = some (.int .u32 (y.t : Int)) := hB3.cell 2; have hBX3 := HBXr.out.frm (frm_join wr hF2 hF3 (fun i hi => by omega)).out (fun h => h); have k0 : w3.cell? ⟨w.heap.size, 0, none⟩ = some (.int .u16 (xa : Int)) := hBX3.cell 0; have k1 : w3.cell? ⟨w.heap.size, 1, none⟩ = some (.int .u32 (xf : Int)) := hBX3.cell 1; have k2 : w3.cell? ⟨w.heap.size, 2, none⟩ = some (.int .u32 (xt : Int)) := hBX3.cell 2)
              | (with_reducible refine wplk_max (op := ⟨some 44, _, _, _, _, _⟩) _ _ _ _ rfl _ .u32 _ _ (mx : Int) rfl rfl HMX.out rfl ?_)
              | (with_reducible refine wplk_min (op := ⟨some 49, _, _, _, _, _⟩) _ _ _ _ rfl _ .u32 _ _ (mn : Int) rfl rfl HMN.out rfl ?_)
              | (with_reducible refine wpl_loada (op := ⟨some 52, _, _, _, _, _⟩) aggQ rfl (.tmp 7) rfl g7 0 rfl _ (recC y) (recC y) hB3 rfl (Nat.le_refl _) ?_)
              | (with_reducible refine wpl_loada (op := ⟨some 53, _, _, _, _, _⟩) aggQ rfl (.tmp 3) rfl w.heap.size 0 rfl _ [.int .u16 (xa : Int), .int .u32 (xf : Int), .int .u32 (xt : Int), .int .u32 (xl : Int)] [.int .u16 (xa : Int), .int .u32 (xf : Int), .int .u32 (xt : Int), .int .u32 (xl : Int)] hBX3 (take4 _ _ _ _) (len4 _ _ _ _) ?_))
            have HL := hide (less_any y ⟨xa, xf, xt, xl⟩ w3)
            have HF3 := hide (frm_false_trans HFr.out (frm_join wr hF2 hF3 (fun i hi => by omega)).out)
            clear e0 e1 e2 k0 k1 k2 hBX3 hB2 hB3 hF2 hF3 hyc d0
            by_cases hl : y.lt ⟨xa, xf, xt, xl⟩
            · have HI2 := hide (HI.out.yes HOK.out.sorted HKN.out HNC.out (by rw [← HY.out]; exact hl))
              rw [decide_eq_true hl] at HL
              refine HL.out.mono ?_
              rintro e_ w4 ⟨rfl, f4⟩
              have HF4 := hide (frm_false_trans HF3.out f4)
              clear f4 HL
              go_wp2_with fail
              go_roundw
              case rel => exact ⟨k + 1, k + 1, by omega, by go_num, by go_num, HI2.out, HF4.out⟩
              case measure => simp [intOf]; omega
            · have HI2 := hide (HI.out.nope HNC.out (by rw [← HY.out]; exact hl))
              rw [decide_eq_false hl] at HL
              refine HL.out.mono ?_
              rintro e_ w4 ⟨rfl, f4⟩
              have HF4 := hide (frm_false_trans HF3.out f4)
              clear f4 HL
              go_wp2_with fail
              go_roundw
              case rel => exact ⟨k + 1, p, by omega, by go_num, rfl, HI2.out, HF4.out⟩
              case measure => simp [intOf]; omega
        · obtain rfl : k = n := by omega
          have hlt' : ¬ (k : Int) < (k : Int) := by omega
          have HI2 := hide HI.out
          have hpn : p ≤ k := HI.out.le
          have hinv := HI.out
          rw [← HN.out] at hinv
          by_cases h64 : 64 ≤ k
          · have FIN := hide (FINS.out 8 (hinv.full HOK.out (Nat.lt_of_not_le h1) (Nat.le_of_not_lt h2) (by rw [HN.out]; exact h64)) (by decide) wr HF.out)
            have h64' : (64 : Int) ≤ (k : Int) := by omega
            clear FINS hinv
            go_wp2_with fail
            go_ret
            obtain ⟨f1, f2, f3⟩ := FIN.out
            exact ⟨congrArg Ending.returned f1, f2, f3⟩
          · have h64' : ¬ (64 : Int) ≤ (k : Int) := by omega
            have hfit := hinv.fits HOK.out (Nat.lt_of_not_le h1) (Nat.le_of_not_lt h2) (by rw [HN.out]; omega)
            have HWHY := hide hfit.1
            have HADD0 := HADDS.out
            have hq2 := hfit.2
            rw [hfit.2] at HADD0
            have e3 : D.take p ++ ⟨xa, xf, xt, xl⟩ :: D.drop p = (D.take p ++ [⟨xa, xf, xt, xl⟩]) ++ D.drop p := by simp
            rw [e3] at HADD0 hq2
            have HEQ := hide hq2
            have HADD := hide HADD0
            have HS : Hid (∀ W', Frm (fun _ => False) wr W' → W'.cell? ⟨g, 0, none⟩ = some (.slice A k c) ∧ W'.cell? ⟨w.heap.size, 0, none⟩ = some (.int .u16 (xa : Int)) ∧ W'.cell? ⟨w.heap.size, 1, none⟩ = some (.int .u32 (xf : Int)) ∧ W'.cell? ⟨w.heap.size, 2, none⟩ = some (.int .u32 (xt : Int)) ∧ W'.cell? ⟨w.heap.size, 3, none⟩ = some (.int .u32 (xl : Int))) := fun W' f =>
              ⟨(HBG.out.frm (frm_false_trans HF.out f) (fun h => h)).cell 0, keepQ (HBX.out.frm (frm_false_trans HFr.out f) (fun h => h))⟩
            have hcut0 : ∀ w, (Instr.sliceAt 30 (.slice A k c) none (some (.int .i64 (p : Int))) none).run Tryd.prog w = .ok (.slice A p c) w := qcut0 A k c p (by have := HQ.out.cap; omega)
            obtain ⟨X1, hX1⟩ : ∃ X1, X1 = (if c = p then A else A.map (·.add (p * 4))) := ⟨_, rfl⟩
            have hcut1 : ∀ w, (Instr.sliceAt 30 (.slice A k c) (some (.int .i64 (p : Int))) none none).run Tryd.prog w = .ok (.slice X1 (k - p) (c - p)) w := by rw [hX1]; exact qcut1 A k c p hpn
            have hszr : w0.heap.size ≤ wr.heap.size := by have := HF.out.size; omega
            have HX1 := hide hX1
            clear hfit HADD0 hq2 e3 hinv FINS hX1
            go_wp2_with fail
            refine wp_region_x (S := fun W => W.cell? ⟨g, 0, none⟩ = some (.slice A k c) ∧ W.cell? ⟨w.heap.size, 0, none⟩ = some (.int .u16 (xa : Int)) ∧ W.cell? ⟨w.heap.size, 1, none⟩ = some (.int .u32 (xf : Int)) ∧ W.cell? ⟨w.heap.size, 2, none⟩ = some (.int .u32 (xt : Int)) ∧ W.cell? ⟨w.heap.size, 3, none⟩ = some (.int .u32 (xl : Int))) [21] (by kernel_rfl) (HS.out _ ((Frm.refl _ _).drew)) ?_
            intro hHeld
            obtain ⟨W0, hW0⟩ : ∃ W', W' = wr.drew := ⟨_, rfl⟩
            have fr_W0 : Frm (fun _ => False) wr W0 := by rw [hW0]; exact (Frm.refl _ _).drew
            rw [← hW0] at hHeld ⊢
            clear hW0
            refine anyX_take [21, 20, 19, 0] (i := 0) (v := ?v1) rfl (by kernel_rfl) (by kernel_rfl) (by kernel_rfl) (by kernel_rfl) (by kernel_rfl) (by kernel_rfl) (by kernel_rfl) (fun _ _ _ h => h) (Or.inl ⟨by rfl, ?hy1⟩) (by assumption) ?rest1
            case hy1 => (intro w hSw; (try dsimp only at hSw); go_simp; try with_reducible rfl)
            try simp only [Act.put, List.getElem_toArray, List.getElem_cons_zero, List.getElem_cons_succ, List.setIfInBounds_toArray, List.set_cons_zero, List.set_cons_succ]
            refine anyX_take [21, 18, 11, 8, 7, 5, 4, 3, 2] (i := 2) (v := ?v2) rfl (by kernel_rfl) (by kernel_rfl) (by kernel_rfl) (by kernel_rfl) (by kernel_rfl) (by kernel_rfl) (by kernel_rfl) (fun _ _ _ h => h) (Or.inl ⟨by rfl, ?hy2⟩) (by assumption) ?rest2
            case hy2 => (intro w hSw; (try dsimp only at hSw); go_simp; try with_reducible rfl)
            try simp only [Act.put, List.getElem_toArray, List.getElem_cons_zero, List.getElem_cons_succ, List.setIfInBounds_toArray, List.set_cons_zero, List.set_cons_succ]
            refine anyX_take [21, 18, 11, 8, 7, 5, 4, 3] (i := 3) (v := ?v3) rfl (by kernel_rfl) (by kernel_rfl) (by kernel_rfl) (by kernel_rfl) (by kernel_rfl) (by kernel_rfl) (by kernel_rfl) (fun _ _ _ h => h) (Or.inl ⟨by rfl, ?hy3⟩) (by assumption) ?rest3
            case hy3 => (intro w hSw; (try dsimp only at hSw); go_simp; try with_reducible rfl)
            try simp only [Act.put, List.getElem_toArray, List.getElem_cons_zero, List.getElem_cons_succ, List.setIfInBounds_toArray, List.set_cons_zero, List.set_cons_succ]
            refine anyX_take [21, 18, 11, 8, 7, 5, 4] (i := 4) (v := ?v4) rfl (by kernel_rfl) (by kernel_rfl) (by kernel_rfl) (by kernel_rfl) (by kernel_rfl) (by kernel_rfl) (by kernel_rfl) (fun _ _ _ h => h) (Or.inl ⟨by rfl, ?hy4⟩) (by assumption) ?rest4
            case hy4 => (intro w hSw; (try dsimp only at hSw); go_simp; try with_reducible rfl)
            try simp only [Act.put, List.getElem_toArray, List.getElem_cons_zero, List.getElem_cons_succ, List.setIfInBounds_toArray, List.set_cons_zero, List.set_cons_succ]
            refine anyX_take [21, 18, 11, 8, 7, 5] (i := 5) (v := ?v5) rfl (by kernel_rfl) (by kernel_rfl) (by kernel_rfl) (by kernel_rfl) (by kernel_rfl) (by kernel_rfl) (by kernel_rfl) (fun _ _ _ h => h) (Or.inl ⟨by rfl, ?hy5⟩) (by assumption) ?rest5
            case hy5 => (intro w hSw; (try dsimp only at hSw); go_simp; try with_reducible rfl)
            try simp only [Act.put, List.getElem_toArray, List.getElem_cons_zero, List.getElem_cons_succ, List.setIfInBounds_toArray, List.set_cons_zero, List.set_cons_succ]
            refine anyX_take [21, 18, 11, 8, 7, 6] (i := 6) (v := ?v6) rfl (by kernel_rfl) (by kernel_rfl) (by kernel_rfl) (by kernel_rfl) (by kernel_rfl) (by kernel_rfl) (by kernel_rfl) (fun _ _ _ h => h) (Or.inl ⟨by rfl, ?hy6⟩) (by assumption) ?rest6
            case hy6 => (intro w hSw; (try dsimp only at hSw); go_simp; try with_reducible rfl)
            try simp only [Act.put, List.getElem_toArray, List.getElem_cons_zero, List.getElem_cons_succ, List.setIfInBounds_toArray, List.set_cons_zero, List.set_cons_succ]
            refine anyX_take [21, 18, 11, 8, 7] (i := 7) (v := ?v7) rfl (by kernel_rfl) (by kernel_rfl) (by kernel_rfl) (by kernel_rfl) (by kernel_rfl) (by kernel_rfl) (by kernel_rfl) (fun _ _ _ h => h) (Or.inl ⟨by rfl, ?hy7⟩) (by assumption) ?rest7
            case hy7 => (intro w hSw; (try dsimp only at hSw); go_simp; try with_reducible rfl)
            try simp only [Act.put, List.getElem_toArray, List.getElem_cons_zero, List.getElem_cons_succ, List.setIfInBounds_toArray, List.set_cons_zero, List.set_cons_succ]
            refine anyX_take [21, 18, 11, 10, 9] (i := 9) (v := ?v8) rfl (by kernel_rfl) (by kernel_rfl) (by kernel_rfl) (by kernel_rfl) (by kernel_rfl) (by kernel_rfl) (by kernel_rfl) (fun _ _ _ h => h) (Or.inl ⟨by rfl, ?hy8⟩) (by assumption) ?rest8
            case hy8 => (intro w hSw; (try dsimp only at hSw); go_simp; try with_reducible rfl)
            try simp only [Act.put, List.getElem_toArray, List.getElem_cons_zero, List.getElem_cons_succ, List.setIfInBounds_toArray, List.set_cons_zero, List.set_cons_succ]
            refine anyX_take [21, 18, 17, 15, 14, 13, 12] (i := 12) (v := ?v9) rfl (by kernel_rfl) (by kernel_rfl) (by kernel_rfl) (by kernel_rfl) (by kernel_rfl) (by kernel_rfl) (by kernel_rfl) (fun _ _ _ h => h) (Or.inl ⟨by rfl, ?hy9⟩) (by assumption) ?rest9
            case hy9 => (intro w hSw; (try dsimp only at hSw); go_simp; try with_reducible rfl)
            try simp only [Act.put, List.getElem_toArray, List.getElem_cons_zero, List.getElem_cons_succ, List.setIfInBounds_toArray, List.set_cons_zero, List.set_cons_succ]
            refine anyX_take [21, 18, 17, 15, 14, 13] (i := 13) (v := ?v10) rfl (by kernel_rfl) (by kernel_rfl) (by kernel_rfl) (by kernel_rfl) (by kernel_rfl) (by kernel_rfl) (by kernel_rfl) (fun _ _ _ h => h) (Or.inl ⟨by rfl, ?hy10⟩) (by assumption) ?rest10
            case hy10 => (intro w hSw; (try dsimp only at hSw); go_simp; try with_reducible rfl)
            try simp only [Act.put, List.getElem_toArray, List.getElem_cons_zero, List.getElem_cons_succ, List.setIfInBounds_toArray, List.set_cons_zero, List.set_cons_succ]
            refine anyX_take [21, 18, 17, 15, 14] (i := 14) (v := ?v11) rfl (by kernel_rfl) (by kernel_rfl) (by kernel_rfl) (by kernel_rfl) (by kernel_rfl) (by kernel_rfl) (by kernel_rfl) (fun _ _ _ h => h) (Or.inl ⟨by rfl, ?hy11⟩) (by assumption) ?rest11
            case hy11 => (intro w hSw; (try dsimp only at hSw); go_simp; try with_reducible rfl)
            try simp only [Act.put, List.getElem_toArray, List.getElem_cons_zero, List.getElem_cons_succ, List.setIfInBounds_toArray, List.set_cons_zero, List.set_cons_succ]
            refine anyX_take [21, 18, 17, 15] (i := 15) (v := ?v12) rfl (by kernel_rfl) (by kernel_rfl) (by kernel_rfl) (by kernel_rfl) (by kernel_rfl) (by kernel_rfl) (by kernel_rfl) (fun _ _ _ h => h) (Or.inl ⟨by rfl, ?hy12⟩) (by assumption) ?rest12
            case hy12 => (intro w hSw; (try dsimp only at hSw); go_simp; try with_reducible rfl)
            try simp only [Act.put, List.getElem_toArray, List.getElem_cons_zero, List.getElem_cons_succ, List.setIfInBounds_toArray, List.set_cons_zero, List.set_cons_succ]
            refine anyX_take [21, 18, 17, 16] (i := 16) (v := ?v13) rfl (by kernel_rfl) (by kernel_rfl) (by kernel_rfl) (by kernel_rfl) (by kernel_rfl) (by kernel_rfl) (by kernel_rfl) (fun _ _ _ h => h) (Or.inl ⟨by rfl, ?hy13⟩) (by assumption) ?rest13
            case hy13 => (intro w hSw; (try dsimp only at hSw); go_simp; try with_reducible rfl)
            try simp only [Act.put, List.getElem_toArray, List.getElem_cons_zero, List.getElem_cons_succ, List.setIfInBounds_toArray, List.set_cons_zero, List.set_cons_succ]
            refine anyX_take [21, 18, 17] (i := 17) (v := ?v14) rfl (by kernel_rfl) (by kernel_rfl) (by kernel_rfl) (by kernel_rfl) (by kernel_rfl) (by kernel_rfl) (by kernel_rfl) (fun _ _ _ h => h) (Or.inl ⟨by rfl, ?hy14⟩) (by assumption) ?rest14
            case hy14 => (intro w hSw; (try dsimp only at hSw); go_simp; try with_reducible rfl)
            try simp only [Act.put, List.getElem_toArray, List.getElem_cons_zero, List.getElem_cons_succ, List.setIfInBounds_toArray, List.set_cons_zero, List.set_cons_succ]
            refine anyX_ready (rs := [1, 10]) (by kernel_rfl) (by simp) ?_
            refine AllX.cons rfl rfl (fun K hK => ?_) ?_
            · go_simp
              have r1 := RowSt.made fr_W0
              generalize hW : W0.alloc (.cells #[] 40) = W1 at r1 ⊢
              refine hK.out _ _ (HS.out _ r1.fr) (fun hHeld => ?_)
              clear hK K
              refine anyX_ready (rs := [8, 10]) (by kernel_rfl) (by simp) ?_
              refine AllX.cons rfl rfl (fun K hK => ?_) ?_
              · refine step_appS rfl (.tmp 64) (.tmp 70) rfl _ _ _ 0 _ [] rfl r1.row A p c (D.take p) rfl ((HQ.out.frm0 (frm_false_trans HF.out r1.fr)).src0 p hpn) (p) (by omega) (by omega) r1.fr.size ?_
                intro A2 c2 W2 q2 f2 o2
                have r2 := r1.app q2 f2
                clear q2 f2 o2
                refine hK.out _ _ (HS.out _ r2.fr) (fun hHeld => ?_)
                clear hK K
                refine anyX_ready (rs := [10]) (by kernel_rfl) (by simp) ?_
                refine AllX.cons rfl rfl (fun K hK => ?_) AllX.nil
                go_simp
                have rr := RowSt.one (x := ⟨xa, xf, xt, xl⟩) r2
                have uu := OneSt.one (x := ⟨xa, xf, xt, xl⟩) r2
                simp only [recC] at rr uu
                generalize hW : W2.alloc (.cells #[.int .u16 (xa : Int), .int .u32 (xf : Int), .int .u32 (xt : Int), .int .u32 (xl : Int)] 40) = W2b at rr uu ⊢
                obtain ⟨g10, hg10⟩ : ∃ g, g = W2.heap.size := ⟨_, rfl⟩
                rw [← hg10] at uu ⊢
                clear hg10 hW
                refine hK.out _ _ (HS.out _ rr.fr) (fun hHeld => ?_)
                clear hK K
                refine anyX_ready (rs := [11]) (by kernel_rfl) (by simp) ?_
                refine AllX.cons rfl rfl (fun K hK => ?_) AllX.nil
                refine step_appS rfl (.tmp 71) (.tmp 73) rfl _ _ A2 p c2 (D.take p) rfl rr.row (some ⟨g10, 0, none⟩) 1 1 [⟨xa, xf, xt, xl⟩] rfl (SrcQ.one uu.blk) (p + 1) (by omega) (by omega) rr.fr.size ?_
                intro A3 c3 W3 q2 f2 o2
                have r3 := rr.app q2 f2
                clear q2 f2 o2
                refine hK.out _ _ (HS.out _ r3.fr) (fun hHeld => ?_)
                clear hK K
                refine anyX_ready (rs := [18]) (by kernel_rfl) (by simp) ?_
                refine AllX.cons rfl rfl (fun K hK => ?_) AllX.nil
                refine step_appS rfl (.tmp 74) (.tmp 80) rfl _ _ A3 (p + 1) c3 (D.take p ++ [⟨xa, xf, xt, xl⟩]) rfl r3.row X1 (k - p) (c - p) (D.drop p) rfl (HX1.out ▸ (HQ.out.frm0 (frm_false_trans HF.out r3.fr)).src1 p hpn) (k + 1) (by omega) (by omega) r3.fr.size ?_
                intro A4 c4 W4 q2 f2 o2
                have r4 := r3.app q2 f2
                clear q2 f2 o2
                have hb4 : Blk W4 g 32 #[.slice A k c] := (HBG.out.frm (frm_false_trans HF.out r4.fr) (fun h => h))
                have hd4 : W4.cell? ⟨g, 0, none⟩ = some (.slice A k c) := hb4.cell 0
                have hfz4 : W4.frozen? ⟨g, 0, none⟩ = false := hb4.frozen 0
                refine hK.out _ _ (HS.out _ r4.fr) (fun hHeld => ?_)
                clear hK K
                refine anyX_take [21, 20, 19] (i := 19) (v := ?v15) rfl (by kernel_rfl) (by kernel_rfl) (by kernel_rfl) (by kernel_rfl) (by kernel_rfl) (by kernel_rfl) (by kernel_rfl) (fun _ _ _ h => h) (Or.inl ⟨by rfl, ?hy15⟩) (by assumption) ?rest15
                case hy15 => (intro w hSw; (try dsimp only at hSw); go_simp; try with_reducible rfl)
                try simp only [Act.put, List.getElem_toArray, List.getElem_cons_zero, List.getElem_cons_succ, List.setIfInBounds_toArray, List.set_cons_zero, List.set_cons_succ]
                refine anyX_take [21, 20] (i := 20) (v := ?v16) rfl (by kernel_rfl) (by kernel_rfl) (by kernel_rfl) (by kernel_rfl) (by kernel_rfl) (by kernel_rfl) (by kernel_rfl) (fun _ _ _ h => h) (Or.inl ⟨by rfl, ?hy16⟩) (by assumption) ?rest16
                case hy16 => (intro w hSw; (try dsimp only at hSw); go_simp; try with_reducible rfl)
                try simp only [Act.put, List.getElem_toArray, List.getElem_cons_zero, List.getElem_cons_succ, List.setIfInBounds_toArray, List.set_cons_zero, List.set_cons_succ]
                refine anyX_ready (rs := [21]) (by kernel_rfl) (by simp) ?_
                refine AllX.last rfl rfl (fun K hK => ?_)
                go_simp
                refine hK.out _ _ ?_
                clear hK K
                refine anyX_done (by kernel_rfl) ?_ _
                have FIN := hide (RDir.put HD.out (frm_false_trans HF.out r4.fr) r4.row HADD.out hszr)
                clear hHeld r1 r2 r3 r4 HQ HF hb4
                go_wp2_with fail
                go_ret
                exact ⟨by rw [HWHY.out]; rfl, by rw [HEQ.out]; exact FIN.out.1, FIN.out.2⟩
              refine AllX.cons rfl rfl (fun K hK => ?_) AllX.nil
              go_simp
              have rr := RowSt.one (x := ⟨xa, xf, xt, xl⟩) r1
              have uu := OneSt.one (x := ⟨xa, xf, xt, xl⟩) r1
              simp only [recC] at rr uu
              generalize hW : W1.alloc (.cells #[.int .u16 (xa : Int), .int .u32 (xf : Int), .int .u32 (xt : Int), .int .u32 (xl : Int)] 40) = W1b at rr uu ⊢
              obtain ⟨g10, hg10⟩ : ∃ g, g = W1.heap.size := ⟨_, rfl⟩
              rw [← hg10] at uu ⊢
              clear hg10 hW
              refine hK.out _ _ (HS.out _ rr.fr) (fun hHeld => ?_)
              clear hK K
              refine anyX_ready (rs := [8]) (by kernel_rfl) (by simp) ?_
              refine AllX.cons rfl rfl (fun K hK => ?_) AllX.nil
              refine step_appS rfl (.tmp 64) (.tmp 70) rfl _ _ _ 0 _ [] rfl rr.row A p c (D.take p) rfl ((HQ.out.frm0 (frm_false_trans HF.out rr.fr)).src0 p hpn) (p) (by omega) (by omega) rr.fr.size ?_
              intro A2 c2 W2 q2 f2 o2
              have r2 := rr.app q2 f2
              have u2 := uu.app f2 o2
              clear q2 f2 o2
              refine hK.out _ _ (HS.out _ r2.fr) (fun hHeld => ?_)
              clear hK K
              refine anyX_ready (rs := [11]) (by kernel_rfl) (by simp) ?_
              refine AllX.cons rfl rfl (fun K hK => ?_) AllX.nil
              refine step_appS rfl (.tmp 71) (.tmp 73) rfl _ _ A2 p c2 (D.take p) rfl r2.row (some ⟨g10, 0, none⟩) 1 1 [⟨xa, xf, xt, xl⟩] rfl (SrcQ.one u2.blk) (p + 1) (by omega) (by omega) r2.fr.size ?_
              intro A3 c3 W3 q2 f2 o2
              have r3 := r2.app q2 f2
              clear q2 f2 o2
              refine hK.out _ _ (HS.out _ r3.fr) (fun hHeld => ?_)
              clear hK K
              refine anyX_ready (rs := [18]) (by kernel_rfl) (by simp) ?_
              refine AllX.cons rfl rfl (fun K hK => ?_) AllX.nil
              refine step_appS rfl (.tmp 74) (.tmp 80) rfl _ _ A3 (p + 1) c3 (D.take p ++ [⟨xa, xf, xt, xl⟩]) rfl r3.row X1 (k - p) (c - p) (D.drop p) rfl (HX1.out ▸ (HQ.out.frm0 (frm_false_trans HF.out r3.fr)).src1 p hpn) (k + 1) (by omega) (by omega) r3.fr.size ?_
              intro A4 c4 W4 q2 f2 o2
              have r4 := r3.app q2 f2
              clear q2 f2 o2
              have hb4 : Blk W4 g 32 #[.slice A k c] := (HBG.out.frm (frm_false_trans HF.out r4.fr) (fun h => h))
              have hd4 : W4.cell? ⟨g, 0, none⟩ = some (.slice A k c) := hb4.cell 0
              have hfz4 : W4.frozen? ⟨g, 0, none⟩ = false := hb4.frozen 0
              refine hK.out _ _ (HS.out _ r4.fr) (fun hHeld => ?_)
              clear hK K
              refine anyX_take [21, 20, 19] (i := 19) (v := ?v17) rfl (by kernel_rfl) (by kernel_rfl) (by kernel_rfl) (by kernel_rfl) (by kernel_rfl) (by kernel_rfl) (by kernel_rfl) (fun _ _ _ h => h) (Or.inl ⟨by rfl, ?hy17⟩) (by assumption) ?rest17
              case hy17 => (intro w hSw; (try dsimp only at hSw); go_simp; try with_reducible rfl)
              try simp only [Act.put, List.getElem_toArray, List.getElem_cons_zero, List.getElem_cons_succ, List.setIfInBounds_toArray, List.set_cons_zero, List.set_cons_succ]
              refine anyX_take [21, 20] (i := 20) (v := ?v18) rfl (by kernel_rfl) (by kernel_rfl) (by kernel_rfl) (by kernel_rfl) (by kernel_rfl) (by kernel_rfl) (by kernel_rfl) (fun _ _ _ h => h) (Or.inl ⟨by rfl, ?hy18⟩) (by assumption) ?rest18
              case hy18 => (intro w hSw; (try dsimp only at hSw); go_simp; try with_reducible rfl)
              try simp only [Act.put, List.getElem_toArray, List.getElem_cons_zero, List.getElem_cons_succ, List.setIfInBounds_toArray, List.set_cons_zero, List.set_cons_succ]
              refine anyX_ready (rs := [21]) (by kernel_rfl) (by simp) ?_
              refine AllX.last rfl rfl (fun K hK => ?_)
              go_simp
              refine hK.out _ _ ?_
              clear hK K
              refine anyX_done (by kernel_rfl) ?_ _
              have FIN := hide (RDir.put HD.out (frm_false_trans HF.out r4.fr) r4.row HADD.out hszr)
              clear hHeld r1 r2 r3 r4 HQ HF hb4
              go_wp2_with fail
              go_ret
              exact ⟨by rw [HWHY.out]; rfl, by rw [HEQ.out]; exact FIN.out.1, FIN.out.2⟩
            refine AllX.cons rfl rfl (fun K hK => ?_) AllX.nil
            go_simp
            have u0 := Blk.new W0 40 #[.int .u16 (xa : Int), .int .u32 (xf : Int), .int .u32 (xt : Int), .int .u32 (xl : Int)]
            have fr_V0 : Frm (fun _ => False) wr (W0.alloc (.cells #[.int .u16 (xa : Int), .int .u32 (xf : Int), .int .u32 (xt : Int), .int .u32 (xl : Int)] 40)) := frm_false_trans fr_W0 (Frm.alloc _ _ _)
            generalize hW : W0.alloc (.cells #[.int .u16 (xa : Int), .int .u32 (xf : Int), .int .u32 (xt : Int), .int .u32 (xl : Int)] 40) = V0 at u0 fr_V0 ⊢
            obtain ⟨g10, hg10⟩ : ∃ g, g = W0.heap.size := ⟨_, rfl⟩
            rw [← hg10] at u0 ⊢
            clear hg10 hW
            refine hK.out _ _ (HS.out _ fr_V0) (fun hHeld => ?_)
            clear hK K
            refine anyX_ready (rs := [1]) (by kernel_rfl) (by simp) ?_
            refine AllX.cons rfl rfl (fun K hK => ?_) AllX.nil
            go_simp
            have r1 := RowSt.made fr_V0
            have u1 := OneSt.made (x := ⟨xa, xf, xt, xl⟩) u0
            generalize hW : V0.alloc (.cells #[] 40) = V1 at r1 u1 ⊢
            refine hK.out _ _ (HS.out _ r1.fr) (fun hHeld => ?_)
            clear hK K
            refine anyX_ready (rs := [8]) (by kernel_rfl) (by simp) ?_
            refine AllX.cons rfl rfl (fun K hK => ?_) AllX.nil
            refine step_appS rfl (.tmp 64) (.tmp 70) rfl _ _ _ 0 _ [] rfl r1.row A p c (D.take p) rfl ((HQ.out.frm0 (frm_false_trans HF.out r1.fr)).src0 p hpn) (p) (by omega) (by omega) r1.fr.size ?_
            intro A2 c2 W2 q2 f2 o2
            have r2 := r1.app q2 f2
            have u2 := u1.app f2 o2
            clear q2 f2 o2
            refine hK.out _ _ (HS.out _ r2.fr) (fun hHeld => ?_)
            clear hK K
            refine anyX_ready (rs := [11]) (by kernel_rfl) (by simp) ?_
            refine AllX.cons rfl rfl (fun K hK => ?_) AllX.nil
            refine step_appS rfl (.tmp 71) (.tmp 73) rfl _ _ A2 p c2 (D.take p) rfl r2.row (some ⟨g10, 0, none⟩) 1 1 [⟨xa, xf, xt, xl⟩] rfl (SrcQ.one u2.blk) (p + 1) (by omega) (by omega) r2.fr.size ?_
            intro A3 c3 W3 q2 f2 o2
            have r3 := r2.app q2 f2
            clear q2 f2 o2
            refine hK.out _ _ (HS.out _ r3.fr) (fun hHeld => ?_)
            clear hK K
            refine anyX_ready (rs := [18]) (by kernel_rfl) (by simp) ?_
            refine AllX.cons rfl rfl (fun K hK => ?_) AllX.nil
            refine step_appS rfl (.tmp 74) (.tmp 80) rfl _ _ A3 (p + 1) c3 (D.take p ++ [⟨xa, xf, xt, xl⟩]) rfl r3.row X1 (k - p) (c - p) (D.drop p) rfl (HX1.out ▸ (HQ.out.frm0 (frm_false_trans HF.out r3.fr)).src1 p hpn) (k + 1) (by omega) (by omega) r3.fr.size ?_
            intro A4 c4 W4 q2 f2 o2
            have r4 := r3.app q2 f2
            clear q2 f2 o2
            have hb4 : Blk W4 g 32 #[.slice A k c] := (HBG.out.frm (frm_false_trans HF.out r4.fr) (fun h => h))
            have hd4 : W4.cell? ⟨g, 0, none⟩ = some (.slice A k c) := hb4.cell 0
            have hfz4 : W4.frozen? ⟨g, 0, none⟩ = false := hb4.frozen 0
            refine hK.out _ _ (HS.out _ r4.fr) (fun hHeld => ?_)
            clear hK K
            refine anyX_take [21, 20, 19] (i := 19) (v := ?v19) rfl (by kernel_rfl) (by kernel_rfl) (by kernel_rfl) (by kernel_rfl) (by kernel_rfl) (by kernel_rfl) (by kernel_rfl) (fun _ _ _ h => h) (Or.inl ⟨by rfl, ?hy19⟩) (by assumption) ?rest19
            case hy19 => (intro w hSw; (try dsimp only at hSw); go_simp; try with_reducible rfl)
            try simp only [Act.put, List.getElem_toArray, List.getElem_cons_zero, List.getElem_cons_succ, List.setIfInBounds_toArray, List.set_cons_zero, List.set_cons_succ]
            refine anyX_take [21, 20] (i := 20) (v := ?v20) rfl (by kernel_rfl) (by kernel_rfl) (by kernel_rfl) (by kernel_rfl) (by kernel_rfl) (by kernel_rfl) (by kernel_rfl) (fun _ _ _ h => h) (Or.inl ⟨by rfl, ?hy20⟩) (by assumption) ?rest20
            case hy20 => (intro w hSw; (try dsimp only at hSw); go_simp; try with_reducible rfl)
            try simp only [Act.put, List.getElem_toArray, List.getElem_cons_zero, List.getElem_cons_succ, List.setIfInBounds_toArray, List.set_cons_zero, List.set_cons_succ]
            refine anyX_ready (rs := [21]) (by kernel_rfl) (by simp) ?_
            refine AllX.last rfl rfl (fun K hK => ?_)
            go_simp
            refine hK.out _ _ ?_
            clear hK K
            refine anyX_done (by kernel_rfl) ?_ _
            have FIN := hide (RDir.put HD.out (frm_false_trans HF.out r4.fr) r4.row HADD.out hszr)
            clear hHeld r1 r2 r3 r4 HQ HF hb4
            go_wp2_with fail
            go_ret
            exact ⟨by rw [HWHY.out]; rfl, by rw [HEQ.out]; exact FIN.out.1, FIN.out.2⟩
end Go.Proofs.YtjicnfkodieaaaaDoor
