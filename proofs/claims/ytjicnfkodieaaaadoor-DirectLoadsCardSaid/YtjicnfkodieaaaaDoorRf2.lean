/-
  The document's Valid and Find.
-/
import Derived.Test.YtjicnfkodieaaaaDoorDrQ
namespace Go.Proofs.YtjicnfkodieaaaaDoor
set_option linter.unusedVariables false
set_option linter.unusedSimpArgs false
open Go.RowKit

/-- A record of the document's in memory, loaded. -/
theorem wpl_loadq {ops : Array Oper} {rest : List Oper} {op : Oper} {a : Act} {w : World} {Q : Exit → Act → World → Prop} (hgd : op.guard = none) (x : Operand) (ho : op.op = .load 40 x)
    (ad : Addr) (hx : a.eval x = .pointer (some ad)) (r : Rec) (hc : ∀ q u, (recC r)[q]? = some u → w.cell? (ad.add q) = some u)
    (h : wpList Tryd.prog ops Q rest (a.put op.dst (recV r)) w) : wpList Tryd.prog ops Q (op :: rest) a w := by
  refine wpList_plain hgd fun _ hK => ?_
  obtain ⟨⟨d, hu, hd⟩, hi⟩ := aggQ
  have h1 : (loadCells ad (recC r).length).run Tryd.prog w = .ok (recC r).toArray w := run_loadCells_list (P := Tryd.prog) w ad (recC r) (fun j v hv => hc j v hv)
  have h2 : (loadVar 40 ad).run Tryd.prog w = .ok (.agg (recC r).toArray) w := by
    cases hq : Tryd.prog.info? 40 with
    | none => simp [hq] at hi
    | some i =>
      have hs : i.size = 4 := by simpa [hq] using hi
      have hagg : (isAgg 40).run Tryd.prog w = .ok true w := by
        unfold isAgg
        rw [Sem.run_bind, run_underlying hu w]
        cases d <;> simp_all [isAggD]
      rw [recC_length] at h1
      simp [loadVar, Sem.run_bind, hagg, sizeOf, typeInfo, hq, hs, h1]
  unfold Oper.wp execOp
  simp only [ho, hx, Instr.loadAt, Instr.sureAddr, Sem.run_bind, Sem.run_pure, Result.andThen_ok, h2]
  exact hK _ _ h
theorem valid_succ (D : List Rec) (k e : Nat) (h : k < D.length) : validL (D.take (k + 1)) e = if (D.getD k default).meets e e = true then validL (D.take k) e ++ [D.getD k default] else validL (D.take k) e := by
  unfold validL
  rw [take_succ_rec D k h, List.filter_append, List.filter_cons, List.filter_nil]
  split <;> simp

set_option maxHeartbeats 4000000 in
set_option maxRecDepth 100000 in
theorem rvalid_any (g e : Nat) (D : List Rec) (w0 w : World) (h : RDir w0 w g D) : Calls Tryd.prog 23 #[.pointer (some ⟨g, 0, none⟩), .int .u32 (e : Int)] w fun en w' =>
    ∃ A n c, en = .returned (.slice A n c) ∧ QOwn w' w.heap.size A n c (validL D e) ∧ Frm (fun _ => False) w w' := by
  obtain ⟨hlow, hok, A, n, c, hb, hq⟩ := h
  have hn := hq.len
  have hn64 : n ≤ 64 := by have := hok.len; omega
  have HB := hide hb
  have HQ := hide hq
  have HN := hide hn
  clear hlow hok hb hq hn
  go_enter Tryd.func23, Tryd.ntmps23
  go_wp2_with fail
  go_loopw [5, 6] (fun o i wr => ∃ (k m : Nat) (A' : Option Addr) (c' : Nat), k ≤ n ∧ m ≤ k ∧ i = .int .i64 k ∧ o = .slice A' m c' ∧ QOwn wr w.heap.size A' m c' (validL (D.take k) e) ∧ Frm (fun _ => False) w wr) (fun _ i _ => n - (intOf i).toNat)
  case atStart => exact ⟨0, 0, _, _, by omega, by omega, rfl, rfl, QOwn.made w, Frm.alloc _ _ _⟩
  case round =>
    obtain ⟨k, m, A', c', hk, hm, rfl, rfl, ho, hf⟩ := hrel
    have HO := hide ho
    have HF := hide hf
    have d0 : wr.cell? ⟨g, 0, none⟩ = some (.slice A n c) := (HB.out.frm hf (fun h => h)).cell 0
    clear ho hf
    by_cases hlt : k < n
    · have hlt' : (k : Int) < (n : Int) := by omega
      obtain ⟨gr, rfl, _, hgr, hcells⟩ := HQ.out.cells (by omega)
      obtain ⟨x, hx⟩ : ∃ x, x = D.getD k default := ⟨_, rfl⟩
      have hxc : ∀ q u, (recC x)[q]? = some u → wr.cell? ((⟨gr, k * 4, none⟩ : Addr).add q) = some u := fun q u hq => by
        have hq4 : q < 4 := by have := (List.getElem?_eq_some_iff.1 hq).1; rwa [recC_length] at this
        have h1 := hcells k q hlt hq4
        rw [← hx, hq] at h1
        rw [Addr.add_mid]
        exact cell_frm HF.out h1 (fun h => h)
      have c1 : wr.cell? ⟨gr, k * 4 + 1, none⟩ = some (.int .u32 (x.f : Int)) := hxc 1 _ rfl
      have c2 : wr.cell? ⟨gr, k * 4 + 2, none⟩ = some (.int .u32 (x.t : Int)) := hxc 2 _ rfl
      have hs := valid_succ D k e (by rw [HN.out]; exact hlt)
      rw [← hx] at hs
      clear hx hcells
      by_cases h1 : x.f ≤ e
      · have h1' : (x.f : Int) ≤ (e : Int) := by omega
        by_cases h2 : e ≤ x.t
        · have h2' : (e : Int) ≤ (x.t : Int) := by omega
          rw [if_pos (by simp [Rec.meets, h1, h2])] at hs
          have HS := hide hs
          clear hs
          go_wp2_with (first
            | ((with_reducible refine wpl_loadq (op := ⟨some 46, _, _, _, _, _⟩) rfl (.tmp 45) rfl ⟨gr, k * 4, none⟩ rfl x hxc ?_); simp only [recV, recC])
            | ((refine wpl_appS (op := ⟨some 48, _, _, _, _, _⟩) rfl (.tmp 39) (.tmp 47) rfl _ w.heap.size A' m c' (validL (D.take k) e) rfl (HO.out.frm0 (Frm.alloc _ _ _)) _ 1 1 [x] rfl (SrcQ.one (Blk.new wr 40 (recC x).toArray)) (m + 1) rfl (by omega) (by have := HF.out.size; simp; omega) ?_); intro A2 c2 w8 ho8 hf8 _; have HF8 := frm_join w (frm_false_trans HF.out (Frm.alloc wr _ _)) hf8 (fun k hk => (HO.out.ge k hk.symm).1); have HO8 := hide ho8; rw [← HS.out] at HO8; clear ho8 hf8 hxc HO HF d0 c1))
          go_roundw
          case rel => exact ⟨k + 1, m + 1, _, _, by omega, by omega, by go_num, rfl, HO8.out, HF8.out⟩
          case measure => simp [intOf]; omega
        · have h2' : ¬ (e : Int) ≤ (x.t : Int) := by omega
          rw [if_neg (by simp [Rec.meets, h2])] at hs
          have HS := hide hs
          clear hs
          rw [← HS.out] at HO
          go_wp2_with fail
          go_roundw
          case rel => exact ⟨k + 1, m, _, _, by omega, by omega, by go_num, rfl, HO.out, HF.out⟩
          case measure => simp [intOf]; omega
      · have h1' : ¬ (x.f : Int) ≤ (e : Int) := by omega
        rw [if_neg (by simp [Rec.meets, h1])] at hs
        have HS := hide hs
        clear hs
        rw [← HS.out] at HO
        go_wp2_with fail
        go_roundw
        case rel => exact ⟨k + 1, m, _, _, by omega, by omega, by go_num, rfl, HO.out, HF.out⟩
        case measure => simp [intOf]; omega
    · obtain rfl : k = n := by omega
      have hall : D.take k = D := List.take_of_length_le (by rw [HN.out]; exact Nat.le_refl _)
      rw [hall] at HO
      clear hall
      go_wp2_with fail
      go_ret
      exact ⟨A', m, c', rfl, HO.out, HF.out⟩

theorem results_rec_q {fn : Func} {p u : Tmp} (h : fn.results = #[.cell p 40, .tmp u]) (tmps : Array Value) (w : World) (g : Nat) (cs : List Value) (hp : tmps.getD p undef = .pointer (some ⟨g, 0, none⟩)) (hb : Blk w g 40 cs.toArray) (hn : cs.length = 4) :
    (results fn tmps).run Tryd.prog w = .ok (.tuple #[.agg cs.toArray, tmps.getD u undef]) w := by
  have hl := run_load_agg aggQ w g 0 _ cs cs hb (by rw [List.drop_zero, List.take_of_length_le (by omega)]) (by omega)
  rw [results_cell_tmp h, hp]
  simp only [asAddr, Sem.run_pure, Result.andThen_ok, hl]

/-- Those that are there in an epoch, the first of this node. -/
theorem found_valid (D : List Rec) (a e : Nat) : findL D a e = ((validL D e).filter fun x => decide (x.a = a)).head? := by
  unfold findL withinL validL
  rw [List.filter_filter]
theorem head_take (V : List Rec) (a k : Nat) (h : k < V.length) (hno : ∀ j, j < k → ¬ (V.getD j default).a = a) (hy : (V.getD k default).a = a) : (V.filter fun x => decide (x.a = a)).head? = some (V.getD k default) := by
  have e : V = V.take k ++ V.getD k default :: V.drop (k + 1) := by
    have h1 : V.getD k default = V[k] := by rw [List.getD_eq_getElem?_getD, List.getElem?_eq_getElem h]; rfl
    rw [h1, ← List.drop_eq_getElem_cons h, List.take_append_drop]
  have h0 : (V.take k).filter (fun x => decide (x.a = a)) = [] := List.filter_eq_nil_iff.2 fun x hx => by
    obtain ⟨j, hj, e⟩ := List.getElem_of_mem hx
    rw [List.length_take] at hj
    have := hno j (by omega)
    rw [List.getD_eq_getElem?_getD, List.getElem?_eq_getElem (by omega)] at this
    rw [List.getElem_take] at e
    simp only [Option.getD_some, e] at this
    simpa using this
  obtain ⟨y, hyy⟩ : ∃ y, y = V.getD k default := ⟨_, rfl⟩
  rw [← hyy] at e hy ⊢
  rw [e, List.filter_append, h0, List.nil_append, List.filter_cons_of_pos (by simpa using hy)]
  rfl
theorem head_none (V : List Rec) (a : Nat) (hno : ∀ j, j < V.length → ¬ (V.getD j default).a = a) : (V.filter fun x => decide (x.a = a)).head? = none := by
  rw [List.filter_eq_nil_iff.2 fun x hx => ?_]
  · rfl
  · obtain ⟨j, hj, e⟩ := List.getElem_of_mem hx
    have := hno j hj
    rw [List.getD_eq_getElem?_getD, List.getElem?_eq_getElem hj] at this
    simp only [Option.getD_some, e] at this
    simpa using this

set_option maxHeartbeats 4000000 in
set_option maxRecDepth 100000 in
theorem rfind_any (g a e : Nat) (D : List Rec) (w0 w : World) (h : RDir w0 w g D) : Calls Tryd.prog 20 #[.pointer (some ⟨g, 0, none⟩), .int .u16 (a : Int), .int .u32 (e : Int)] w fun en w' =>
    en = .returned (.tuple #[recV (foundR D a e), .bool (foundB D a e)]) ∧ Frm (fun _ => False) w w' := by
  have HV := hide (fun W (f : Frm (fun _ => False) w W) => rvalid_any g e D w0 W (h.frm0 f))
  have HL : Hid ((validL D e).length ≤ 64) := by show _ ≤ _; unfold validL; exact Nat.le_trans (List.length_filter_le _ _) h.2.1.len
  clear h
  unfold foundR foundB
  rw [found_valid]
  obtain ⟨V, hV⟩ : ∃ V, V = validL D e := ⟨_, rfl⟩
  rw [← hV] at HV HL ⊢
  clear hV
  obtain ⟨F, hF⟩ : ∃ F, F = (V.filter fun x => decide (x.a = a)).head? := ⟨_, rfl⟩
  rw [← hF]
  have HF := hide hF
  clear hF
  go_enter Tryd.func20, Tryd.ntmps20
  go_wp2_with ((with_reducible refine wpl_alloca (op := ⟨some 6, _, _, _, _, _⟩) rfl _ rfl _ zeroQ ?_); intro g6 w1 hB1 hs1 hF1)
  refine (HV.out w1 hF1).mono ?_
  rintro en w2 ⟨A, n, c, rfl, ho, hf⟩
  have hB2 := hB1.frm hf (fun h => h)
  have hg6 := hB1.lt
  have HF2 := hide (frm_false_trans hF1 hf)
  have HO := hide ho
  have hn := ho.len
  have HN := hide hn
  have hn64 : n ≤ 64 := by have := HL.out; omega
  clear hB1 hF1 hf ho HV hn
  go_wp2_with fail
  go_loopw [9] (fun i wr => wr = w2 ∧ ∃ k : Nat, k ≤ n ∧ i = .int .i64 k ∧ ∀ j, j < k → ¬ (V.getD j default).a = a) (fun i _ => n - (intOf i).toNat)
  case atStart => exact ⟨rfl, 0, by omega, rfl, fun j h => absurd h (by omega)⟩
  case round =>
    obtain ⟨rfl, k, hk, rfl, hno⟩ := hrel
    by_cases hlt : k < n
    · have hlt' : (k : Int) < (n : Int) := by omega
      obtain ⟨gr, rfl, hgr1, hgr, hcells⟩ := HO.out.cells (by omega)
      obtain ⟨x, hx⟩ : ∃ x, x = V.getD k default := ⟨_, rfl⟩
      have hxc : ∀ q u, (recC x)[q]? = some u → wr.cell? ((⟨gr, k * 4, none⟩ : Addr).add q) = some u := fun q u hq => by
        have hq4 : q < 4 := by have := (List.getElem?_eq_some_iff.1 hq).1; rwa [recC_length] at this
        have h1 := hcells k q hlt hq4
        rw [← hx, hq] at h1
        rw [Addr.add_mid]
        exact h1
      have c0 : wr.cell? ⟨gr, k * 4, none⟩ = some (.int .u16 (x.a : Int)) := hxc 0 _ rfl
      by_cases ha : x.a = a
      · have ha' : (x.a : Int) = (a : Int) := by omega
        have HH := hide (HF.out.trans (head_take V a k (by rw [HN.out]; exact hlt) hno (by rw [← hx]; exact ha)))
        rw [← hx] at HH
        clear hx hcells hno
        subst ha
        clear ha'
        go_wp2_with (first
          | (with_reducible refine wpl_loadq (op := ⟨some 29, _, _, _, _, _⟩) rfl (.tmp 28) rfl ⟨gr, k * 4, none⟩ rfl x hxc ?_)
          | ((refine wpl_storea aggQ rfl (.tmp 6) (.tmp 29) rfl g6 (recC x) rfl rfl _ _ hB2 rfl rfl (recC_one _) ?_); intro w3 hB3 hF3))
        refine bodyPost_ret (results_rec_q rfl _ _ g6 _ rfl hB3 rfl) rfl ?_
        rw [HH.out]
        exact ⟨by first | trivial | rfl, (frm_join w HF2.out hF3 (fun k hk => by omega)).out⟩
      · have ha' : ¬ (x.a : Int) = (a : Int) := by omega
        have HNO : Hid (∀ j, j < k + 1 → ¬ (V.getD j default).a = a) := fun j hj => by
          by_cases e : j = k
          · subst e; rw [← hx]; exact ha
          · exact hno j (by omega)
        clear hx hcells hno hxc
        go_wp2_with fail
        go_roundw
        case rel => exact ⟨by first | trivial | rfl, k + 1, by omega, by go_num, HNO.out⟩
        case measure => simp [intOf]; omega
    · obtain rfl : k = n := by omega
      have hlt' : ¬ (k : Int) < (k : Int) := by omega
      have HH := hide (HF.out.trans (head_none V a (fun j hj => hno j (by have := HN.out; omega))))
      clear hno
      go_wp2_with ((refine wpl_storea aggQ rfl (.tmp 6) (.tmp 30) rfl g6 (recC default) rfl rfl _ _ hB2 rfl rfl (recC_one _) ?_); intro w3 hB3 hF3)
      refine bodyPost_ret (results_rec_q rfl _ _ g6 _ rfl hB3 rfl) rfl ?_
      rw [HH.out]
      exact ⟨rfl, (frm_join w HF2.out hF3 (fun k hk => by omega)).out⟩
end Go.Proofs.YtjicnfkodieaaaaDoor
