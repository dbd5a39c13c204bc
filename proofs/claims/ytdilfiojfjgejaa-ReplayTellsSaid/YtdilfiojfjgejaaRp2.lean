/-
  Tags in memory: Has and Add.
-/
import Derived.Test.YtdilfiojfjgejaaRp1
import Derived.Test.YtdilfiojfjgejaaHp
namespace Go.Proofs.Ytdilfiojfjgejaa
set_option linter.unusedVariables false
set_option linter.unusedSimpArgs false
open Go.RowKit

theorem tag_whole (x : Tg) : ((tgC x).drop 0).take 16 = tgC x := by rw [List.drop_zero, List.take_of_length_le (by rw [tgC_length]; exact Nat.le_refl _)]
theorem tag_room (x : Tg) : 0 + 16 ≤ (tgC x).length := by rw [tgC_length]; exact Nat.le_refl _
theorem build_stamp (e : Nat) (x : Tg) (w : World) : Sem.run Try.prog (Instr.build 51 #[(0, .int .u32 (e : Int)), (1, .agg (tgC x).toArray)]) w = .ok (.agg (entC ⟨e, x⟩).toArray) w :=
  match x with
  | ⟨[_, _, _, _, _, _, _, _, _, _, _, _, _, _, _, _], _⟩ => run_build w _ _ _ (by kernel_rfl)
theorem build_unit (w : World) : Sem.run Try.prog (Instr.build 49 #[]) w = .ok (.agg ([] : List Value).toArray) w := run_build w _ _ _ (by kernel_rfl)
theorem ite_wanted {b : Bool} {p q : Prop} (hb : b = true) (h : p) : if b = true then p else q := by rw [if_pos hb]; exact h
theorem wp_alloca {P : Program} {op : Oper} {a : Act} {w : World} {K : Act → World → Prop} {Q : Exit → Act → World → Prop} (t : TypeId) (ho : op.op = .alloc t)
    (cs : List Value) (hz : (P.info? t).map (fun i => i.zero) = some (some (.agg cs.toArray)))
    (h : ∀ g w', Blk w' g t cs.toArray → w.heap.size ≤ g → Frm (fun _ => False) w w' → K (a.put op.dst (.pointer (some ⟨g, 0, none⟩))) w') : op.wp P a w K Q := by
  have hzv : ∀ w, (zeroValue t).run P w = .ok (.agg cs.toArray) w := zero_of hz
  unfold Oper.wp execOp
  simp [ho, Instr.alloc, hzv, newVar, newRow, Value.cells, Oper.upon, Result.andThen]
  exact h _ _ (Blk.new _ _ _) (Nat.le_refl _) (Frm.alloc _ _ _)
theorem wp_storea {P : Program} {ty : TypeId} {n : Nat} (hA : Agg P ty n) {op : Oper} {a : Act} {w : World} {K : Act → World → Prop} {Q : Exit → Act → World → Prop} (x y : Operand) (ho : op.op = .store ty x y)
    (g : Nat) (cs : List Value) (hx : a.eval x = .pointer (some ⟨g, 0, none⟩)) (hy : a.eval y = .agg cs.toArray) (t : TypeId) (old : Array Value) (hb : Blk w g t old) (hn : cs.length = n) (hold : old.size = n) (h1 : ∀ v ∈ cs, v.oneCell' = true)
    (h : ∀ w', Blk w' g t cs.toArray → Frm (fun k => k = g) w w' → K (a.put op.dst undef) w') : op.wp P a w K Q :=
  wp_store_row ty x y ho g cs.toArray hx hy t old hb (by rw [hA.2]; simp [hn]) (by simp [hn, hold]) (Array.all_eq_true_iff_forall_mem.2 fun v hv => h1 v (by simpa using hv)) (h _ (hb.setRow _) (Frm.setRow _ _ _))

/-- What Has asks of the world while it looks. -/
structure HasS (g gx bs e : Nat) (x : Tg) (b : Bool) (W : World) : Prop where
  cell : W.cell? ⟨g, 0, none⟩ = some (.map (some bs))
  tag : Blk W gx 30 (tgC x).toArray
  look : (Instr.lookup 45 (.map (some bs)) (.agg (entC ⟨e, x⟩).toArray) true).run Try.prog W = .ok (.tuple #[.agg #[], .bool b]) W
theorem look_seen {w : World} {bs e : Nat} {x : Tg} {l : List Ent} (h : MapAt KS w bs l) (he : e < 4294967296) :
    (Instr.lookup 45 (.map (some bs)) (.agg (entC ⟨e, x⟩).toArray) true).run Try.prog w = .ok (.tuple #[.agg #[], .bool (decide ((⟨e, x⟩ : Ent) ∈ l))]) w := by
  rcases run_look (K := KS) true w bs l ⟨e, x⟩ h he with ⟨h1, h2⟩ | ⟨y, h1, h2, h3⟩
  · rw [decide_eq_false (fun hm => h1 _ hm rfl)]
    exact h2
  · rw [decide_eq_true (by rw [← KS_key h2]; exact h1)]
    exact h3
set_option maxHeartbeats 4000000 in
set_option maxRecDepth 100000 in
theorem has_any (B g bs bc : Nat) (t : T) (e : Nat) (x : Tg) (he : e < 4294967296) (w : World) (h : TAt w B g t bs bc) :
    Calls Try.prog 15 #[.pointer (some ⟨g, 0, none⟩), .int .u32 (e : Int), .agg (tgC x).toArray] w fun r w' => r = .returned (.bool (t.has e x)) ∧ Frm (fun _ => False) w w' := by
  have HT := hide h
  obtain ⟨b, hb⟩ : ∃ b, b = t.has e x := ⟨_, rfl⟩
  have HB := hide hb
  rw [← hb]
  clear h hb
  go_enter Try.func15, Try.ntmps15
  go_wp2_with ((refine wpl_boxa (op := ⟨some 5, _, _, _, _, _⟩) rfl _ (.tmp 2) rfl (tgC x) rfl ?_); intro gx wr hX hgx fx; have HX := hide hX; have HF := hide fx; clear hX hgx fx)
  have HS : Hid (∀ W', Frm (fun _ => False) wr W' → HasS g gx bs e x b W') := fun W' f => by
    have h1 := HT.out.frm0 (frm_ft HF.out f)
    refine ⟨h1.blk.cell 0, HX.out.frm f (fun h => h), ?_⟩
    have h2 := look_seen (x := x) h1.seen he
    rw [HB.out]
    exact h2
  refine wp_region_held_drew (S := HasS g gx bs e x b) (by kernel_rfl) (HS.out _ (Frm.refl _ _).drew) ?_
  intro hHeld
  obtain ⟨W0, hW0⟩ : ∃ W', W' = wr.drew := ⟨_, rfl⟩
  have fr0 : Frm (fun _ => False) wr W0 := by rw [hW0]; exact (Frm.refl _ _).drew
  rw [← hW0] at hHeld ⊢
  clear hW0
  refine tkH 0 (v := ?v1) rfl ?hy1 ?rest1
  case hy1 => (intro w hSw; go_simp; try with_reducible rfl)
  try simp only [Act.put, List.getElem_toArray, List.getElem_cons_zero, List.getElem_cons_succ, List.setIfInBounds_toArray, List.set_cons_zero, List.set_cons_succ]
  refine tkH 1 (v := ?v2) rfl ?hy2 ?rest2
  case hy2 => (intro w hSw; go_simp; try with_reducible rfl)
  try simp only [Act.put, List.getElem_toArray, List.getElem_cons_zero, List.getElem_cons_succ, List.setIfInBounds_toArray, List.set_cons_zero, List.set_cons_succ]
  refine tkH 2 (v := ?v3) rfl ?hy3 ?rest3
  case hy3 => (intro w hSw; go_simp; try with_reducible rfl)
  try simp only [Act.put, List.getElem_toArray, List.getElem_cons_zero, List.getElem_cons_succ, List.setIfInBounds_toArray, List.set_cons_zero, List.set_cons_succ]
  refine tkH 3 (v := ?v4) rfl ?hy4 ?rest4
  case hy4 => (intro w hSw; have hSa := hSw.cell; go_simp; try with_reducible rfl)
  try simp only [Act.put, List.getElem_toArray, List.getElem_cons_zero, List.getElem_cons_succ, List.setIfInBounds_toArray, List.set_cons_zero, List.set_cons_succ]
  refine tkH 4 (v := ?v5) rfl ?hy5 ?rest5
  case hy5 => (intro w hSw; go_simp; try with_reducible rfl)
  try simp only [Act.put, List.getElem_toArray, List.getElem_cons_zero, List.getElem_cons_succ, List.setIfInBounds_toArray, List.set_cons_zero, List.set_cons_succ]
  refine tkH 5 (v := ?v6) rfl ?hy6 ?rest6
  case hy6 => (intro w hSw; refine held_loada aggX (.tmp 5) ?_ gx 0 ?_ _ _ (tgC x) hSw.tag (tag_whole x) (tag_room x) <;> rfl)
  try simp only [Act.put, List.getElem_toArray, List.getElem_cons_zero, List.getElem_cons_succ, List.setIfInBounds_toArray, List.set_cons_zero, List.set_cons_succ]
  refine tkH 6 (v := ?v7) rfl ?hy7 ?rest7
  case hy7 => (intro w hSw; refine held_build 51 #[(0, .tmp 14), (1, .tmp 15)] ?_ [(0, .int .u32 (e : Int)), (1, .agg (tgC x).toArray)] (entC ⟨e, x⟩) (build_stamp e x w) ?_ <;> rfl)
  try simp only [Act.put, List.getElem_toArray, List.getElem_cons_zero, List.getElem_cons_succ, List.setIfInBounds_toArray, List.set_cons_zero, List.set_cons_succ]
  refine tkH 7 (v := .tuple #[.agg #[], .bool b]) rfl ?hy8 ?rest8
  case hy8 => (intro w hSw; refine held_lookv _ (.tmp 13) (.tmp 16) true ?_ _ _ _ ?_ ?_ hSw.look <;> rfl)
  try simp only [Act.put, List.getElem_toArray, List.getElem_cons_zero, List.getElem_cons_succ, List.setIfInBounds_toArray, List.set_cons_zero, List.set_cons_succ]
  refine tkH 8 (v := ?v9) rfl ?hy9 ?rest9
  case hy9 => (intro w hSw; go_simp; try with_reducible rfl)
  try simp only [Act.put, List.getElem_toArray, List.getElem_cons_zero, List.getElem_cons_succ, List.setIfInBounds_toArray, List.set_cons_zero, List.set_cons_succ]
  refine tkH 9 (v := ?v10) rfl ?hy10 ?rest10
  case hy10 => (intro w hSw; go_simp; try with_reducible rfl)
  try simp only [Act.put, List.getElem_toArray, List.getElem_cons_zero, List.getElem_cons_succ, List.setIfInBounds_toArray, List.set_cons_zero, List.set_cons_succ]
  refine tkH 10 (v := ?v11) rfl ?hy11 ?rest11
  case hy11 => (intro w hSw; go_simp; try with_reducible rfl)
  try simp only [Act.put, List.getElem_toArray, List.getElem_cons_zero, List.getElem_cons_succ, List.setIfInBounds_toArray, List.set_cons_zero, List.set_cons_succ]
  refine rdH 11 rfl (by kernel_rfl) (fun K hK => ?_)
  refine ite_wanted rfl ?_
  refine wp_alloca _ rfl [] zeroU ?_
  intro gy W1 hB1 hs1 f1
  refine hK.out _ _ (HS.out _ (frm_ft fr0 f1)) (fun hHeld => ?_)
  clear hK K
  refine rdH 12 rfl (by kernel_rfl) (fun K hK => ?_)
  refine ite_wanted rfl ?_
  refine wp_storea aggU (.tmp 7) (.tmp 18) rfl gy [] rfl rfl _ _ hB1 rfl rfl (fun _ h => by cases h) ?_
  intro W2 hB2 f2
  have fr2 : Frm (fun _ => False) wr W2 := frm_fs wr (frm_ft fr0 f1) f2 (fun i e => by have := fr0.size; omega)
  clear hB1 hB2 f1 f2 hs1
  refine hK.out _ _ (HS.out _ fr2) (fun hHeld => ?_)
  clear hK K
  refine tkH 13 (v := ?v12) rfl ?hy12 ?rest12
  case hy12 => (intro w hSw; go_simp; try with_reducible rfl)
  try simp only [Act.put, List.getElem_toArray, List.getElem_cons_zero, List.getElem_cons_succ, List.setIfInBounds_toArray, List.set_cons_zero, List.set_cons_succ]
  refine wpAnyH_done (by kernel_rfl) ?_ _
  clear hHeld
  go_wp2_with fail
  go_ret
  exact ⟨rfl, frm_ft HF.out fr2⟩

/-- What Add asks of the world while it puts. -/
structure AddS (g gx bs : Nat) (x : Tg) (W : World) : Prop where
  cell : W.cell? ⟨g, 0, none⟩ = some (.map (some bs))
  tag : Blk W gx 30 (tgC x).toArray
theorem CntOk.bump {C1 C2 : List Cn} {c : Cn} {l : List Ent} {e : Nat} {x : Tg} (h : CntOk (C1 ++ c :: C2) l) (hc : c.e = e) : CntOk (C1 ++ ⟨e, cnt l e + 1⟩ :: C2) (l ++ [⟨e, x⟩]) := by
  have hap := h.apart
  simp only [List.map_append, List.map_cons] at hap
  refine ⟨by simp only [List.map_append, List.map_cons]; rw [← hc]; exact hap, fun d hd => ?_, fun s hs => ?_⟩
  · have hne : d ∈ C1 ∨ d ∈ C2 → d.e ≠ e := by
      intro hd he
      rw [List.nodup_append, List.nodup_cons] at hap
      obtain ⟨_, ⟨h1, _⟩, h2⟩ := hap
      rcases hd with hd | hd
      · exact h2 d.e (List.mem_map.2 ⟨d, hd, rfl⟩) c.e (List.mem_cons_self ..) (he.trans hc.symm)
      · exact h1 (List.mem_map.2 ⟨d, hd, he.trans hc.symm⟩)
    have hold : d ∈ C1 ∨ d ∈ C2 → d.n = cnt (l ++ [⟨e, x⟩]) d.e := by
      intro hd
      rw [cnt_append, cnt_one, if_neg (fun k => hne hd k.symm), Nat.add_zero]
      exact h.says d (by rcases hd with hd | hd <;> simp [hd])
    rcases List.mem_append.1 hd with hd | hd
    · exact hold (.inl hd)
    · rcases List.mem_cons.1 hd with rfl | hd
      · rw [cnt_append, cnt_one, if_pos rfl]
      · exact hold (.inr hd)
  · rcases List.mem_append.1 hs with hs | hs
    · obtain ⟨d, hd, hde⟩ := h.all s hs
      rcases List.mem_append.1 hd with hd | hd
      · exact ⟨d, by simp [hd], hde⟩
      · rcases List.mem_cons.1 hd with rfl | hd
        · exact ⟨⟨e, cnt l e + 1⟩, by simp, hc.symm.trans hde⟩
        · exact ⟨d, by simp [hd], hde⟩
    · obtain rfl : s = ⟨e, x⟩ := by simpa using hs
      exact ⟨⟨e, cnt l e + 1⟩, by simp, rfl⟩
theorem CntOk.first {C : List Cn} {l : List Ent} {e : Nat} {x : Tg} (h : CntOk C l) (hc : ∀ c ∈ C, c.e ≠ e) : CntOk (C ++ [⟨e, cnt l e + 1⟩]) (l ++ [⟨e, x⟩]) := by
  have h0 := h.none hc
  refine ⟨?_, fun d hd => ?_, fun s hs => ?_⟩
  · rw [List.map_append, List.nodup_append]
    refine ⟨h.apart, List.nodup_cons.2 ⟨by simp, List.nodup_nil⟩, fun a ha b hb => ?_⟩
    obtain ⟨c, hcm, rfl⟩ := List.mem_map.1 ha
    obtain rfl : b = e := by simpa using hb
    exact hc c hcm
  · rcases List.mem_append.1 hd with hd | hd
    · rw [cnt_append, cnt_one, if_neg (fun k => hc d hd k.symm), Nat.add_zero]
      exact h.says d hd
    · obtain rfl : d = ⟨e, cnt l e + 1⟩ := by simpa using hd
      rw [cnt_append, cnt_one, if_pos rfl]
  · rcases List.mem_append.1 hs with hs | hs
    · obtain ⟨d, hd, hde⟩ := h.all s hs
      exact ⟨d, by simp [hd], hde⟩
    · obtain rfl : s = ⟨e, x⟩ := by simpa using hs
      exact ⟨⟨e, cnt l e + 1⟩, by simp, rfl⟩
/-- One more of an epoch. -/
theorem wpl_bump {bc : Nat} {C : List Cn} {l : List Ent} {e : Nat} (x : Tg) {ops : Array Oper} {rest : List Oper} {op : Oper} {a : Act} {w : World} {Q : Exit → Act → World → Prop} (hgd : op.guard = none) (m k v : Operand) (ho : op.op = .mapUpdate 46 m k v)
    (V : Int) (hm : a.eval m = .map (some bc)) (hk : a.eval k = .int .u32 (e : Int)) (hv : a.eval v = .int .i64 V) (hV : V = ((cnt l e + 1 : Nat) : Int)) (hc : MapAt KC w bc C) (hC : CntOk C l) (he : e < 4294967296)
    (hK : ∀ w' C', MapAt KC w' bc C' → CntOk C' (l ++ [⟨e, x⟩]) → Frm (fun k => k = bc) w w' → wpList Try.prog ops Q rest (a.put op.dst undef) w') : wpList Try.prog ops Q (op :: rest) a w := by
  subst hV
  by_cases hex : ∃ c ∈ C, c.e = e
  · obtain ⟨c, hcm, hce⟩ := hex
    obtain ⟨C1, C2, rfl⟩ := List.append_of_mem hcm
    exact wpl_set (K := KC) hgd m k v ho c ⟨e, cnt l e + 1⟩ hm hk hv hc he (by show Value.int _ _ = Value.int _ _; rw [hce]) (fun w' h1 h2 => hK w' _ h1 (hC.bump hce) h2)
  · have hno : ∀ c ∈ C, c.e ≠ e := fun c hc h => hex ⟨c, hc, h⟩
    exact wpl_put (K := KC) hgd m k v ho ⟨e, cnt l e + 1⟩ hm hk hv hc he (fun c hc h => hno c hc (KC_key h)) (fun w' h1 h2 => hK w' _ h1 (hC.first hno) h2)
set_option maxHeartbeats 8000000 in
set_option maxRecDepth 100000 in
theorem add_any (B g bs bc : Nat) (t : T) (e : Nat) (x : Tg) (he : e < 4294967296) (w : World) (h : TAt w B g t bs bc) :
    Calls Try.prog 11 #[.pointer (some ⟨g, 0, none⟩), .int .u32 (e : Int), .agg (tgC x).toArray] w fun r w' => r = .returned (.int .i64 (t.why e x : Int)) ∧ TAt w' B g (t.add e x) bs bc ∧ Frm (Of g bs bc) w w' := by
  have HT := hide h
  have HH := hide (fun (W : World) (f : Frm (fun _ => False) w W) => has_any B g bs bc t e x he W (h.frm0 f))
  have HL := hide (fun (W : World) (f : Frm (fun _ => False) w W) => len_any B g bs bc t e he W (h.frm0 f))
  have HC3 : Hid (∀ W, Frm (fun _ => False) w W → W.cell? ⟨g, 3, none⟩ = some (.int .u32 (t.floor : Int))) := fun W f => (h.frm0 f).blk.cell 3
  have HC2 : Hid (∀ W, Frm (fun _ => False) w W → W.cell? ⟨g, 2, none⟩ = some (.int .i64 (t.most : Int))) := fun W f => (h.frm0 f).blk.cell 2
  obtain ⟨flo, hflo⟩ : ∃ n, n = t.floor := ⟨_, rfl⟩
  obtain ⟨mst, hmst⟩ : ∃ n, n = t.most := ⟨_, rfl⟩
  obtain ⟨cn, hcn⟩ : ∃ n, n = t.len e := ⟨_, rfl⟩
  obtain ⟨hs, hhs⟩ : ∃ n, n = t.has e x := ⟨_, rfl⟩
  rw [← hflo] at HC3
  rw [← hmst] at HC2
  rw [← hcn] at HL
  rw [← hhs] at HH
  by_cases h1 : e < flo
  · have hw : t.why e x = 11 := by unfold T.why; rw [if_pos (by rw [← hflo]; exact h1)]
    have ha : t.add e x = t := by unfold T.add; rw [hw]; rfl
    rw [hw, ha]
    have h1' : (e : Int) < (flo : Int) := by omega
    clear hw ha h hflo hmst hcn hhs HH HL
    go_enter Try.func11, Try.ntmps11
    go_wp2_with ((refine wpl_boxa (op := ⟨some 5, _, _, _, _, _⟩) rfl _ (.tmp 2) rfl (tgC x) rfl ?_); intro gx wr hX hgx fx; have hc3 := HC3.out wr fx; have HF := hide fx; clear hX hgx fx)
    go_ret
    exact ⟨rfl, HT.out.frm0 HF.out, frm_any HF.out⟩
  · have h1' : ¬ (e : Int) < (flo : Int) := by omega
    cases hs with
    | true =>
      have hw : t.why e x = 7 := by unfold T.why; rw [if_neg (by rw [← hflo]; exact h1), if_pos hhs.symm]
      have ha : t.add e x = t := by unfold T.add; rw [hw]; rfl
      rw [hw, ha]
      clear hw ha h hflo hmst hcn hhs HL
      go_enter Try.func11, Try.ntmps11
      go_wp2_with (first
        | ((refine wpl_boxa (op := ⟨some 5, _, _, _, _, _⟩) rfl _ (.tmp 2) rfl (tgC x) rfl ?_); intro gx wr hX hgx fx; have hc3 := HC3.out wr fx; have HX := hide hX; have HF := hide fx; clear hX hgx fx)
        | (with_reducible refine wpl_loada aggX (op := ⟨some 17, _, _, _, _, _⟩) rfl (.tmp 5) rfl gx 0 rfl _ _ (tgC x) HX.out (tag_whole x) (tag_room x) ?_)
        | (go_at_call 15; refine (HH.out wr HF.out).mono ?_; rintro r w2 ⟨rfl, hF2⟩; have HF2 := hide (frm_ft HF.out hF2); clear hF2 hc3))
      go_ret
      exact ⟨rfl, HT.out.frm0 HF2.out, frm_any HF2.out⟩
    | false =>
      by_cases h3 : mst ≤ cn
      · have hw : t.why e x = 8 := by unfold T.why; rw [if_neg (by rw [← hflo]; exact h1), if_neg (by rw [← hhs]; decide), if_pos (by rw [← hmst, ← hcn]; exact h3)]
        have ha : t.add e x = t := by unfold T.add; rw [hw]; rfl
        rw [hw, ha]
        have h3' : (mst : Int) ≤ (cn : Int) := by omega
        clear hw ha h hflo hmst hcn hhs
        go_enter Try.func11, Try.ntmps11
        go_wp2_with (first
          | ((refine wpl_boxa (op := ⟨some 5, _, _, _, _, _⟩) rfl _ (.tmp 2) rfl (tgC x) rfl ?_); intro gx wr hX hgx fx; have hc3 := HC3.out wr fx; have HX := hide hX; have HF := hide fx; clear hX hgx fx)
          | (with_reducible refine wpl_loada aggX (op := ⟨some 17, _, _, _, _, _⟩) rfl (.tmp 5) rfl gx 0 rfl _ _ (tgC x) HX.out (tag_whole x) (tag_room x) ?_)
          | (go_at_call 15; refine (HH.out wr HF.out).mono ?_; rintro r w2 ⟨rfl, hF2⟩; have hc2 := HC2.out w2 (frm_ft HF.out hF2); have HF2 := hide (frm_ft HF.out hF2); clear hF2 hc3))
        go_quiet (exact Calls.quiet_of_same (HL.out _ (HF2.out.drewN _)))
        go_wp2_with fail
        go_ret
        exact ⟨rfl, HT.out.frm0 (HF2.out.drewN _), (frm_any HF2.out).drewN _⟩
      · have hw : t.why e x = 0 := by unfold T.why; rw [if_neg (by rw [← hflo]; exact h1), if_neg (by rw [← hhs]; decide), if_neg (by rw [← hmst, ← hcn]; exact h3)]
        have ha : t.add e x = { t with l := t.l ++ [⟨e, x⟩] } := by unfold T.add; rw [if_pos hw]
        have hok := h.ok.add he x
        rw [ha] at hok
        have HNEW : Hid (∀ y ∈ t.l, KS.key y ≠ KS.key ⟨e, x⟩) := fun y hy hk => (why_zero hw).2.1 (by rw [← KS_key hk]; exact hy)
        have HTOP := hide h.ok.top
        have HOK := hide hok
        have HCN := hide hcn
        have HE := hide he
        have HMX : Hid (mst ≤ 9223372036854775807) := by rw [hmst]; exact h.ok.top
        have hcm : (cn : Int) + 1 ≤ 9223372036854775807 := by have := HMX.out; omega
        rw [hw, ha]
        have h3' : ¬ (mst : Int) ≤ (cn : Int) := by omega
        clear hw ha h hflo hmst hcn hhs hok
        go_enter Try.func11, Try.ntmps11
        go_wp2_with (first
          | ((refine wpl_boxa (op := ⟨some 5, _, _, _, _, _⟩) rfl _ (.tmp 2) rfl (tgC x) rfl ?_); intro gx wx hX hgx fx; have hc3 := HC3.out wx fx; have HX := hide hX; have HF := hide fx; have HGX := hide hgx; clear hX hgx fx)
          | (with_reducible refine wpl_loada aggX (op := ⟨some 17, _, _, _, _, _⟩) rfl (.tmp 5) rfl gx 0 rfl _ _ (tgC x) HX.out (tag_whole x) (tag_room x) ?_)
          | (go_at_call 15; refine (HH.out wx HF.out).mono ?_; rintro r w2 ⟨rfl, hF2⟩; have hc2 := HC2.out w2 (frm_ft HF.out hF2); have HF2 := hide (frm_ft HF.out hF2); have HX2 := hide (HX.out.frm hF2 (fun h => h)); clear hF2 hc3))
        go_quiet (exact Calls.quiet_of_same (HL.out _ (HF2.out.drewN _)))
        rename_i nq
        have hfr : Frm (fun _ => False) w (w2.drewN nq) := HF2.out.drewN _
        have hfx : Frm (fun _ => False) w2 (w2.drewN nq) := (Frm.refl _ _).drewN _
        have HXR := hide (HX2.out.frm hfx (fun h => h))
        clear hfx
        generalize hwr : w2.drewN nq = wr at hfr HXR ⊢
        have HFR := hide hfr
        clear hwr hfr hc2 HX2 HX
        have HNG : Hid (g ≠ bs) := fun e => HT.out.neg.1 e.symm
        have HNX : Hid (gx ≠ bs) := fun e => by have := HT.out.lt; have := HGX.out; omega
        have HS : Hid (∀ {S : Nat → Prop} (W' : World), Frm S wr W' → ¬ S g → ¬ S gx → AddS g gx bs x W') := fun W' f h1 h2 =>
          ⟨((HT.out.frm0 HFR.out).blk.frm f h1).cell 0, HXR.out.frm f h2⟩
        have HSEEN : Hid (∀ W', Frm (fun _ => False) wr W' → MapAt KS W' bs t.l) := fun W' f => (HT.out.frm0 (frm_ft HFR.out f)).seen
        go_wp2_with fail
        refine wp_region_held_drew (S := AddS g gx bs x) (by kernel_rfl) (HS.out (S := fun _ => False) _ (Frm.refl _ _).drew (fun h => h) (fun h => h)) ?_
        intro hHeld
        obtain ⟨W0, hW0⟩ : ∃ W', W' = wr.drew := ⟨_, rfl⟩
        have fr0 : Frm (fun _ => False) wr W0 := by rw [hW0]; exact (Frm.refl _ _).drew
        rw [← hW0] at hHeld ⊢
        clear hW0
        refine tkH 0 (v := ?v13) rfl ?hy13 ?rest13
        case hy13 => (intro w hSw; go_simp; try with_reducible rfl)
        try simp only [Act.put, List.getElem_toArray, List.getElem_cons_zero, List.getElem_cons_succ, List.setIfInBounds_toArray, List.set_cons_zero, List.set_cons_succ]
        refine tkH 1 (v := ?v14) rfl ?hy14 ?rest14
        case hy14 => (intro w hSw; go_simp; try with_reducible rfl)
        try simp only [Act.put, List.getElem_toArray, List.getElem_cons_zero, List.getElem_cons_succ, List.setIfInBounds_toArray, List.set_cons_zero, List.set_cons_succ]
        refine tkH 2 (v := ?v15) rfl ?hy15 ?rest15
        case hy15 => (intro w hSw; go_simp; try with_reducible rfl)
        try simp only [Act.put, List.getElem_toArray, List.getElem_cons_zero, List.getElem_cons_succ, List.setIfInBounds_toArray, List.set_cons_zero, List.set_cons_succ]
        refine tkH 3 (v := ?v16) rfl ?hy16 ?rest16
        case hy16 => (intro w hSw; have hSa := hSw.cell; go_simp; try with_reducible rfl)
        try simp only [Act.put, List.getElem_toArray, List.getElem_cons_zero, List.getElem_cons_succ, List.setIfInBounds_toArray, List.set_cons_zero, List.set_cons_succ]
        refine tkH 4 (v := ?v17) rfl ?hy17 ?rest17
        case hy17 => (intro w hSw; go_simp; try with_reducible rfl)
        try simp only [Act.put, List.getElem_toArray, List.getElem_cons_zero, List.getElem_cons_succ, List.setIfInBounds_toArray, List.set_cons_zero, List.set_cons_succ]
        refine tkH 5 (v := ?v18) rfl ?hy18 ?rest18
        case hy18 => (intro w hSw; refine held_loada aggX (.tmp 5) ?_ gx 0 ?_ _ _ (tgC x) hSw.tag (tag_whole x) (tag_room x) <;> rfl)
        try simp only [Act.put, List.getElem_toArray, List.getElem_cons_zero, List.getElem_cons_succ, List.setIfInBounds_toArray, List.set_cons_zero, List.set_cons_succ]
        refine tkH 6 (v := ?v19) rfl ?hy19 ?rest19
        case hy19 => (intro w hSw; refine held_build 51 #[(0, .tmp 32), (1, .tmp 33)] ?_ [(0, .int .u32 (e : Int)), (1, .agg (tgC x).toArray)] (entC ⟨e, x⟩) (build_stamp e x w) ?_ <;> rfl)
        try simp only [Act.put, List.getElem_toArray, List.getElem_cons_zero, List.getElem_cons_succ, List.setIfInBounds_toArray, List.set_cons_zero, List.set_cons_succ]
        refine tkH 7 (v := .agg #[]) rfl ?hy20 ?rest20
        case hy20 => (intro w hSw; refine held_build 49 #[] ?_ [] [] (build_unit w) ?_ <;> rfl)
        try simp only [Act.put, List.getElem_toArray, List.getElem_cons_zero, List.getElem_cons_succ, List.setIfInBounds_toArray, List.set_cons_zero, List.set_cons_succ]
        refine rdH 8 rfl (by kernel_rfl) (fun K hK => ?_)
        refine ite_wanted rfl ?_
        refine wp_put (K := KS) (.tmp 31) (.tmp 34) (.tmp 35) rfl ⟨e, x⟩ rfl rfl rfl (HSEEN.out W0 fr0) HE.out HNEW.out ?_
        intro W1 hm1 f1
        refine hK.out _ _ (HS.out _ ((frm_any fr0 (S := fun k => k = bs)).trans f1 (fun _ _ h => h)) HNG.out HNX.out) (fun hHeld => ?_)
        clear hK K
        refine wpAnyH_done (by kernel_rfl) ?_ _
        clear hHeld
        have HM1 := hide hm1
        have HF1 := hide (((frm_any fr0 (S := fun k => k = bs)).trans f1 (fun _ _ h => h)))
        clear hm1 f1 fr0
        obtain ⟨C, hC, hCk⟩ := (HT.out.frm0 HFR.out).count
        have HC := hide (hC.frm HF1.out (fun e => HT.out.ne e.symm))
        have HCK := hide hCk
        have d1 : W1.cell? ⟨g, 1, none⟩ = some (.map (some bc)) := ((HT.out.frm0 HFR.out).blk.frm HF1.out HNG.out).cell 1
        clear hC hCk
        go_wp2_with (first
          | (refine wpl_held (op := ⟨some 41, _, _, _, _, _⟩) _ (held_count HC.out HCK.out he (.tmp 39) (.tmp 40) rfl rfl rfl) rfl ?_; rw [show cnt t.l e = cn from HCN.out.symm])
          | (refine wpl_bump (C := C) (l := t.l) (e := e) x rfl (.tmp 39) (.tmp 40) (.tmp 42) rfl _ rfl rfl rfl (by rw [show cnt t.l e = cn from HCN.out.symm]; go_num) HC.out HCK.out he ?_; intro w9 C9 hC9 hCk9 f9))
        go_ret
        have f19 : Frm (Of g bs bc) wr w9 := (HF1.out.mono (T := Of g bs bc) (fun _ _ h => .inr (.inl h))).trans f9 (fun _ _ h => .inr (.inr h))
        refine ⟨rfl, ⟨HT.out.base, ((HT.out.frm0 HFR.out).blk.frm HF1.out HNG.out).frm f9 (fun e => HT.out.neg.2 e.symm), HM1.out.frm f9 HT.out.ne, ⟨C9, hC9, hCk9⟩, HT.out.ne, HOK.out⟩, (frm_any HFR.out).trans f19 (fun _ _ h => h)⟩
end Go.Proofs.Ytdilfiojfjgejaa
