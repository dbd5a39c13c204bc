/-
  The document's own tags: what they are in memory; New, Len, Has.
-/
import Derived.Test.YtdilfiojfjgejaaRpEq
namespace Go.Proofs.Ytdilfiojfjgejaa
set_option linter.unusedVariables false
set_option linter.unusedSimpArgs false
open Go.RowKit

theorem isE : IsT Try.prog 53 38 entK := IsT.of 20 (by decide) (by decide) (by kernel_rfl) Try.underlying38 (by kernel_rfl) (by decide)
theorem wd17 : entK.wd = 17 := rfl
/-- The document's tags in block g. -/
def RAt (w : World) (B g : Nat) (t : T) : Prop :=
  B ≤ g ∧ ∃ A n c, Blk w g 40 #[.int .i64 (t.most : Int), .slice A n c, .int .u32 (t.floor : Int)] ∧ TOwn w 53 entK B A n c t.l
section
variable {w w' : World} {B g : Nat} {t : T}
theorem RAt.frm0 (h : RAt w B g t) (f : Frm (fun _ => False) w w') : RAt w' B g t := by
  obtain ⟨h1, A, n, c, hb, ho⟩ := h
  exact ⟨h1, A, n, c, hb.frm f (fun h => h), ho.frm0 f⟩
theorem RAt.base {B' : Nat} (h : RAt w B g t) (hB : B' ≤ B) : RAt w B' g t := by
  obtain ⟨h1, A, n, c, hb, ho⟩ := h
  exact ⟨Nat.le_trans hB h1, A, n, c, hb, ho.base hB⟩
theorem RAt.lt (h : RAt w B g t) : B ≤ g ∧ g < w.heap.size := by obtain ⟨h1, A, n, c, hb, ho⟩ := h; exact ⟨h1, hb.lt⟩
end
set_option maxHeartbeats 1000000 in
theorem rnew_any (m : Int) (w : World) : Calls Try.prog 10 #[.int .i64 m] w fun e w' => ∃ g, e = .returned (.pointer (some ⟨g, 0, none⟩)) ∧ RAt w' w.heap.size g (newT m) ∧ Frm (fun _ => False) w w' := by
  obtain ⟨k, hk⟩ : ∃ k, k = if m < 1 then 1 else m := ⟨_, rfl⟩
  have HK := hide hk
  have HM : Hid (((newT m).most : Int) = k) := by show _ = _; rw [hk]; exact newT_most m
  clear hk
  go_enter Try.func10, Try.ntmps10
  go_wp2_with (refine wpl_max rfl (.tmp 3) (.const (.int .i64 1)) _ _ rfl _ m 1 k rfl rfl HK.out ?_)
  go_ret
  refine ⟨_, rfl, ⟨Nat.le_refl _, none, 0, 0, ?_, TOwn.nil _ _⟩, Frm.alloc _ _ _⟩
  have := Blk.new w 40 #[.int .i64 k, .slice none 0 0, .int .u32 0]
  rw [HM.out]
  exact this
theorem cnt_take {l : List Ent} {j : Nat} (hj : j < l.length) (e : Nat) : cnt (l.take (j + 1)) e = cnt (l.take j) e + if (at_ entK l j).e = e then 1 else 0 := by
  rw [← List.take_append_getElem hj, cnt_append, cnt_one, at_eq hj]

set_option maxHeartbeats 4000000 in
set_option maxRecDepth 100000 in
theorem rlen_any (B g : Nat) (t : T) (e : Nat) (he : e < 4294967296) (hs : t.l.length ≤ 1000000) (w : World) (h : RAt w B g t) :
    Calls Try.prog 18 #[.pointer (some ⟨g, 0, none⟩), .int .u32 (e : Int)] w fun r w' => r = .returned (.int .i64 (t.len e : Int)) ∧ w' = w := by
  obtain ⟨_, A, n, c, hb, ho⟩ := h
  obtain ⟨l, hl⟩ : ∃ l, l = t.l := ⟨_, rfl⟩
  unfold T.len
  rw [← hl] at ho hs ⊢
  have hn := ho.len
  rw [hn] at hs
  have d0 : w.cell? ⟨g, 1, none⟩ = some (.slice A n c) := hb.cell 1
  have HO := hide ho
  have HN := hide hn
  clear hb ho hl hn
  go_enter Try.func18, Try.ntmps18
  go_wp2_with fail
  go_loopw [5, 6] (fun s i wr => ∃ j : Nat, j ≤ n ∧ i = .int .i64 (j : Int) ∧ s = .int .i64 (cnt (l.take j) e : Int) ∧ wr = w) (fun _ i _ => n - (intOf i).toNat)
  case atStart => exact ⟨0, by omega, rfl, rfl, rfl⟩
  case round =>
    obtain ⟨j, hj, rfl, rfl, rfl⟩ := hrel
    by_cases hjn : j < n
    · have hjn' : (j : Int) < (n : Int) := by omega
      have hjl : j < l.length := by rw [HN.out]; exact hjn
      rcases HO.out.row with ⟨_, h0, _, _⟩ | ⟨r, rfl, hB, hr⟩
      · omega
      · have hcj := hr.cell j 0 hjl (by decide)
        have hct := cnt_take hjl e
        obtain ⟨cj, hcjj⟩ : ∃ k, k = cnt (l.take j) e := ⟨_, rfl⟩
        have hcb : cj ≤ j := by rw [hcjj]; exact Nat.le_trans (cnt_le _ _) (by rw [List.length_take]; omega)
        rw [← hcjj] at hct ⊢
        obtain ⟨ej, hej⟩ : ∃ k, k = (at_ entK l j).e := ⟨_, rfl⟩
        have hcj : wr.cell? ⟨r, j * 17, none⟩ = some (.int .u32 (ej : Int)) := by rw [hej]; exact hcj
        rw [← hej] at hct
        clear hr hcjj hej
        by_cases hee : ej = e
        · rw [if_pos hee] at hct
          have HCT := hide hct
          have hei : (ej : Int) = (e : Int) := by omega
          clear hct hee
          go_wp2_with fail
          go_roundw
          case rel => exact ⟨j + 1, by omega, by go_num, (by rw [HCT.out]; go_num), (by first | rfl | trivial)⟩
          case measure => simp [intOf]; omega
        · rw [if_neg hee] at hct
          have HCT := hide hct
          have hei : ¬ (ej : Int) = (e : Int) := by omega
          clear hct hee
          go_wp2_with fail
          go_roundw
          case rel => exact ⟨j + 1, by omega, by go_num, (by rw [HCT.out]; go_num), (by first | rfl | trivial)⟩
          case measure => simp [intOf]; omega
    · obtain rfl : j = n := by omega
      have hjn' : ¬ (j : Int) < (j : Int) := by omega
      have HT : Hid (l.take j = l) := List.take_of_length_le (by rw [HN.out]; exact Nat.le_refl _)
      rw [HT.out]
      go_wp2_with fail
      go_ret
      exact ⟨rfl, rfl⟩

/-- What the look through the row reads. -/
structure HrS (r g gx j n c : Nat) (l : List Ent) (x : Tg) (W : World) : Prop where
  row : RowB W 53 entK r c l
  lt : j < l.length
  ge : W.cell? ⟨g, 1, none⟩ = some (.slice (some ⟨r, 0, none⟩) n c)
  de : W.cell? ⟨r, j * 17, none⟩ = some (.int .u32 ((at_ entK l j).e : Int))
  tag : Blk W gx 30 (tgC x).toArray
theorem held_tagent {r j c : Nat} {D : List Ent} {W : World} (h : RowB W 53 entK r c D) (hj : j < D.length) {o : Oper} {a : Act} (x : Operand) (ho : o.op = .load 30 x) (off : Nat) (hx : a.eval x = .pointer (some ⟨r, off, none⟩)) (hoff : off = j * 17 + 1) :
    (execOp a.eval o).run Try.prog W = .ok (.value (.agg (tgC (at_ entK D j).x).toArray)) W := by
  subst hoff
  obtain ⟨rest, hb, h1, h2⟩ := h
  have hix : j * 17 + 16 < D.length * 17 := ix_lt (W := 17) hj (by decide)
  refine held_loada aggX x ho r (j * 17 + 1) hx _ (cellsT entK D ++ rest) (tgC (at_ entK D j).x) hb ?_ ?_
  · have h3 := cellsT_mid (κ := entK) D j rest hj
    rw [wd17] at h3
    have h4 : (((cellsT entK D ++ rest).drop (j * 17)).drop 1).take 16 = ((((cellsT entK D ++ rest).drop (j * 17)).take 17).drop 1).take 16 := by
      rw [List.drop_take, List.take_take]
      rfl
    rw [← List.drop_drop, h4, h3]
    show (tgC _).take 16 = _
    exact List.take_of_length_le (by rw [tgC_length]; exact Nat.le_refl _)
  · rw [List.length_append, cellsT_length, wd17]
    omega
theorem mem_take_succ {l : List Ent} {j : Nat} (hj : j < l.length) {s : Ent} (h0 : s ∉ l.take j) (h1 : at_ entK l j ≠ s) : s ∉ l.take (j + 1) := by
  rw [← List.take_append_getElem hj, List.mem_append, List.mem_singleton]
  rw [at_eq hj] at h1
  rintro (h | h)
  · exact h0 h
  · exact h1 h.symm
theorem mem_at {l : List Ent} {j : Nat} (hj : j < l.length) {s : Ent} (h : at_ entK l j = s) : s ∈ l := by
  rw [at_eq hj] at h
  rw [← h]
  exact List.getElem_mem hj

set_option maxHeartbeats 8000000 in
set_option maxRecDepth 100000 in
theorem rhas_any (B g : Nat) (t : T) (x : Ent) (he : x.e < 4294967296) (hs : t.l.length ≤ 1000000) (w : World) (h : RAt w B g t) :
    Calls Try.prog 16 #[.pointer (some ⟨g, 0, none⟩), .int .u32 (x.e : Int), .agg (tgC x.x).toArray] w fun r w' => r = .returned (.bool (t.has x.e x.x)) ∧ Frm (fun _ => False) w w' := by
  obtain ⟨_, A, n, c, hb, ho⟩ := h
  obtain ⟨l, hl⟩ : ∃ l, l = t.l := ⟨_, rfl⟩
  unfold T.has
  rw [← hl] at ho hs ⊢
  have hn := ho.len
  rw [hn] at hs
  have HB := hide hb
  have HO := hide ho
  have HN := hide hn
  clear hb ho hl hn
  show Calls _ _ _ _ fun r w' => r = .returned (.bool (decide (x ∈ l))) ∧ _
  obtain ⟨bx, hbx⟩ : ∃ b, b = decide (x ∈ l) := ⟨_, rfl⟩
  have HBX := hide hbx
  rw [← hbx]
  clear hbx
  go_enter Try.func16, Try.ntmps16
  go_wp2_with ((refine wpl_boxa (op := ⟨some 5, _, _, _, _, _⟩) rfl _ (.tmp 2) rfl (tgC x.x) rfl ?_); intro gx wx hX hgx fx; have HX := hide hX; have HFX := hide fx; clear hX hgx fx)
  go_loopw [7] (fun i wr => ∃ j : Nat, j ≤ n ∧ i = .int .i64 (j : Int) ∧ x ∉ l.take j ∧ Frm (fun _ => False) wx wr) (fun i _ => n - (intOf i).toNat)
  case atStart => exact ⟨0, by omega, rfl, by simp, Frm.refl _ _⟩
  case round =>
    obtain ⟨j, hj, rfl, hno, hf⟩ := hrel
    have HF := hide hf
    have HNO := hide hno
    have d0 : wr.cell? ⟨g, 1, none⟩ = some (.slice A n c) := (HB.out.frm (frm_ft HFX.out hf) (fun h => h)).cell 1
    clear hf hno
    by_cases hjn : j < n
    · have hjn' : (j : Int) < (n : Int) := by omega
      have hjl : j < l.length := by rw [HN.out]; exact hjn
      obtain ⟨r, rfl, HR⟩ : ∃ r, A = some ⟨r, 0, none⟩ ∧ Hid (RowB w 53 entK r c l) := by
        rcases HO.out.row with ⟨_, h0, _, _⟩ | ⟨r, rfl, hB, hr⟩
        · omega
        · exact ⟨r, rfl, hr⟩
      have HS : Hid (∀ W, Frm (fun _ => False) wr W → HrS r g gx j n c l x.x W) := fun W f => by
        have hf := frm_ft HFX.out (frm_ft HF.out f)
        have hr := HR.out.frm0 hf
        exact ⟨hr, hjl, (HB.out.frm hf (fun h => h)).cell 1, hr.cell j 0 hjl (by decide), HX.out.frm (frm_ft HF.out f) (fun h => h)⟩
      by_cases hee : (at_ entK l j).e = x.e
      · have hei : ((at_ entK l j).e : Int) = (x.e : Int) := by rw [hee]
        by_cases hxx : (at_ entK l j).x = x.x
        · have HEQ : Hid (∀ w, (Op.equalIn 10000 30 (.agg (tgC (at_ entK l j).x).toArray) (.agg (tgC x.x).toArray)).run Try.prog w = .ok true w) := fun w => by rw [eq_tag, decide_eq_true hxx]
          have HIS : Hid (bx = true) := by
            show _ = _
            rw [HBX.out]
            refine decide_eq_true (mem_at hjl ?_)
            generalize at_ entK l j = s at hee hxx
            cases s; cases x
            simp only at hee hxx
            rw [hee, hxx]
          clear hxx hee
          go_wp2_with fail
          refine wp_region_held_drew (S := HrS r g gx j n c l x.x) (by kernel_rfl) (HS.out _ ((Frm.refl _ _).drew)) ?_
          intro hHeld
          obtain ⟨W0, hW0⟩ : ∃ W', W' = wr.drew := ⟨_, rfl⟩
          have fr0 : Frm (fun _ => False) wr W0 := by rw [hW0]; exact (Frm.refl _ _).drew
          rw [← hW0] at hHeld ⊢
          clear hW0
          refine tkH 0 (v := ?v1) rfl ?hy1 ?rest1
          case hy1 => (intro w hSw; go_simp; try with_reducible rfl)
          try simp only [Act.put, List.getElem_toArray, List.getElem_cons_zero, List.getElem_cons_succ, List.setIfInBounds_toArray, List.set_cons_zero, List.set_cons_succ]
          refine tkH 1 (v := ?v2) rfl ?hy2 ?rest2
          case hy2 => (intro w hSw; go_simp; try with_reducible rfl)
          try simp only [Act.put, List.getElem_toArray, List.getElem_cons_zero, List.getElem_cons_succ, List.setIfInBounds_toArray, List.set_cons_zero, List.set_cons_succ]
          refine tkH 2 (v := ?v3) rfl ?hy3 ?rest3
          case hy3 => (intro w hSw; go_simp; try with_reducible rfl)
          try simp only [Act.put, List.getElem_toArray, List.getElem_cons_zero, List.getElem_cons_succ, List.setIfInBounds_toArray, List.set_cons_zero, List.set_cons_succ]
          refine tkH 3 (v := ?v4) rfl ?hy4 ?rest4
          case hy4 => (intro w hSw; have hSa := hSw.ge; go_simp; try with_reducible rfl)
          try simp only [Act.put, List.getElem_toArray, List.getElem_cons_zero, List.getElem_cons_succ, List.setIfInBounds_toArray, List.set_cons_zero, List.set_cons_succ]
          refine tkH 4 (v := ?v5) rfl ?hy5 ?rest5
          case hy5 => (intro w hSw; go_simp; try with_reducible rfl)
          try simp only [Act.put, List.getElem_toArray, List.getElem_cons_zero, List.getElem_cons_succ, List.setIfInBounds_toArray, List.set_cons_zero, List.set_cons_succ]
          refine tkH 5 (v := ?v6) rfl ?hy6 ?rest6
          case hy6 => (intro w hSw; go_simp; try with_reducible rfl)
          try simp only [Act.put, List.getElem_toArray, List.getElem_cons_zero, List.getElem_cons_succ, List.setIfInBounds_toArray, List.set_cons_zero, List.set_cons_succ]
          refine tkH 6 (v := ?v7) rfl ?hy7 ?rest7
          case hy7 => (intro w hSw; go_simp; try with_reducible rfl)
          try simp only [Act.put, List.getElem_toArray, List.getElem_cons_zero, List.getElem_cons_succ, List.setIfInBounds_toArray, List.set_cons_zero, List.set_cons_succ]
          refine tkH 7 (v := ?v8) rfl ?hy8 ?rest8
          case hy8 => (intro w hSw; have hSa := hSw.de; go_simp; try with_reducible rfl)
          try simp only [Act.put, List.getElem_toArray, List.getElem_cons_zero, List.getElem_cons_succ, List.setIfInBounds_toArray, List.set_cons_zero, List.set_cons_succ]
          refine tkH 8 (v := ?v9) rfl ?hy9 ?rest9
          case hy9 => (intro w hSw; go_simp; try with_reducible rfl)
          try simp only [Act.put, List.getElem_toArray, List.getElem_cons_zero, List.getElem_cons_succ, List.setIfInBounds_toArray, List.set_cons_zero, List.set_cons_succ]
          refine tkH 9 (v := .bool true) rfl ?hy10 ?rest10
          case hy10 => (intro w hSw; go_simp)
          try simp only [Act.put, List.getElem_toArray, List.getElem_cons_zero, List.getElem_cons_succ, List.setIfInBounds_toArray, List.set_cons_zero, List.set_cons_succ]
          refine tkH 10 (v := ?v11) rfl ?hy11 ?rest11
          case hy11 => (intro w hSw; go_simp; try with_reducible rfl)
          try simp only [Act.put, List.getElem_toArray, List.getElem_cons_zero, List.getElem_cons_succ, List.setIfInBounds_toArray, List.set_cons_zero, List.set_cons_succ]
          refine tkH 11 (v := ?v12) rfl ?hy12 ?rest12
          case hy12 => (intro w hSw; go_simp; try with_reducible rfl)
          try simp only [Act.put, List.getElem_toArray, List.getElem_cons_zero, List.getElem_cons_succ, List.setIfInBounds_toArray, List.set_cons_zero, List.set_cons_succ]
          refine tkH 12 (v := ?v13) rfl ?hy13 ?rest13
          case hy13 => (intro w hSw; go_simp; try with_reducible rfl)
          try simp only [Act.put, List.getElem_toArray, List.getElem_cons_zero, List.getElem_cons_succ, List.setIfInBounds_toArray, List.set_cons_zero, List.set_cons_succ]
          refine tkH 13 (v := ?v14) rfl ?hy14 ?rest14
          case hy14 => (intro w hSw; go_simp; try with_reducible rfl)
          try simp only [Act.put, List.getElem_toArray, List.getElem_cons_zero, List.getElem_cons_succ, List.setIfInBounds_toArray, List.set_cons_zero, List.set_cons_succ]
          refine tkH 14 (v := ?v15) rfl ?hy15 ?rest15
          case hy15 => (intro w hSw; have hSa := hSw.ge; go_simp; try with_reducible rfl)
          try simp only [Act.put, List.getElem_toArray, List.getElem_cons_zero, List.getElem_cons_succ, List.setIfInBounds_toArray, List.set_cons_zero, List.set_cons_succ]
          refine tkH 15 (v := ?v16) rfl ?hy16 ?rest16
          case hy16 => (intro w hSw; go_simp; try with_reducible rfl)
          try simp only [Act.put, List.getElem_toArray, List.getElem_cons_zero, List.getElem_cons_succ, List.setIfInBounds_toArray, List.set_cons_zero, List.set_cons_succ]
          refine tkH 16 (v := ?v17) rfl ?hy17 ?rest17
          case hy17 => (intro w hSw; go_simp; try with_reducible rfl)
          try simp only [Act.put, List.getElem_toArray, List.getElem_cons_zero, List.getElem_cons_succ, List.setIfInBounds_toArray, List.set_cons_zero, List.set_cons_succ]
          refine tkH 17 (v := ?v18) rfl ?hy18 ?rest18
          case hy18 => (intro w hSw; go_simp; try with_reducible rfl)
          try simp only [Act.put, List.getElem_toArray, List.getElem_cons_zero, List.getElem_cons_succ, List.setIfInBounds_toArray, List.set_cons_zero, List.set_cons_succ]
          refine tkH 18 (v := .agg (tgC (at_ entK l j).x).toArray) rfl ?hy19 ?rest19
          case hy19 => (intro w hSw; refine held_tagent hSw.row hSw.lt (.tmp 34) ?_ _ ?_ rfl <;> rfl)
          try simp only [Act.put, List.getElem_toArray, List.getElem_cons_zero, List.getElem_cons_succ, List.setIfInBounds_toArray, List.set_cons_zero, List.set_cons_succ]
          refine tkH 19 (v := .agg (tgC x.x).toArray) rfl ?hy20 ?rest20
          case hy20 => (intro w hSw; refine held_loada aggX (.tmp 5) ?_ gx 0 ?_ _ _ (tgC x.x) hSw.tag (tag_whole _) (tag_room _) <;> rfl)
          try simp only [Act.put, List.getElem_toArray, List.getElem_cons_zero, List.getElem_cons_succ, List.setIfInBounds_toArray, List.set_cons_zero, List.set_cons_succ]
          refine tkH 20 (v := .bool true) rfl ?hy21 ?rest21
          case hy21 => (intro w hSw; refine held_eql 30 30 (.tmp 35) (.tmp 36) ?_ (tgC (at_ entK l j).x) (tgC x.x) ?_ ?_ _ (HEQ.out _) tag_guard <;> rfl)
          try simp only [Act.put, List.getElem_toArray, List.getElem_cons_zero, List.getElem_cons_succ, List.setIfInBounds_toArray, List.set_cons_zero, List.set_cons_succ]
          refine tkH 21 (v := ?v22) rfl ?hy22 ?rest22
          case hy22 => (intro w hSw; go_simp; try with_reducible rfl)
          try simp only [Act.put, List.getElem_toArray, List.getElem_cons_zero, List.getElem_cons_succ, List.setIfInBounds_toArray, List.set_cons_zero, List.set_cons_succ]
          refine wpAnyH_done (by kernel_rfl) ?_ _
          clear hHeld
          go_wp2_with fail
          go_ret
          exact ⟨(by rw [HIS.out]; rfl), frm_ft HFX.out (frm_ft HF.out fr0)⟩
        · have HEQ : Hid (∀ w, (Op.equalIn 10000 30 (.agg (tgC (at_ entK l j).x).toArray) (.agg (tgC x.x).toArray)).run Try.prog w = .ok false w) := fun w => by rw [eq_tag, decide_eq_false hxx]
          have HNX : Hid (x ∉ l.take (j + 1)) := mem_take_succ hjl HNO.out (fun e => hxx (by rw [e]))
          clear hxx hee
          go_wp2_with fail
          refine wp_region_held_drew (S := HrS r g gx j n c l x.x) (by kernel_rfl) (HS.out _ ((Frm.refl _ _).drew)) ?_
          intro hHeld
          obtain ⟨W0, hW0⟩ : ∃ W', W' = wr.drew := ⟨_, rfl⟩
          have fr0 : Frm (fun _ => False) wr W0 := by rw [hW0]; exact (Frm.refl _ _).drew
          rw [← hW0] at hHeld ⊢
          clear hW0
          refine tkH 0 (v := ?v23) rfl ?hy23 ?rest23
          case hy23 => (intro w hSw; go_simp; try with_reducible rfl)
          try simp only [Act.put, List.getElem_toArray, List.getElem_cons_zero, List.getElem_cons_succ, List.setIfInBounds_toArray, List.set_cons_zero, List.set_cons_succ]
          refine tkH 1 (v := ?v24) rfl ?hy24 ?rest24
          case hy24 => (intro w hSw; go_simp; try with_reducible rfl)
          try simp only [Act.put, List.getElem_toArray, List.getElem_cons_zero, List.getElem_cons_succ, List.setIfInBounds_toArray, List.set_cons_zero, List.set_cons_succ]
          refine tkH 2 (v := ?v25) rfl ?hy25 ?rest25
          case hy25 => (intro w hSw; go_simp; try with_reducible rfl)
          try simp only [Act.put, List.getElem_toArray, List.getElem_cons_zero, List.getElem_cons_succ, List.setIfInBounds_toArray, List.set_cons_zero, List.set_cons_succ]
          refine tkH 3 (v := ?v26) rfl ?hy26 ?rest26
          case hy26 => (intro w hSw; have hSa := hSw.ge; go_simp; try with_reducible rfl)
          try simp only [Act.put, List.getElem_toArray, List.getElem_cons_zero, List.getElem_cons_succ, List.setIfInBounds_toArray, List.set_cons_zero, List.set_cons_succ]
          refine tkH 4 (v := ?v27) rfl ?hy27 ?rest27
          case hy27 => (intro w hSw; go_simp; try with_reducible rfl)
          try simp only [Act.put, List.getElem_toArray, List.getElem_cons_zero, List.getElem_cons_succ, List.setIfInBounds_toArray, List.set_cons_zero, List.set_cons_succ]
          refine tkH 5 (v := ?v28) rfl ?hy28 ?rest28
          case hy28 => (intro w hSw; go_simp; try with_reducible rfl)
          try simp only [Act.put, List.getElem_toArray, List.getElem_cons_zero, List.getElem_cons_succ, List.setIfInBounds_toArray, List.set_cons_zero, List.set_cons_succ]
          refine tkH 6 (v := ?v29) rfl ?hy29 ?rest29
          case hy29 => (intro w hSw; go_simp; try with_reducible rfl)
          try simp only [Act.put, List.getElem_toArray, List.getElem_cons_zero, List.getElem_cons_succ, List.setIfInBounds_toArray, List.set_cons_zero, List.set_cons_succ]
          refine tkH 7 (v := ?v30) rfl ?hy30 ?rest30
          case hy30 => (intro w hSw; have hSa := hSw.de; go_simp; try with_reducible rfl)
          try simp only [Act.put, List.getElem_toArray, List.getElem_cons_zero, List.getElem_cons_succ, List.setIfInBounds_toArray, List.set_cons_zero, List.set_cons_succ]
          refine tkH 8 (v := ?v31) rfl ?hy31 ?rest31
          case hy31 => (intro w hSw; go_simp; try with_reducible rfl)
          try simp only [Act.put, List.getElem_toArray, List.getElem_cons_zero, List.getElem_cons_succ, List.setIfInBounds_toArray, List.set_cons_zero, List.set_cons_succ]
          refine tkH 9 (v := .bool true) rfl ?hy32 ?rest32
          case hy32 => (intro w hSw; go_simp)
          try simp only [Act.put, List.getElem_toArray, List.getElem_cons_zero, List.getElem_cons_succ, List.setIfInBounds_toArray, List.set_cons_zero, List.set_cons_succ]
          refine tkH 10 (v := ?v33) rfl ?hy33 ?rest33
          case hy33 => (intro w hSw; go_simp; try with_reducible rfl)
          try simp only [Act.put, List.getElem_toArray, List.getElem_cons_zero, List.getElem_cons_succ, List.setIfInBounds_toArray, List.set_cons_zero, List.set_cons_succ]
          refine tkH 11 (v := ?v34) rfl ?hy34 ?rest34
          case hy34 => (intro w hSw; go_simp; try with_reducible rfl)
          try simp only [Act.put, List.getElem_toArray, List.getElem_cons_zero, List.getElem_cons_succ, List.setIfInBounds_toArray, List.set_cons_zero, List.set_cons_succ]
          refine tkH 12 (v := ?v35) rfl ?hy35 ?rest35
          case hy35 => (intro w hSw; go_simp; try with_reducible rfl)
          try simp only [Act.put, List.getElem_toArray, List.getElem_cons_zero, List.getElem_cons_succ, List.setIfInBounds_toArray, List.set_cons_zero, List.set_cons_succ]
          refine tkH 13 (v := ?v36) rfl ?hy36 ?rest36
          case hy36 => (intro w hSw; go_simp; try with_reducible rfl)
          try simp only [Act.put, List.getElem_toArray, List.getElem_cons_zero, List.getElem_cons_succ, List.setIfInBounds_toArray, List.set_cons_zero, List.set_cons_succ]
          refine tkH 14 (v := ?v37) rfl ?hy37 ?rest37
          case hy37 => (intro w hSw; have hSa := hSw.ge; go_simp; try with_reducible rfl)
          try simp only [Act.put, List.getElem_toArray, List.getElem_cons_zero, List.getElem_cons_succ, List.setIfInBounds_toArray, List.set_cons_zero, List.set_cons_succ]
          refine tkH 15 (v := ?v38) rfl ?hy38 ?rest38
          case hy38 => (intro w hSw; go_simp; try with_reducible rfl)
          try simp only [Act.put, List.getElem_toArray, List.getElem_cons_zero, List.getElem_cons_succ, List.setIfInBounds_toArray, List.set_cons_zero, List.set_cons_succ]
          refine tkH 16 (v := ?v39) rfl ?hy39 ?rest39
          case hy39 => (intro w hSw; go_simp; try with_reducible rfl)
          try simp only [Act.put, List.getElem_toArray, List.getElem_cons_zero, List.getElem_cons_succ, List.setIfInBounds_toArray, List.set_cons_zero, List.set_cons_succ]
          refine tkH 17 (v := ?v40) rfl ?hy40 ?rest40
          case hy40 => (intro w hSw; go_simp; try with_reducible rfl)
          try simp only [Act.put, List.getElem_toArray, List.getElem_cons_zero, List.getElem_cons_succ, List.setIfInBounds_toArray, List.set_cons_zero, List.set_cons_succ]
          refine tkH 18 (v := .agg (tgC (at_ entK l j).x).toArray) rfl ?hy41 ?rest41
          case hy41 => (intro w hSw; refine held_tagent hSw.row hSw.lt (.tmp 34) ?_ _ ?_ rfl <;> rfl)
          try simp only [Act.put, List.getElem_toArray, List.getElem_cons_zero, List.getElem_cons_succ, List.setIfInBounds_toArray, List.set_cons_zero, List.set_cons_succ]
          refine tkH 19 (v := .agg (tgC x.x).toArray) rfl ?hy42 ?rest42
          case hy42 => (intro w hSw; refine held_loada aggX (.tmp 5) ?_ gx 0 ?_ _ _ (tgC x.x) hSw.tag (tag_whole _) (tag_room _) <;> rfl)
          try simp only [Act.put, List.getElem_toArray, List.getElem_cons_zero, List.getElem_cons_succ, List.setIfInBounds_toArray, List.set_cons_zero, List.set_cons_succ]
          refine tkH 20 (v := .bool false) rfl ?hy43 ?rest43
          case hy43 => (intro w hSw; refine held_eql 30 30 (.tmp 35) (.tmp 36) ?_ (tgC (at_ entK l j).x) (tgC x.x) ?_ ?_ _ (HEQ.out _) tag_guard <;> rfl)
          try simp only [Act.put, List.getElem_toArray, List.getElem_cons_zero, List.getElem_cons_succ, List.setIfInBounds_toArray, List.set_cons_zero, List.set_cons_succ]
          refine tkH 21 (v := ?v44) rfl ?hy44 ?rest44
          case hy44 => (intro w hSw; go_simp; try with_reducible rfl)
          try simp only [Act.put, List.getElem_toArray, List.getElem_cons_zero, List.getElem_cons_succ, List.setIfInBounds_toArray, List.set_cons_zero, List.set_cons_succ]
          refine wpAnyH_done (by kernel_rfl) ?_ _
          clear hHeld
          go_wp2_with fail
          go_roundw
          case rel => exact ⟨j + 1, by omega, by go_num, HNX.out, frm_ft HF.out fr0⟩
          case measure => simp [intOf]; omega
      · have hei : ¬ ((at_ entK l j).e : Int) = (x.e : Int) := by omega
        have HNX : Hid (x ∉ l.take (j + 1)) := mem_take_succ hjl HNO.out (fun e => hee (by rw [e]))
        clear hee
        go_wp2_with fail
        refine wp_region_held_drew (S := HrS r g gx j n c l x.x) (by kernel_rfl) (HS.out _ ((Frm.refl _ _).drew)) ?_
        intro hHeld
        obtain ⟨W0, hW0⟩ : ∃ W', W' = wr.drew := ⟨_, rfl⟩
        have fr0 : Frm (fun _ => False) wr W0 := by rw [hW0]; exact (Frm.refl _ _).drew
        rw [← hW0] at hHeld ⊢
        clear hW0
        refine tkH 0 (v := ?v45) rfl ?hy45 ?rest45
        case hy45 => (intro w hSw; go_simp; try with_reducible rfl)
        try simp only [Act.put, List.getElem_toArray, List.getElem_cons_zero, List.getElem_cons_succ, List.setIfInBounds_toArray, List.set_cons_zero, List.set_cons_succ]
        refine tkH 1 (v := ?v46) rfl ?hy46 ?rest46
        case hy46 => (intro w hSw; go_simp; try with_reducible rfl)
        try simp only [Act.put, List.getElem_toArray, List.getElem_cons_zero, List.getElem_cons_succ, List.setIfInBounds_toArray, List.set_cons_zero, List.set_cons_succ]
        refine tkH 2 (v := ?v47) rfl ?hy47 ?rest47
        case hy47 => (intro w hSw; go_simp; try with_reducible rfl)
        try simp only [Act.put, List.getElem_toArray, List.getElem_cons_zero, List.getElem_cons_succ, List.setIfInBounds_toArray, List.set_cons_zero, List.set_cons_succ]
        refine tkH 3 (v := ?v48) rfl ?hy48 ?rest48
        case hy48 => (intro w hSw; have hSa := hSw.ge; go_simp; try with_reducible rfl)
        try simp only [Act.put, List.getElem_toArray, List.getElem_cons_zero, List.getElem_cons_succ, List.setIfInBounds_toArray, List.set_cons_zero, List.set_cons_succ]
        refine tkH 4 (v := ?v49) rfl ?hy49 ?rest49
        case hy49 => (intro w hSw; go_simp; try with_reducible rfl)
        try simp only [Act.put, List.getElem_toArray, List.getElem_cons_zero, List.getElem_cons_succ, List.setIfInBounds_toArray, List.set_cons_zero, List.set_cons_succ]
        refine tkH 5 (v := ?v50) rfl ?hy50 ?rest50
        case hy50 => (intro w hSw; go_simp; try with_reducible rfl)
        try simp only [Act.put, List.getElem_toArray, List.getElem_cons_zero, List.getElem_cons_succ, List.setIfInBounds_toArray, List.set_cons_zero, List.set_cons_succ]
        refine tkH 6 (v := ?v51) rfl ?hy51 ?rest51
        case hy51 => (intro w hSw; go_simp; try with_reducible rfl)
        try simp only [Act.put, List.getElem_toArray, List.getElem_cons_zero, List.getElem_cons_succ, List.setIfInBounds_toArray, List.set_cons_zero, List.set_cons_succ]
        refine tkH 7 (v := ?v52) rfl ?hy52 ?rest52
        case hy52 => (intro w hSw; have hSa := hSw.de; go_simp; try with_reducible rfl)
        try simp only [Act.put, List.getElem_toArray, List.getElem_cons_zero, List.getElem_cons_succ, List.setIfInBounds_toArray, List.set_cons_zero, List.set_cons_succ]
        refine tkH 8 (v := ?v53) rfl ?hy53 ?rest53
        case hy53 => (intro w hSw; go_simp; try with_reducible rfl)
        try simp only [Act.put, List.getElem_toArray, List.getElem_cons_zero, List.getElem_cons_succ, List.setIfInBounds_toArray, List.set_cons_zero, List.set_cons_succ]
        refine tkH 9 (v := .bool false) rfl ?hy54 ?rest54
        case hy54 => (intro w hSw; go_simp)
        try simp only [Act.put, List.getElem_toArray, List.getElem_cons_zero, List.getElem_cons_succ, List.setIfInBounds_toArray, List.set_cons_zero, List.set_cons_succ]
        refine tkH 10 (v := ?v55) rfl ?hy55 ?rest55
        case hy55 => (intro w hSw; go_simp; try with_reducible rfl)
        try simp only [Act.put, List.getElem_toArray, List.getElem_cons_zero, List.getElem_cons_succ, List.setIfInBounds_toArray, List.set_cons_zero, List.set_cons_succ]
        refine wpAnyH_take (i := 11) (v := undef) rfl (by kernel_rfl) (by kernel_rfl) (by kernel_rfl) (fun _ _ _ h => h) (Or.inr ⟨by rfl, rfl⟩) (by assumption) ?rest56
        try simp only [Act.put, List.getElem_toArray, List.getElem_cons_zero, List.getElem_cons_succ, List.setIfInBounds_toArray, List.set_cons_zero, List.set_cons_succ]
        refine wpAnyH_take (i := 12) (v := undef) rfl (by kernel_rfl) (by kernel_rfl) (by kernel_rfl) (fun _ _ _ h => h) (Or.inr ⟨by rfl, rfl⟩) (by assumption) ?rest57
        try simp only [Act.put, List.getElem_toArray, List.getElem_cons_zero, List.getElem_cons_succ, List.setIfInBounds_toArray, List.set_cons_zero, List.set_cons_succ]
        refine wpAnyH_take (i := 13) (v := undef) rfl (by kernel_rfl) (by kernel_rfl) (by kernel_rfl) (fun _ _ _ h => h) (Or.inr ⟨by rfl, rfl⟩) (by assumption) ?rest58
        try simp only [Act.put, List.getElem_toArray, List.getElem_cons_zero, List.getElem_cons_succ, List.setIfInBounds_toArray, List.set_cons_zero, List.set_cons_succ]
        refine wpAnyH_take (i := 14) (v := undef) rfl (by kernel_rfl) (by kernel_rfl) (by kernel_rfl) (fun _ _ _ h => h) (Or.inr ⟨by rfl, rfl⟩) (by assumption) ?rest59
        try simp only [Act.put, List.getElem_toArray, List.getElem_cons_zero, List.getElem_cons_succ, List.setIfInBounds_toArray, List.set_cons_zero, List.set_cons_succ]
        refine wpAnyH_take (i := 15) (v := undef) rfl (by kernel_rfl) (by kernel_rfl) (by kernel_rfl) (fun _ _ _ h => h) (Or.inr ⟨by rfl, rfl⟩) (by assumption) ?rest60
        try simp only [Act.put, List.getElem_toArray, List.getElem_cons_zero, List.getElem_cons_succ, List.setIfInBounds_toArray, List.set_cons_zero, List.set_cons_succ]
        refine wpAnyH_take (i := 16) (v := undef) rfl (by kernel_rfl) (by kernel_rfl) (by kernel_rfl) (fun _ _ _ h => h) (Or.inr ⟨by rfl, rfl⟩) (by assumption) ?rest61
        try simp only [Act.put, List.getElem_toArray, List.getElem_cons_zero, List.getElem_cons_succ, List.setIfInBounds_toArray, List.set_cons_zero, List.set_cons_succ]
        refine wpAnyH_take (i := 17) (v := undef) rfl (by kernel_rfl) (by kernel_rfl) (by kernel_rfl) (fun _ _ _ h => h) (Or.inr ⟨by rfl, rfl⟩) (by assumption) ?rest62
        try simp only [Act.put, List.getElem_toArray, List.getElem_cons_zero, List.getElem_cons_succ, List.setIfInBounds_toArray, List.set_cons_zero, List.set_cons_succ]
        refine wpAnyH_take (i := 18) (v := undef) rfl (by kernel_rfl) (by kernel_rfl) (by kernel_rfl) (fun _ _ _ h => h) (Or.inr ⟨by rfl, rfl⟩) (by assumption) ?rest63
        try simp only [Act.put, List.getElem_toArray, List.getElem_cons_zero, List.getElem_cons_succ, List.setIfInBounds_toArray, List.set_cons_zero, List.set_cons_succ]
        refine wpAnyH_take (i := 19) (v := undef) rfl (by kernel_rfl) (by kernel_rfl) (by kernel_rfl) (fun _ _ _ h => h) (Or.inr ⟨by rfl, rfl⟩) (by assumption) ?rest64
        try simp only [Act.put, List.getElem_toArray, List.getElem_cons_zero, List.getElem_cons_succ, List.setIfInBounds_toArray, List.set_cons_zero, List.set_cons_succ]
        refine wpAnyH_take (i := 20) (v := undef) rfl (by kernel_rfl) (by kernel_rfl) (by kernel_rfl) (fun _ _ _ h => h) (Or.inr ⟨by rfl, rfl⟩) (by assumption) ?rest65
        try simp only [Act.put, List.getElem_toArray, List.getElem_cons_zero, List.getElem_cons_succ, List.setIfInBounds_toArray, List.set_cons_zero, List.set_cons_succ]
        refine tkH 21 (v := ?v66) rfl ?hy66 ?rest66
        case hy66 => (intro w hSw; go_simp; try with_reducible rfl)
        try simp only [Act.put, List.getElem_toArray, List.getElem_cons_zero, List.getElem_cons_succ, List.setIfInBounds_toArray, List.set_cons_zero, List.set_cons_succ]
        refine wpAnyH_done (by kernel_rfl) ?_ _
        clear hHeld
        go_wp2_with fail
        go_roundw
        case rel => exact ⟨j + 1, by omega, by go_num, HNX.out, frm_ft HF.out fr0⟩
        case measure => simp [intOf]; omega
    · obtain rfl : j = n := by omega
      have hjn' : ¬ (j : Int) < (j : Int) := by omega
      have HIS : Hid (bx = false) := by
        show _ = _
        rw [HBX.out]
        have := HNO.out
        rw [List.take_of_length_le (by rw [HN.out]; exact Nat.le_refl _)] at this
        exact decide_eq_false this
      go_wp2_with fail
      go_ret
      exact ⟨(by rw [HIS.out]; rfl), frm_ft HFX.out HF.out⟩
end Go.Proofs.Ytdilfiojfjgejaa
