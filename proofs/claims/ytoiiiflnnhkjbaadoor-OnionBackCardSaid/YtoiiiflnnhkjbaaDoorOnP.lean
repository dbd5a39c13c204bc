/-
  Rows of hops of a law's own: made of none, appended to.
-/
import Derived.Test.YtoiiiflnnhkjbaaDoorOnG
import Derived.Test.YtoiiiflnnhkjbaaDoorOnT
import Derived.Maps.AppendAt
namespace Go.Proofs.YtoiiiflnnhkjbaaDoor
set_option linter.unusedVariables false
set_option linter.unusedSimpArgs false
open Go.RowKit

/-- The cells of hops. -/
def hopsC : List HopL → List Value
  | [] => []
  | h :: l => hopC h ++ hopsC l
theorem hopsC_length : ∀ {l : List HopL}, (∀ h ∈ l, h.ok) → (hopsC l).length = l.length * 54
  | [], _ => rfl
  | h :: l, k => by
    have h1 := hopC_length (k h (by simp))
    have h2 := hopsC_length (l := l) (fun x hx => k x (by simp [hx]))
    simp only [hopsC, List.length_append, List.length_cons, h1, h2]
    omega
theorem hopsC_one : ∀ l, ∀ u ∈ hopsC l, u.oneCell' = true
  | [], u, h => by cases h
  | s :: l, u, h => by
    rcases List.mem_append.1 h with h | h
    · exact hopC_one s u h
    · exact hopsC_one l u h
theorem hopsC_at : ∀ (l : List HopL) (j q : Nat), (∀ h ∈ l, h.ok) → j < l.length → q < 54 → (hopsC l)[j * 54 + q]? = (hopC (l.getD j hop0))[q]?
  | [], j, q, _, h, _ => by simp at h
  | s :: l, 0, q, ho, h, hq => by
    rw [hopsC, Nat.zero_mul, Nat.zero_add, List.getElem?_append_left (by rw [hopC_length (ho s (by simp))]; exact hq)]
    rfl
  | s :: l, j + 1, q, ho, h, hq => by
    have := hopsC_at l j q (fun x hx => ho x (by simp [hx])) (by simpa using h) hq
    have h1 := hopC_length (ho s (by simp))
    rw [hopsC, List.getElem?_append_right (by rw [h1]; omega), h1, show (j + 1) * 54 + q - 54 = j * 54 + q by omega, this]
    rfl
theorem hop_lt {h : HopL} (k : h.ok) {q : Nat} {u : Value} (hq : (hopC h)[q]? = some u) : q < 54 := by
  have := (List.getElem?_eq_some_iff.1 hq).1
  rwa [hopC_length k] at this
/-- A block of hops is a row. -/
theorem row_of_blk {w : World} {g : Nat} {t : TypeId} {l : List HopL} {rest : List Value} (hb : Blk w g t (hopsC l ++ rest).toArray) (ho : ∀ h ∈ l, h.ok) : HRow w (some ⟨g, 0, none⟩) l.length l := by
  refine ⟨rfl, ho, fun _ => ⟨_, rfl, fun k hk q v hv => ?_⟩⟩
  have hq := hop_lt (ho _ (hop_mem hk)) hv
  rw [addr_add, Nat.zero_add, hb.cell, List.getElem?_toArray, List.getElem?_append_left (by rw [hopsC_length ho]; omega), hopsC_at l k q ho hk hq]
  exact hv
theorem hops_cells {w : World} {n : Nat} {l : List HopL} {p : Addr} (h : HRow w (some p) n l) : ∀ j u, (hopsC l)[j]? = some u → w.cell? (p.add j) = some u := by
  intro j u hu
  have hlt := (List.getElem?_eq_some_iff.1 hu).1
  rw [hopsC_length h.ok] at hlt
  have e : j = (j / 54) * 54 + j % 54 := by omega
  have hk : j / 54 < n := by have := h.len; omega
  rw [e] at hu
  rw [hopsC_at l _ _ h.ok (by have := h.len; omega) (Nat.mod_lt _ (by decide))] at hu
  have := h.cell hk _ _ hu
  rw [add_add] at this
  rw [e]
  exact this
theorem infoHb : (Tryd.prog.info? 35).map (fun i => (i.zero, i.size, i.bytes)) = some (some (.agg (hopC hop0).toArray), 54, 80) := by kernel_rfl
theorem infoH_split : ∃ i, Tryd.prog.info? 35 = some i ∧ i.zero = some (.agg (hopC hop0).toArray) ∧ i.size = 54 ∧ i.bytes = 80 := by
  have hi := infoHb
  cases hq : Tryd.prog.info? 35 with
  | none => simp [hq] at hi
  | some i => simp [hq] at hi; exact ⟨i, rfl, hi⟩
theorem run_made0 (w : World) : (Instr.buildSlice 22 0 #[]).run Tryd.prog w = .ok (.slice (some ⟨w.heap.size, 0, none⟩) 0 0) (w.alloc (.cells #[] 35)) := by
  obtain ⟨i, hi, hz, hs, hb⟩ := infoH_split
  simp [Instr.buildSlice, run_underlying Tryd.underlying22, sizeOf, typeInfo, hi, hs, Instr.fill, newRow]
  exact congrArg (fun c => w.alloc (.cells c 35)) (by apply Array.eq_empty_of_size_eq_zero; simp)
theorem wpl_made0 {ops : Array Oper} {rest : List Oper} {op : Oper} {a : Act} {w : World} {Q : Exit → Act → World → Prop} (hgd : op.guard = none) (ho : op.op = .buildSlice 22 0 #[])
    (h : ∀ g w', Blk w' g 35 #[] → w.heap.size ≤ g → Frm (fun _ => False) w w' → wpList Tryd.prog ops Q rest (a.put op.dst (.slice (some ⟨g, 0, none⟩) 0 0)) w') : wpList Tryd.prog ops Q (op :: rest) a w := by
  refine wpList_plain hgd fun K hK => ?_
  unfold Oper.wp execOp
  simp only [ho, List.map_toArray, List.map_nil, Sem.run_bind, run_made0 w, Result.andThen_ok, Sem.run_pure]
  exact hK _ _ (h _ _ (Blk.new _ _ _) (Nat.le_refl _) (Frm.alloc _ _ _))
/-- append of hops to a row of none. -/
theorem run_appH (ty : TypeId) (w : World) (B g : Nat) (hg : Blk w g 35 #[]) (hB : B ≤ g) (A : Option Addr) (m c : Nat) (l : List HopL) (hR : HRow w A m l) (hm : m ≤ 1000) :
    ∃ g' c' rest w', (Builtin.append_ #[22, 22] ty #[.slice (some ⟨g, 0, none⟩) 0 0, .slice A m c]).run Tryd.prog w = .ok (.slice (some ⟨g', 0, none⟩) m c') w' ∧ Blk w' g' 35 (hopsC l ++ rest).toArray ∧ B ≤ g' ∧ m ≤ c' ∧ c' ≤ maxLen ∧ Below B w w' := by
  obtain ⟨i, hi, hz, hs, hbb⟩ := infoH_split
  have hlt := hg.lt
  cases A with
  | none =>
    have h0 : m = 0 := by
      rcases Nat.eq_zero_or_pos m with h | h
      · exact h
      · obtain ⟨p, hp, _⟩ := hR.at' h
        cases hp
    subst h0
    have hl0 : l = [] := List.length_eq_zero_iff.1 hR.len
    subst hl0
    refine ⟨g, 0, [], w, ?_, by simpa [hopsC] using hg, hB, Nat.le_refl _, by decide, Below.refl _ _⟩
    simp [Builtin.append_, run_underlying Tryd.underlying22, sizeOf, typeInfo, hi, hs, Builtin.lenOf, Builtin.firstCells, storeCells]
  | some p =>
    have hown : w.ownsRow B 35 54 (.slice (some ⟨g, 0, none⟩) 0 0) 0 [] := ⟨rfl, .inr ⟨g, 0, #[], rfl, hB, hg, Nat.le_refl _, by decide, rfl, rfl⟩⟩
    obtain ⟨v', w', h2, h3, h4, h6, h5⟩ := run_append_own_at (P := Tryd.prog) w B 22 ty 35 i (.agg (hopC hop0).toArray) 54 80 Tryd.underlying22 hi hz hs hbb rfl (by omega) (.slice (some ⟨g, 0, none⟩) 0 0) 0 [] hown p m c (hopsC l) (by rw [hopsC_length hR.ok, hR.len]) (hops_cells hR) (hopsC_one _) (by simp only [maxLen]; omega) (by omega) (by omega)
    rw [Nat.zero_add, List.nil_append] at h3
    rcases h3.2 with ⟨rfl, _⟩ | ⟨g', cap, cur, rfl, hb', hg', h1, h2', h3', h4'⟩
    · exact absurd (h6.1 rfl).1 (by simp)
    · refine ⟨g', cap, cur.toList.drop (m * 54), w', h2, ?_, hb', h1, h2', ?_⟩
      · have e : hopsC l ++ cur.toList.drop (m * 54) = cur.toList := by rw [← h4']; exact List.take_append_drop _ _
        rw [e, Array.toArray_toList]
        exact hg'
      · refine (Frm.of_grown h4).below (by omega) (fun k hk => ?_)
        have : k = g := by simpa [Value.ownBlock] using hk
        omega
theorem wpl_appH {ops : Array Oper} {rest : List Oper} {op : Oper} {a : Act} {Q : Exit → Act → World → Prop} (hgd : op.guard = none) (s x : Operand)
    (ho : op.op = .call { callee := .builtin .append, args := #[s, x], argTypes := #[22, 22] }) (w : World) (B g : Nat) (hs : a.eval s = .slice (some ⟨g, 0, none⟩) 0 0) (hg : Blk w g 35 #[]) (hB : B ≤ g)
    (A : Option Addr) (m c : Nat) (l : List HopL) (hx : a.eval x = .slice A m c) (hR : HRow w A m l) (hm : m ≤ 1000)
    (h : ∀ g' c' rest' w', Blk w' g' 35 (hopsC l ++ rest').toArray → B ≤ g' → m ≤ c' → c' ≤ maxLen → Below B w w' → wpList Tryd.prog ops Q rest (a.put op.dst (.slice (some ⟨g', 0, none⟩) m c')) w') : wpList Tryd.prog ops Q (op :: rest) a w := by
  obtain ⟨g', c', rest', w', hrun, h1, h2, h3, h4, h5⟩ := run_appH op.type w B g hg hB A m c l hR hm
  refine wpList_plain hgd fun _ hK => ?_
  unfold Oper.wp execOp
  simp only [ho, resolve, invoke, builtin, Sem.run_bind, Sem.run_pure, Result.andThen_ok, List.map_toArray, List.map_cons, List.map_nil, hs, hx, hrun]
  exact hK _ _ (h g' c' rest' w' h1 h2 h3 h4 h5)
end Go.Proofs.YtoiiiflnnhkjbaaDoor
