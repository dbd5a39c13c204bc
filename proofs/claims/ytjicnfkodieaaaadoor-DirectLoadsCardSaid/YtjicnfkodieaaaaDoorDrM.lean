/-
  The map of a directory: a block that holds records, in whatever order; made, added to, counted, ranged over.
-/
import Derived.Test.YtjicnfkodieaaaaDoorDrA
import Derived.Test.YtjicnfkodieaaaaDoorShaLaws
import Derived.Maps.Range
import Derived.DeepKeys4
namespace Go.Proofs.YtjicnfkodieaaaaDoor
set_option linter.unusedVariables false
open Go.RowKit
open Go.MapKept (Stamped stamped_push stamped_empty stamped_iff run_setObj_map)
open Go.ChangeMaps (setBlock heap_setBlock_same heap_setBlock_other)

def keyV (r : Rec) : Value := .agg #[.int .u16 (r.a : Int), .int .u32 (r.f : Int)]
def restV (r : Rec) : Value := .agg #[.int .u32 (r.t : Int), .int .u32 (r.l : Int)]
def recC (r : Rec) : List Value := [.int .u16 (r.a : Int), .int .u32 (r.f : Int), .int .u32 (r.t : Int), .int .u32 (r.l : Int)]
def recV (r : Rec) : Value := .agg (recC r).toArray
theorem recC_length (r : Rec) : (recC r).length = 4 := rfl
theorem recC_one (r : Rec) : ∀ v ∈ recC r, v.oneCell' = true := by
  intro v hv
  simp [recC] at hv
  rcases hv with rfl | rfl | rfl | rfl <;> rfl

theorem laidOutK : laidOutB Tryd.prog = true := by kernel_rfl
theorem rowK : (74 : TypeId) < Tryd.prog.types.size := of_decide_eq_true (by kernel_rfl)
theorem wideK : (match Tryd.prog.underlying 74 with | some (.array _ _) | some (.struct _) => true | _ => false) = true := by rw [Tryd.underlying74]
set_option maxRecDepth 100000 in
theorem lawK : Maps.Keyed Tryd.prog 74 := .of_law (deep_law_laid laidOutK (m := 3) (by omega) rowK (by kernel_rfl) wideK)
theorem keyT : Tryd.prog.keyType 74 = true := by kernel_rfl
theorem cellsK : Tryd.prog.cellsOf 74 = 2 := by kernel_rfl
theorem cellsA : Tryd.prog.cellsOf 25 = 1 := by kernel_rfl
theorem cells32 : Tryd.prog.cellsOf 35 = 1 := by kernel_rfl
set_option maxRecDepth 100000 in
theorem lits_key (d : Nat) (a f : Int) (ha : (Lit.int .u16 a).wf = true) (hf : (Lit.int .u32 f).wf = true) :
    Tryd.prog.keyLits (d + 2) 74 [.int .u16 a, .int .u32 f] = some [.int .u16 a, .int .u32 f] := by
  simp [Program.keyLits, Tryd.underlying74, Tryd.underlying25, Tryd.underlying35, cellsK, cellsA, cells32, ha, hf]
set_option maxRecDepth 100000 in
theorem key_some (r : Rec) (h : r.in32) : ∃ l, keyOf Tryd.prog 74 (keyV r) = some l := by
  have ha : (Lit.int .u16 (r.a : Int)).wf = true := by obtain ⟨h, _⟩ := h; simp [Lit.wf, IntKind.bits, IntKind.signed, IntKind.min, IntKind.max]; omega
  have hf : (Lit.int .u32 (r.f : Int)).wf = true := by obtain ⟨_, h, _⟩ := h; simp [Lit.wf, IntKind.bits, IntKind.signed, IntKind.min, IntKind.max]; omega
  have hs : ∃ d, Tryd.prog.types.size + 1 = d + 2 := ⟨Tryd.prog.types.size - 1, by have h1 : 0 < Tryd.prog.types.size := Nat.lt_of_le_of_lt (Nat.zero_le _) rowK; omega⟩
  obtain ⟨d, hd⟩ := hs
  refine ⟨.string (keyBytes [.int .u16 (r.a : Int), .int .u32 (r.f : Int)]), ?_⟩
  unfold keyOf
  rw [Tryd.underlying74]
  have hfm : (keyV r).formed Tryd.prog 74 = true := by simp [keyV, Value.formed, Tryd.underlying74, cellsK]
  simp only [keyT, hfm, Bool.and_self, if_true]
  rw [hd]
  have : (keyV r).cells.toList = [.int .u16 (r.a : Int), .int .u32 (r.f : Int)] := rfl
  rw [this, lits_key d _ _ ha hf]
  rfl

/-- Block b holds the records of D, each at its key, in whatever order. -/
def MapAt (w : World) (b : Nat) (D : List Rec) : Prop :=
  ∃ (es : Array MapEntry) (clock : Nat) (L : List Rec), w.heap[b]? = some (.map es clock) ∧ Stamped es clock ∧ es.toList.map (fun x => (x.key, x.val)) = L.map (fun r => (keyV r, restV r)) ∧ L.Perm D

theorem MapAt.lt {w : World} {b : Nat} {D : List Rec} (h : MapAt w b D) : b < w.heap.size := by
  obtain ⟨es, clock, L, hb, _⟩ := h
  exact (Array.getElem?_eq_some_iff.1 hb).1
theorem MapAt.frm {S : Nat → Prop} {w w' : World} {b : Nat} {D : List Rec} (h : MapAt w b D) (f : Frm S w w') (hS : ¬ S b) : MapAt w' b D := by
  have hlt := h.lt
  obtain ⟨es, clock, L, hb, r⟩ := h
  exact ⟨es, clock, L, (f.block b hlt hS).trans hb, r⟩
theorem MapAt.ne {w : World} {b g : Nat} {D : List Rec} {t : TypeId} {cs : Array Value} (h : MapAt w b D) (hb : Blk w g t cs) : b ≠ g := by
  rintro rfl
  obtain ⟨es, clock, L, h, _⟩ := h
  unfold Blk at hb
  rw [hb] at h
  cases h
theorem MapAt.made (w : World) : MapAt (w.alloc (.map #[] 0)) w.heap.size [] := ⟨#[], 0, [], heap_alloc_new w _, stamped_empty 0, rfl, .refl _⟩

theorem keyV_inj {x y : Rec} (h : keyV x = keyV y) : x.a = y.a ∧ x.f = y.f := by
  unfold keyV at h
  simp at h
  omega
theorem pair_inj {x y : Rec} (h : (keyV x, restV x) = (keyV y, restV y)) : x = y := by
  injection h with h1 h2
  obtain ⟨h3, h4⟩ := keyV_inj h1
  unfold restV at h2
  simp at h2
  exact Rec.ext' h3 h4 (by omega) (by omega)
theorem pairs_inj : ∀ {l m : List Rec}, l.map (fun r => (keyV r, restV r)) = m.map (fun r => (keyV r, restV r)) → l = m
  | [], [], _ => rfl
  | [], y :: m, h => by cases h
  | x :: l, [], h => by cases h
  | x :: l, y :: m, h => by
    simp only [List.map_cons, List.cons.injEq] at h
    rw [pair_inj h.1, pairs_inj h.2]

theorem setBlock_frm (w : World) (b : Nat) (o : Obj) (hb : b < w.heap.size) : Frm (fun k => k = b) w (setBlock w b o) :=
  ⟨rfl, rfl, rfl, by simp [setBlock], fun i _ hi => by
    simp only [setBlock]
    rw [Array.getElem?_setIfInBounds]
    rw [if_neg (fun e => hi e.symm)]⟩

set_option maxRecDepth 100000 in
/-- One more entry, at a key that no record has. -/
theorem run_put (w : World) (b : Nat) (D : List Rec) (r : Rec) (h : MapAt w b D) (hD : ∀ x ∈ D, x.in32) (hr : r.in32) (hn : ∀ x ∈ D, ¬ (x.a = r.a ∧ x.f = r.f)) (D' : List Rec) (hD' : D'.Perm (r :: D)) :
    ∃ w', (Instr.mapUpdate 67 (.map (some b)) (keyV r) (restV r)).run Tryd.prog w = .ok () w' ∧ MapAt w' b D' ∧ Frm (fun k => k = b) w w' := by
  have hlt := h.lt
  obtain ⟨es, clock, L, hb, hst, hes, hp⟩ := h
  obtain ⟨l, hl⟩ := key_some r hr
  have hin : ∀ e ∈ es.toList, ∃ x ∈ D, e.key = keyV x := by
    intro e he
    have h1 : (e.key, e.val) ∈ es.toList.map (fun x => (x.key, x.val)) := List.mem_map.2 ⟨e, he, rfl⟩
    rw [hes] at h1
    obtain ⟨x, hx, hx'⟩ := List.mem_map.1 h1
    injection hx' with h2 h3
    exact ⟨x, hp.mem_iff.1 hx, h2.symm⟩
  have hks : ∀ e ∈ es.toList, ∃ l, keyOf Tryd.prog 74 e.key = some l := by
    intro e he
    obtain ⟨x, hx, hk⟩ := hin e he
    rw [hk]
    exact key_some x (hD x hx)
  have habs : ∀ e ∈ es.toList, e.key ≠ keyV r := by
    intro e he hk
    obtain ⟨x, hx, hk'⟩ := hin e he
    exact hn x hx (keyV_inj (hk'.symm.trans hk))
  rcases lawK.find w hl es.toList hks with ⟨h1, h2⟩ | ⟨j, e0, h1, h2, h3⟩
  · refine ⟨setBlock w b (.map (es.push ⟨keyV r, restV r, clock⟩) (clock + 1)), ?_, ⟨_, _, L ++ [r], heap_setBlock_same hb _, stamped_push hst habs, by simp [hes], ?_⟩, setBlock_frm _ _ _ hlt⟩
    · simp [Instr.mapUpdate, run_underlying Tryd.underlying67, MapKept.run_getObj_map hb, lawK.check w false hl, h1, run_setObj_map _ hb, Result.andThen, setBlock]
    · exact (List.perm_append_singleton r L).trans ((hp.cons r).trans hD'.symm)
  · exact absurd h3 (habs e0 (List.mem_of_getElem? h2))

/-- How many. -/
theorem run_len (w : World) (b : Nat) (D : List Rec) (h : MapAt w b D) : (Builtin.len_ #[67] 3 #[.map (some b)]).run Tryd.prog w = .ok (.int .i64 (D.length : Int)) w := by
  obtain ⟨es, clock, L, hb, hst, hes, hp⟩ := h
  have hs : es.size = D.length := by
    rw [← hp.length_eq]
    have := congrArg List.length hes
    simpa using this
  simp [Builtin.len_, run_underlying Tryd.underlying67, MapKept.run_getObj_map hb, hs, goInt]

/-- Ranging over it: the records of l are still to come; r is the iterator's block. -/
def Ranging (w : World) (b r : Nat) (D l : List Rec) : Prop :=
  ∃ (es : Array MapEntry) (clock since c0 : Nat) (seen : Array Nat) (L : List Rec), w.heap[b]? = some (.map es clock) ∧ Stamped es clock ∧ es.toList.map (fun x => (x.key, x.val)) = L.map (fun r => (keyV r, restV r)) ∧ L.Perm D ∧
    w.heap[r]? = some (.mapIter (some b) since seen c0) ∧ (∀ x ∈ es.toList, x.born < since) ∧ since ≤ c0 ∧ since ≤ clock ∧
    ∃ lo : List Rec, (leftOf es seen).toList.map (fun x => (x.key, x.val)) = lo.map (fun r => (keyV r, restV r)) ∧ lo.Perm l

theorem Ranging.map {w : World} {b r : Nat} {D l : List Rec} (h : Ranging w b r D l) : MapAt w b D := by
  obtain ⟨es, clock, since, c0, seen, L, hb, hst, hes, hp, _⟩ := h
  exact ⟨es, clock, L, hb, hst, hes, hp⟩
theorem Ranging.lt {w : World} {b r : Nat} {D l : List Rec} (h : Ranging w b r D l) : r < w.heap.size := by
  obtain ⟨es, clock, since, c0, seen, L, hb, hst, hes, hp, hr, _⟩ := h
  exact (Array.getElem?_eq_some_iff.1 hr).1
theorem Ranging.frm {S : Nat → Prop} {w w' : World} {b r : Nat} {D l : List Rec} (h : Ranging w b r D l) (f : Frm S w w') (hb' : ¬ S b) (hr' : ¬ S r) : Ranging w' b r D l := by
  have h1 := h.map.lt
  have h2 := h.lt
  obtain ⟨es, clock, since, c0, seen, L, hb, hst, hes, hp, hr, rest⟩ := h
  exact ⟨es, clock, since, c0, seen, L, (f.block b h1 hb').trans hb, hst, hes, hp, (f.block r h2 hr').trans hr, rest⟩

theorem filter_nil_seen (es : Array MapEntry) : leftOf es #[] = es := by
  unfold leftOf
  simp
theorem perm_lift {es : List MapEntry} {L D : List Rec} (h : es.map (fun x => (x.key, x.val)) = L.map (fun r => (keyV r, restV r))) (k : L.Perm D) : ∃ lo : List Rec, es.map (fun x => (x.key, x.val)) = lo.map (fun r => (keyV r, restV r)) ∧ lo.Perm D := ⟨L, h, k⟩

theorem run_range_dir (w : World) (b : Nat) (D : List Rec) (h : MapAt w b D) :
    ∃ w', (Instr.range 67 (.map (some b))).run Tryd.prog w = .ok (.pointer (some ⟨w.heap.size, 0, none⟩)) w' ∧ Ranging w' b w.heap.size D D ∧ Frm (fun _ => False) w w' ∧ w'.heap.size = w.heap.size + 1 := by
  have hlt := h.lt
  obtain ⟨es, clock, L, hb, hst, hes, hp⟩ := h
  have hb' : (w.alloc (.mapIter (some b) clock #[] clock)).heap[b]? = some (.map es clock) := (Below.heap_alloc w _ b hlt).trans hb
  exact ⟨_, run_range_map w _ _ _ b es clock Tryd.underlying67 hb, ⟨es, clock, clock, clock, #[], L, hb', hst, hes, hp, heap_alloc_new w _, ((stamped_iff es clock).1 hst).1, Nat.le_refl _, Nat.le_refl _, L, by rw [filter_nil_seen]; exact hes, hp⟩, Frm.alloc _ _ _, by simp⟩

theorem map_split {es : List MapEntry} {lo : List Rec} (h : es.map (fun x => (x.key, x.val)) = lo.map (fun r => (keyV r, restV r))) {e : MapEntry} (he : e ∈ es) : ∃ x ∈ lo, e.key = keyV x ∧ e.val = restV x := by
  have h1 : (e.key, e.val) ∈ es.map (fun x => (x.key, x.val)) := List.mem_map.2 ⟨e, he, rfl⟩
  rw [h] at h1
  obtain ⟨x, hx, hx'⟩ := List.mem_map.1 h1
  injection hx' with h2 h3
  exact ⟨x, hx, h2.symm, h3.symm⟩
/-- What is left behind one step. -/
theorem left_push (es : Array MapEntry) (seen : Array Nat) (e : MapEntry) : (leftOf es (seen.push e.born)).toList = (leftOf es seen).toList.filter (fun x => !(x.born == e.born)) := by
  unfold leftOf
  rw [Array.toList_filter, Array.toList_filter, List.filter_filter]
  apply List.filter_congr
  intro x _
  rw [contains_push]
  cases seen.contains x.born <;> cases (x.born == e.born) <;> rfl
theorem filter_out : ∀ (l : List MapEntry) (e : MapEntry), e ∈ l → (l.map (·.born)).Nodup → ∃ a c, l = a ++ e :: c ∧ l.filter (fun x => !(x.born == e.born)) = a ++ c
  | [], e, h, _ => by cases h
  | x :: l, e, h, hn => by
    rw [List.map_cons, List.nodup_cons] at hn
    rcases List.mem_cons.1 h with rfl | h
    · refine ⟨[], l, rfl, ?_⟩
      rw [List.filter_cons_of_neg (by simp), List.nil_append]
      refine List.filter_eq_self.2 fun y hy => ?_
      have : e.born ≠ y.born := fun k => hn.1 (by rw [k]; exact List.mem_map.2 ⟨y, hy, rfl⟩)
      simp [Ne.symm this]
    · obtain ⟨a, c, h1, h2⟩ := filter_out l e h hn.2
      have : x.born ≠ e.born := fun k => hn.1 (by rw [k]; exact List.mem_map.2 ⟨e, h, rfl⟩)
      refine ⟨x :: a, c, by rw [h1]; rfl, ?_⟩
      rw [List.filter_cons_of_pos (by simp [this]), h2]
      rfl

/-- The step: nothing is left, or one of those that are left comes, whichever. -/
theorem run_next_dir (w : World) (ty : TypeId) (b r : Nat) (D l : List Rec) (h : Ranging w b r D l) :
    (l = [] ∧ (Instr.next (.pointer (some ⟨r, 0, none⟩)) false ty).run Tryd.prog w = .ok (.tuple #[.bool false]) w) ∨
    ∃ x l' w', (x :: l').Perm l ∧ (Instr.next (.pointer (some ⟨r, 0, none⟩)) false ty).run Tryd.prog w = .ok (.tuple #[.bool true, keyV x, restV x]) w' ∧ Ranging w' b r D l' ∧ Frm (fun k => k = r) w w' ∧
      (Instr.entry (.pointer (some ⟨r, 0, none⟩))).run Tryd.prog w' = .ok (.tuple #[keyV x, restV x]) w' := by
  obtain ⟨es, clock, since, c0, seen, L, hb, hst, hes, hp, hr, hold, hsc, hsk, lo, hlo, hpl⟩ := h
  rcases run_next_at (P := Tryd.prog) w ty r b since c0 seen es clock hr hb hold hsc with ⟨h0, hrun⟩ | ⟨e, he, w1, hal, hrun⟩
  · left
    have h1 : (leftOf es seen).toList = [] := by rw [Array.toList_eq_nil_iff]; exact Array.eq_empty_of_size_eq_zero h0
    rw [h1] at hlo
    have h2 : lo = [] := by cases lo with | nil => rfl | cons => cases hlo
    subst h2
    exact ⟨(List.nil_perm.1 hpl), hrun⟩
  · right
    obtain ⟨hem, hes'⟩ := mem_left he
    have hne : r ≠ b := by
      rintro rfl
      rw [hb] at hr
      cases hr
    have hst' := (stamped_iff es clock).1 hst
    have hsub : (leftOf es seen).toList.Sublist es.toList := by unfold leftOf; rw [Array.toList_filter]; exact List.filter_sublist
    obtain ⟨a, c, h1, h2⟩ := filter_out _ e he ((hsub.map _).nodup hst'.2.1)
    rw [h1, List.map_append, List.map_cons] at hlo
    obtain ⟨la, lc', e1, e2, e3⟩ := List.map_eq_append_iff.1 hlo.symm
    obtain ⟨x, lc, e4, e5, e6⟩ := List.map_eq_cons_iff.1 e3
    subst e4
    injection e5 with e5 e7
    have hr1 : w1.heap[r]? = some (.mapIter (some b) since seen c0) := by rcases hal with rfl | rfl <;> exact hr
    have hb1 : w1.heap[b]? = some (.map es clock) := by rcases hal with rfl | rfl <;> exact hb
    have hrl := (Array.getElem?_eq_some_iff.1 hr1).1
    have hset := MapKept.heap_set (o' := .mapIter (some b) since (seen.push e.born) clock) hr1
    have hb' : (setBlock w1 r (.mapIter (some b) since (seen.push e.born) clock)).heap[b]? = some (.map es clock) := (hset.2 b (fun e1 => hne e1.symm)).trans hb1
    have hent := run_entry_at (P := Tryd.prog) _ r b since seen es clock e hset.1 hb' hem hst'.2.1
    rw [← e5, ← e7] at hrun hent
    refine ⟨x, la ++ lc, _, ?_, hrun, ⟨es, clock, since, clock, seen.push e.born, L, hb', hst, hes, hp, hset.1, hold, hsk, hsk, la ++ lc, ?_, .refl _⟩, ?_, hent⟩
    · refine List.Perm.trans ?_ hpl
      rw [e1]
      exact List.perm_middle.symm
    · rw [left_push, h2, List.map_append, List.map_append, e2, e6]
    · have f : Frm (fun k => k = r) w1 (setBlock w1 r (.mapIter (some b) since (seen.push e.born) clock)) := setBlock_frm _ _ _ hrl
      rcases hal with rfl | rfl
      · exact f
      · exact ⟨f.os, f.tape, f.output, f.size, f.block⟩
end Go.Proofs.YtjicnfkodieaaaaDoor
