/-
  A map of any kind in memory: a block that holds the entries of a list, in whatever order; made, looked up, put into, counted, deleted from, ranged over while it is deleted from.
-/
import Derived.Test.YtdilfiojfjgejaaSq
import Derived.Maps.Range
import Derived.Maps.RangeWalk
import Derived.DeepKeys4
namespace Go.Proofs.Ytdilfiojfjgejaa
set_option linter.unusedVariables false
set_option linter.unusedSimpArgs false
open Go.RowKit
open Go.MapKept (Stamped stamped_push stamped_empty stamped_iff run_setObj_map stamped_modify stamped_erase)
open Go.ChangeMaps (setBlock heap_setBlock_same heap_setBlock_other)

/-- A kind of map: its types, what its entries are. -/
structure MapK (P : Program) (α : Type) where
  mt : TypeId
  kt : TypeId
  et : TypeId
  key : α → Value
  val : α → Value
  zero : Value
  ok : α → Prop
  law : Maps.Keyed P kt
  und : P.underlying mt = some (.map kt et)
  some_ : ∀ r, ok r → ∃ l, keyOf P kt (key r) = some l
  zer : ∀ w, (zeroValue et).run P w = .ok zero w
  inj : ∀ x y, key x = key y → val x = val y → x = y

section
variable {P : Program} {α : Type} {K : MapK P α}
/-- Block b holds the entries of D, in whatever order. -/
def MapAt (K : MapK P α) (w : World) (b : Nat) (D : List α) : Prop :=
  ∃ (es : Array MapEntry) (clock : Nat) (L : List α), w.heap[b]? = some (.map es clock) ∧ Stamped es clock ∧ es.toList.map (fun x => (x.key, x.val)) = L.map (fun r => (K.key r, K.val r)) ∧ L.Perm D ∧ ∀ r ∈ D, K.ok r

theorem MapAt.lt {w : World} {b : Nat} {D : List α} (h : MapAt K w b D) : b < w.heap.size := by
  obtain ⟨es, clock, L, hb, _⟩ := h
  exact (Array.getElem?_eq_some_iff.1 hb).1
theorem MapAt.frm {S : Nat → Prop} {w w' : World} {b : Nat} {D : List α} (h : MapAt K w b D) (f : Frm S w w') (hS : ¬ S b) : MapAt K w' b D := by
  have hlt := h.lt
  obtain ⟨es, clock, L, hb, r⟩ := h
  exact ⟨es, clock, L, (f.block b hlt hS).trans hb, r⟩
theorem MapAt.ne {w : World} {b g : Nat} {D : List α} {t : TypeId} {cs : Array Value} (h : MapAt K w b D) (hb : Blk w g t cs) : b ≠ g := by
  rintro rfl
  obtain ⟨es, clock, L, h, _⟩ := h
  unfold Blk at hb
  rw [hb] at h
  cases h
theorem MapAt.perm {w : World} {b : Nat} {D D' : List α} (h : MapAt K w b D) (p : D.Perm D') : MapAt K w b D' := by
  obtain ⟨es, clock, L, h1, h2, h3, h4, h5⟩ := h
  exact ⟨es, clock, L, h1, h2, h3, h4.trans p, fun r hr => h5 r (p.mem_iff.2 hr)⟩
theorem MapAt.ok {w : World} {b : Nat} {D : List α} (h : MapAt K w b D) : ∀ r ∈ D, K.ok r := by
  obtain ⟨es, clock, L, h1, h2, h3, h4, h5⟩ := h
  exact h5
theorem MapAt.made (w : World) : MapAt K (w.alloc (.map #[] 0)) w.heap.size [] := ⟨#[], 0, [], heap_alloc_new w _, stamped_empty 0, rfl, .refl _, fun _ h => by cases h⟩

theorem setBlock_frm (w : World) (b : Nat) (o : Obj) : Frm (fun k => k = b) w (setBlock w b o) :=
  ⟨rfl, rfl, rfl, by simp [setBlock], fun i _ hi => by
    simp only [setBlock]
    rw [Array.getElem?_setIfInBounds]
    rw [if_neg (fun e => hi e.symm)]⟩
theorem map_split {es : List MapEntry} {lo : List α} (h : es.map (fun x => (x.key, x.val)) = lo.map (fun r => (K.key r, K.val r))) {e : MapEntry} (he : e ∈ es) : ∃ x ∈ lo, e.key = K.key x ∧ e.val = K.val x := by
  have h1 : (e.key, e.val) ∈ es.map (fun x => (x.key, x.val)) := List.mem_map.2 ⟨e, he, rfl⟩
  rw [h] at h1
  obtain ⟨x, hx, hx'⟩ := List.mem_map.1 h1
  injection hx' with h2 h3
  exact ⟨x, hx, h2.symm, h3.symm⟩
theorem map_back {es : List MapEntry} {lo : List α} (h : es.map (fun x => (x.key, x.val)) = lo.map (fun r => (K.key r, K.val r))) {x : α} (hx : x ∈ lo) : ∃ e ∈ es, e.key = K.key x ∧ e.val = K.val x := by
  have h1 : (K.key x, K.val x) ∈ lo.map (fun r => (K.key r, K.val r)) := List.mem_map.2 ⟨x, hx, rfl⟩
  rw [← h] at h1
  obtain ⟨e, he, he'⟩ := List.mem_map.1 h1
  injection he' with h2 h3
  exact ⟨e, he, h2, h3⟩
/-- Keys of the entries are keys. -/
theorem keys_ok {es : Array MapEntry} {L D : List α} (hes : es.toList.map (fun x => (x.key, x.val)) = L.map (fun r => (K.key r, K.val r))) (hp : L.Perm D) (hD : ∀ r ∈ D, K.ok r) : ∀ e ∈ es.toList, ∃ l, keyOf P K.kt e.key = some l := by
  intro e he
  obtain ⟨x, hx, hk, _⟩ := map_split hes he
  rw [hk]
  exact K.some_ x (hD x (hp.mem_iff.1 hx))

/-- Looked up: what stands at the key, or the zero value. -/
theorem run_look (c : Bool) (w : World) (b : Nat) (D : List α) (r : α) (h : MapAt K w b D) (hr : K.ok r) :
    ((∀ x ∈ D, K.key x ≠ K.key r) ∧ (Instr.lookup K.mt (.map (some b)) (K.key r) c).run P w = .ok (if c then .tuple #[K.zero, .bool false] else K.zero) w) ∨
    ∃ x ∈ D, K.key x = K.key r ∧ (Instr.lookup K.mt (.map (some b)) (K.key r) c).run P w = .ok (if c then .tuple #[K.val x, .bool true] else K.val x) w := by
  obtain ⟨es, clock, L, hb, hst, hes, hp, hD⟩ := h
  obtain ⟨l, hl⟩ := K.some_ r hr
  rcases K.law.find w hl es.toList (keys_ok hes hp hD) with ⟨h1, h2⟩ | ⟨j, e0, h1, h2, h3⟩
  · left
    refine ⟨fun x hx hk => ?_, ?_⟩
    · obtain ⟨e, he, h4, _⟩ := map_back hes (hp.mem_iff.2 hx)
      exact h2 e he (h4.trans hk)
    · simp [Instr.lookup, run_underlying K.und, MapKept.run_getObj_map hb, K.law.check w _ hl, h1, K.zer, Result.andThen]
  · right
    obtain ⟨x, hx, h4, h5⟩ := map_split hes (List.mem_of_getElem? h2)
    refine ⟨x, hp.mem_iff.1 hx, h4.symm.trans h3, ?_⟩
    rw [← h5]
    simp [Instr.lookup, run_underlying K.und, MapKept.run_getObj_map hb, K.law.check w _ hl, h1, Result.andThen]

/-- One more entry, at a key that none has. -/
theorem run_put (w : World) (b : Nat) (D : List α) (r : α) (h : MapAt K w b D) (hr : K.ok r) (hn : ∀ x ∈ D, K.key x ≠ K.key r) :
    ∃ w', (Instr.mapUpdate K.mt (.map (some b)) (K.key r) (K.val r)).run P w = .ok () w' ∧ MapAt K w' b (D ++ [r]) ∧ Frm (fun k => k = b) w w' := by
  obtain ⟨es, clock, L, hb, hst, hes, hp, hD⟩ := h
  obtain ⟨l, hl⟩ := K.some_ r hr
  have habs : ∀ e ∈ es.toList, e.key ≠ K.key r := by
    intro e he hk
    obtain ⟨x, hx, hk', _⟩ := map_split hes he
    exact hn x (hp.mem_iff.1 hx) (hk'.symm.trans hk)
  rcases K.law.find w hl es.toList (keys_ok hes hp hD) with ⟨h1, h2⟩ | ⟨j, e0, h1, h2, h3⟩
  · refine ⟨setBlock w b (.map (es.push ⟨K.key r, K.val r, clock⟩) (clock + 1)), ?_, ⟨_, _, L ++ [r], heap_setBlock_same hb _, stamped_push hst habs, by simp [hes], hp.append_right _, ?_⟩, setBlock_frm _ _ _⟩
    · simp [Instr.mapUpdate, run_underlying K.und, MapKept.run_getObj_map hb, K.law.check w false hl, h1, run_setObj_map _ hb, Result.andThen, setBlock]
    · intro x hx
      rcases List.mem_append.1 hx with hx | hx
      · exact hD x hx
      · obtain rfl : x = r := by simpa using hx
        exact hr
  · exact absurd h3 (habs e0 (List.mem_of_getElem? h2))

theorem keys_apart {es : Array MapEntry} {clock : Nat} (hst : Stamped es clock) {i j : Nat} {x y : MapEntry} (hx : es.toList[i]? = some x) (hy : es.toList[j]? = some y) (hne : i ≠ j) : x.key ≠ y.key := by
  have h1 := hst.2.2
  intro he
  obtain ⟨hi, hx⟩ := List.getElem?_eq_some_iff.1 hx
  obtain ⟨hj, hy⟩ := List.getElem?_eq_some_iff.1 hy
  refine hne ((List.getElem_inj (h₀ := by simpa using hi) (h₁ := by simpa using hj) h1).1 ?_)
  rw [List.getElem_map, List.getElem_map, hx, hy, he]

/-- Another value, at a key that one has. -/
theorem run_set (w : World) (b : Nat) (D1 D2 : List α) (r s : α) (h : MapAt K w b (D1 ++ r :: D2)) (hs : K.ok s) (hk : K.key s = K.key r) :
    ∃ w', (Instr.mapUpdate K.mt (.map (some b)) (K.key s) (K.val s)).run P w = .ok () w' ∧ MapAt K w' b (D1 ++ s :: D2) ∧ Frm (fun k => k = b) w w' := by
  obtain ⟨es, clock, L, hb, hst, hes, hp, hD⟩ := h
  obtain ⟨l, hl⟩ := K.some_ s hs
  have hrm : r ∈ L := hp.mem_iff.2 (by simp)
  rcases K.law.find w hl es.toList (keys_ok hes hp hD) with ⟨h1, h2⟩ | ⟨j, e0, h1, h2, h3⟩
  · obtain ⟨e, he, h4, _⟩ := map_back hes hrm
    exact absurd (h4.trans hk.symm) (h2 e he)
  · have hj : es[j]? = some e0 := by simpa using h2
    have hjl : j < es.toList.length := (List.getElem?_eq_some_iff.1 h2).1
    have hlen : es.toList.length = L.length := by simpa using congrArg List.length hes
    have hlist : (es.modify j (fun e' => { e' with key := K.key s, val := K.val s })).toList = es.toList.set j { e0 with key := K.key s, val := K.val s } := by rw [Array.toList_modify, ChangeMaps.modify_eq_set _ _ _ _ h2]
    -- the place of r in L is j
    obtain ⟨i, hi⟩ := List.getElem?_of_mem hrm
    have hij : i = j := by
      have hi2 : i < es.toList.length := by rw [hlen]; exact (List.getElem?_eq_some_iff.1 hi).1
      have h4 := congrArg (fun q => q[i]?) hes
      simp only [List.getElem?_map, hi, List.getElem?_eq_getElem hi2, Option.map_some, Option.some.injEq, Prod.mk.injEq] at h4
      refine Classical.byContradiction fun hne => keys_apart hst (List.getElem?_eq_getElem hi2) h2 hne ?_
      rw [h4.1, h3, hk]
    subst hij
    refine ⟨setBlock w b (.map (es.modify i (fun e' => { e' with key := K.key s, val := K.val s })) clock), ?_, ⟨_, _, L.set i s, heap_setBlock_same hb _, stamped_modify hst _ _ (fun _ _ => rfl) (fun e' _ he' => by rw [hj] at he'; cases he'; exact h3.symm), ?_, ?_, ?_⟩, setBlock_frm _ _ _⟩
    · simp [Instr.mapUpdate, run_underlying K.und, MapKept.run_getObj_map hb, K.law.check w false hl, h1, hj, h3, K.law.stays w hl, run_setObj_map _ hb, Result.andThen, setBlock]
    · rw [hlist, List.map_set, hes, List.map_set]
    · obtain ⟨hil, hir⟩ := List.getElem?_eq_some_iff.1 hi
      have e1 : (L.set i s).Perm (s :: L.eraseIdx i) := ChangeMaps.set_perm L i hil s
      have e2 : L.Perm (r :: L.eraseIdx i) := by
        have := ChangeMaps.set_perm L i hil r
        rw [← hir, List.set_getElem_self] at this
        rw [hir] at this
        exact this
      have e3 : (r :: L.eraseIdx i).Perm (r :: (D1 ++ D2)) := e2.symm.trans (hp.trans List.perm_middle)
      exact e1.trans (((List.perm_cons r).1 e3).cons s |>.trans List.perm_middle.symm)
    · intro x hx
      rcases List.mem_append.1 hx with hx | hx
      · exact hD x (by simp [hx])
      · rcases List.mem_cons.1 hx with rfl | hx
        · exact hs
        · exact hD x (by simp [hx])

/-- How many. -/
theorem run_len (w : World) (b : Nat) (D : List α) (h : MapAt K w b D) (ty : TypeId) : (Builtin.len_ #[K.mt] ty #[.map (some b)]).run P w = .ok (.int .i64 (D.length : Int)) w := by
  obtain ⟨es, clock, L, hb, hst, hes, hp, hD⟩ := h
  have hs : es.size = D.length := by
    rw [← hp.length_eq]
    have := congrArg List.length hes
    simpa using this
  simp [Builtin.len_, run_underlying K.und, MapKept.run_getObj_map hb, hs, goInt]

/-! Ranging over it. -/
/-- The entries of l are still to come; r is the iterator's block. -/
def Ranging (K : MapK P α) (w : World) (b r : Nat) (D l : List α) : Prop :=
  ∃ (es : Array MapEntry) (clock since c0 : Nat) (seen : Array Nat) (L : List α), w.heap[b]? = some (.map es clock) ∧ Stamped es clock ∧ es.toList.map (fun x => (x.key, x.val)) = L.map (fun r => (K.key r, K.val r)) ∧ L.Perm D ∧ (∀ r ∈ D, K.ok r) ∧
    w.heap[r]? = some (.mapIter (some b) since seen c0) ∧ (∀ x ∈ es.toList, x.born < since) ∧ since ≤ c0 ∧ since ≤ clock ∧
    ∃ lo : List α, (leftOf es seen).toList.map (fun x => (x.key, x.val)) = lo.map (fun r => (K.key r, K.val r)) ∧ lo.Perm l
theorem Ranging.map {w : World} {b r : Nat} {D l : List α} (h : Ranging K w b r D l) : MapAt K w b D := by
  obtain ⟨es, clock, since, c0, seen, L, hb, hst, hes, hp, hD, _⟩ := h
  exact ⟨es, clock, L, hb, hst, hes, hp, hD⟩
theorem Ranging.lt {w : World} {b r : Nat} {D l : List α} (h : Ranging K w b r D l) : r < w.heap.size := by
  obtain ⟨es, clock, since, c0, seen, L, hb, hst, hes, hp, hD, hr, _⟩ := h
  exact (Array.getElem?_eq_some_iff.1 hr).1
theorem Ranging.ne {w : World} {b r : Nat} {D l : List α} (h : Ranging K w b r D l) : r ≠ b := by
  obtain ⟨es, clock, since, c0, seen, L, hb, hst, hes, hp, hD, hr, _⟩ := h
  rintro rfl
  rw [hb] at hr
  cases hr
theorem Ranging.frm {S : Nat → Prop} {w w' : World} {b r : Nat} {D l : List α} (h : Ranging K w b r D l) (f : Frm S w w') (hb' : ¬ S b) (hr' : ¬ S r) : Ranging K w' b r D l := by
  have h1 := h.map.lt
  have h2 := h.lt
  obtain ⟨es, clock, since, c0, seen, L, hb, hst, hes, hp, hD, hr, rest⟩ := h
  exact ⟨es, clock, since, c0, seen, L, (f.block b h1 hb').trans hb, hst, hes, hp, hD, (f.block r h2 hr').trans hr, rest⟩
theorem Ranging.left {w : World} {b r : Nat} {D l m : List α} (h : Ranging K w b r D l) (p : l.Perm m) : Ranging K w b r D m := by
  obtain ⟨es, clock, since, c0, seen, L, hb, hst, hes, hp, hD, hr, h1, h2, h3, lo, h4, h5⟩ := h
  exact ⟨es, clock, since, c0, seen, L, hb, hst, hes, hp, hD, hr, h1, h2, h3, lo, h4, h5.trans p⟩
theorem Ranging.left_eq {w : World} {b r : Nat} {D l : List α} (h : Ranging K w b r D l) : w.rangeLeft b r = l.length := by
  obtain ⟨es, clock, since, c0, seen, L, hb, hst, hes, hp, hD, hr, h1, h2, h3, lo, h4, h5⟩ := h
  simp only [World.rangeLeft, hb, hr]
  rw [← h5.length_eq]
  simpa using congrArg List.length h4
theorem Ranging.perm {w : World} {b r : Nat} {D D' l : List α} (h : Ranging K w b r D l) (p : D.Perm D') : Ranging K w b r D' l := by
  obtain ⟨es, clock, since, c0, seen, L, hb, hst, hes, hp, hD, rest⟩ := h
  exact ⟨es, clock, since, c0, seen, L, hb, hst, hes, hp.trans p, fun r hr => hD r (p.mem_iff.2 hr), rest⟩
theorem filter_nil_seen (es : Array MapEntry) : leftOf es #[] = es := by
  unfold leftOf
  simp
theorem run_range_m (w : World) (b : Nat) (D : List α) (h : MapAt K w b D) :
    ∃ w', (Instr.range K.mt (.map (some b))).run P w = .ok (.pointer (some ⟨w.heap.size, 0, none⟩)) w' ∧ Ranging K w' b w.heap.size D D ∧ Frm (fun _ => False) w w' ∧ w'.heap.size = w.heap.size + 1 := by
  have hlt := h.lt
  obtain ⟨es, clock, L, hb, hst, hes, hp, hD⟩ := h
  have hb' : (w.alloc (.mapIter (some b) clock #[] clock)).heap[b]? = some (.map es clock) := (Below.heap_alloc w _ b hlt).trans hb
  exact ⟨_, run_range_map w _ _ _ b es clock K.und hb, ⟨es, clock, clock, clock, #[], L, hb', hst, hes, hp, hD, heap_alloc_new w _, ((stamped_iff es clock).1 hst).1, Nat.le_refl _, Nat.le_refl _, L, by rw [filter_nil_seen]; exact hes, hp⟩, Frm.alloc _ _ _, by simp⟩
/-- What is left behind one step. -/
theorem left_push (es : Array MapEntry) (seen : Array Nat) (e : MapEntry) : (leftOf es (seen.push e.born)).toList = (leftOf es seen).toList.filter (fun x => !(x.born == e.born)) := by
  unfold leftOf
  rw [Array.toList_filter, Array.toList_filter, List.filter_filter]
  apply List.filter_congr
  intro x _
  rw [contains_push]
  cases seen.contains x.born <;> cases (x.born == e.born) <;> rfl
theorem filter_out : ∀ (l : List MapEntry) (e : MapEntry), e ∈ l → (l.map (·.born)).Nodup → ∃ a c, l = a ++ e :: c ∧ l.filter (fun x => !(x.born == e.born)) = a ++ c
  | [], e, h, _ => by cases h
  | x :: l, e, h, hn => by
    rw [List.map_cons, List.nodup_cons] at hn
    rcases List.mem_cons.1 h with rfl | h
    · refine ⟨[], l, rfl, ?_⟩
      rw [List.filter_cons_of_neg (by simp), List.nil_append]
      refine List.filter_eq_self.2 fun y hy => ?_
      have : e.born ≠ y.born := fun k => hn.1 (by rw [k]; exact List.mem_map.2 ⟨y, hy, rfl⟩)
      simp [Ne.symm this]
    · obtain ⟨a, c, h1, h2⟩ := filter_out l e h hn.2
      have : x.born ≠ e.born := fun k => hn.1 (by rw [k]; exact List.mem_map.2 ⟨e, h, rfl⟩)
      refine ⟨x :: a, c, by rw [h1]; rfl, ?_⟩
      rw [List.filter_cons_of_pos (by simp [this]), h2]
      rfl
/-- The step: nothing is left, or one of those that are left comes, whichever. -/
theorem run_next_m (w : World) (ty : TypeId) (b r : Nat) (D l : List α) (h : Ranging K w b r D l) :
    (l = [] ∧ (Instr.next (.pointer (some ⟨r, 0, none⟩)) false ty).run P w = .ok (.tuple #[.bool false]) w) ∨
    ∃ x l' w', (x :: l').Perm l ∧ (Instr.next (.pointer (some ⟨r, 0, none⟩)) false ty).run P w = .ok (.tuple #[.bool true, K.key x, K.val x]) w' ∧ Ranging K w' b r D l' ∧ Frm (fun k => k = r) w w' ∧ x ∈ D ∧ (∀ y ∈ l', K.key y ≠ K.key x) ∧
      (Instr.entry (.pointer (some ⟨r, 0, none⟩))).run P w' = .ok (.tuple #[K.key x, K.val x]) w' := by
  have hne := h.ne
  obtain ⟨es, clock, since, c0, seen, L, hb, hst, hes, hp, hD, hr, hold, hsc, hsk, lo, hlo, hpl⟩ := h
  rcases run_next_at (P := P) w ty r b since c0 seen es clock hr hb hold hsc with ⟨h0, hrun⟩ | ⟨e, he, w1, hal, hrun⟩
  · left
    have h1 : (leftOf es seen).toList = [] := by rw [Array.toList_eq_nil_iff]; exact Array.eq_empty_of_size_eq_zero h0
    rw [h1] at hlo
    have h2 : lo = [] := by cases lo with | nil => rfl | cons => cases hlo
    subst h2
    exact ⟨(List.nil_perm.1 hpl), hrun⟩
  · right
    obtain ⟨hem, hes'⟩ := mem_left he
    have hst' := (stamped_iff es clock).1 hst
    have hsub : (leftOf es seen).toList.Sublist es.toList := by unfold leftOf; rw [Array.toList_filter]; exact List.filter_sublist
    obtain ⟨a, c, h1, h2⟩ := filter_out _ e he ((hsub.map _).nodup hst'.2.1)
    rw [h1, List.map_append, List.map_cons] at hlo
    obtain ⟨la, lc', e1, e2, e3⟩ := List.map_eq_append_iff.1 hlo.symm
    obtain ⟨x, lc, e4, e5, e6⟩ := List.map_eq_cons_iff.1 e3
    subst e4
    injection e5 with e5 e7
    have hr1 : w1.heap[r]? = some (.mapIter (some b) since seen c0) := by rcases hal with rfl | rfl <;> exact hr
    have hb1 : w1.heap[b]? = some (.map es clock) := by rcases hal with rfl | rfl <;> exact hb
    have hrl := (Array.getElem?_eq_some_iff.1 hr1).1
    have hset := MapKept.heap_set (o' := .mapIter (some b) since (seen.push e.born) clock) hr1
    have hb' : (setBlock w1 r (.mapIter (some b) since (seen.push e.born) clock)).heap[b]? = some (.map es clock) := (hset.2 b (fun e1 => hne e1.symm)).trans hb1
    have hent := run_entry_at (P := P) _ r b since seen es clock e hset.1 hb' hem hst'.2.1
    rw [← e5, ← e7] at hrun hent
    have hxD : x ∈ D := by
      obtain ⟨y, hy, k1, k2⟩ := map_split hes hem
      rw [K.inj x y (by rw [← k1, e5]) (by rw [← k2, e7])]
      exact hp.mem_iff.1 hy
    have hap : ∀ y ∈ la ++ lc, K.key y ≠ K.key x := by
      have h3 := hst'.2.2.sublist hsub
      rw [h1, List.pairwise_append, List.pairwise_cons] at h3
      obtain ⟨_, ⟨h4, _⟩, h5⟩ := h3
      intro y hy hk
      rcases List.mem_append.1 hy with hy | hy
      · obtain ⟨z, hz, k1, _⟩ := map_back e2.symm hy
        exact h5 z hz e (List.mem_cons_self ..) (by rw [k1, hk, e5])
      · obtain ⟨z, hz, k1, _⟩ := map_back e6.symm hy
        exact h4 z hz (by rw [k1, hk, e5])
    refine ⟨x, la ++ lc, _, ?_, hrun, ⟨es, clock, since, clock, seen.push e.born, L, hb', hst, hes, hp, hD, hset.1, hold, hsk, hsk, la ++ lc, ?_, .refl _⟩, ?_, hxD, hap, hent⟩
    · refine List.Perm.trans ?_ hpl
      rw [e1]
      exact List.perm_middle.symm
    · rw [left_push, h2, List.map_append, List.map_append, e2, e6]
    · have f : Frm (fun k => k = r) w1 (setBlock w1 r (.mapIter (some b) since (seen.push e.born) clock)) := setBlock_frm _ _ _
      rcases hal with rfl | rfl
      · exact f
      · exact ⟨f.os, f.tape, f.output, f.size, f.block⟩
/-- Deleted, behind the step that brought it. -/
theorem run_del_m (w : World) (ty : TypeId) (b r : Nat) (D1 D2 l : List α) (x : α) (h : Ranging K w b r (D1 ++ x :: D2) l) (hl : ∀ y ∈ l, K.key y ≠ K.key x) :
    ∃ w', (Builtin.delete_ #[K.mt, K.kt] ty #[.map (some b), K.key x]).run P w = .ok (.tuple #[]) w' ∧ Ranging K w' b r (D1 ++ D2) l ∧ Frm (fun k => k = b) w w' := by
  have hne := h.ne
  obtain ⟨es, clock, since, c0, seen, L, hb, hst, hes, hp, hD, hr, hold, hsc, hsk, lo, hlo, hpl⟩ := h
  obtain ⟨kl, hkl⟩ := K.some_ x (hD x (by simp))
  have hxm : x ∈ L := hp.mem_iff.2 (by simp)
  rcases K.law.find w hkl es.toList (keys_ok hes hp hD) with ⟨h1, h2⟩ | ⟨j, e0, h1, h2, h3⟩
  · obtain ⟨e, he, h4, _⟩ := map_back hes hxm
    exact absurd h4 (h2 e he)
  · have hjl : j < es.toList.length := (List.getElem?_eq_some_iff.1 h2).1
    have hjs : j < es.size := by simpa using hjl
    have hsubE : (es.eraseIdxIfInBounds j).toList = es.toList.eraseIdx j := by
      unfold Array.eraseIdxIfInBounds
      rw [dif_pos hjs]
      simp
    have hlen : es.toList.length = L.length := by simpa using congrArg List.length hes
    obtain ⟨i, hi⟩ := List.getElem?_of_mem hxm
    have hij : i = j := by
      have hi2 : i < es.toList.length := by rw [hlen]; exact (List.getElem?_eq_some_iff.1 hi).1
      have h4 := congrArg (fun q => q[i]?) hes
      simp only [List.getElem?_map, hi, List.getElem?_eq_getElem hi2, Option.map_some, Option.some.injEq, Prod.mk.injEq] at h4
      refine Classical.byContradiction fun hne => keys_apart hst (List.getElem?_eq_getElem hi2) h2 hne ?_
      rw [h4.1, h3]
    subst hij
    obtain ⟨hil, hir⟩ := List.getElem?_eq_some_iff.1 hi
    -- who was deleted had been seen
    have hseen : seen.contains e0.born = true := by
      refine Classical.byContradiction fun hn => ?_
      have hin : e0 ∈ (leftOf es seen).toList := by
        unfold leftOf
        rw [Array.toList_filter, List.mem_filter]
        exact ⟨List.mem_of_getElem? h2, by simpa using hn⟩
      obtain ⟨y, hy, k1, _⟩ := map_split hlo hin
      exact hl y (hpl.mem_iff.1 hy) (k1.symm.trans h3)
    have hleft : (leftOf (es.eraseIdxIfInBounds i) seen).toList = (leftOf es seen).toList := by
      unfold leftOf
      rw [Array.toList_filter, Array.toList_filter, hsubE]
      obtain ⟨_, hei⟩ := List.getElem?_eq_some_iff.1 h2
      rw [List.eraseIdx_eq_take_drop_succ, List.filter_append]
      conv => rhs; rw [← List.take_append_drop i es.toList, List.filter_append, List.drop_eq_getElem_cons hjl, hei, List.filter_cons_of_neg (by rw [hseen]; decide)]
    refine ⟨setBlock w b (.map (es.eraseIdxIfInBounds i) clock), ?_, ⟨es.eraseIdxIfInBounds i, clock, since, c0, seen, L.eraseIdx i, heap_setBlock_same hb _, stamped_erase hst i, ?_, ?_, ?_, (heap_setBlock_other hb _ hne).trans hr, ?_, hsc, hsk, lo, by rw [hleft]; exact hlo, hpl⟩, setBlock_frm _ _ _⟩
    · simp [Builtin.delete_, run_underlying K.und, MapKept.run_getObj_map hb, K.law.check w _ hkl, h1, run_setObj_map _ hb, Result.andThen, setBlock]
    · rw [hsubE, ChangeMaps.map_eraseIdx, hes, ChangeMaps.map_eraseIdx]
    · have e2 : L.Perm (x :: L.eraseIdx i) := by
        have := ChangeMaps.set_perm L i hil x
        rw [← hir, List.set_getElem_self] at this
        rw [hir] at this
        exact this
      exact (List.perm_cons x).1 (e2.symm.trans (hp.trans List.perm_middle))
    · intro y hy
      rcases List.mem_append.1 hy with hy | hy
      · exact hD y (by simp [hy])
      · exact hD y (by simp [hy])
    · intro y hy
      rw [hsubE] at hy
      exact hold y ((List.eraseIdx_sublist _ _).subset hy)

/-! At the operation. -/
variable {ops : Array Oper} {rest : List Oper} {op : Oper} {a : Act} {w : World} {Q : Exit → Act → World → Prop}
theorem held_look {b : Nat} {D : List α} (hx : MapAt K w b D) (m k : Operand) (c : Bool) (ho : op.op = .lookup K.mt m k c) (r : α) (hm : a.eval m = .map (some b)) (hk : a.eval k = K.key r) (hr : K.ok r) :
    ((∀ x ∈ D, K.key x ≠ K.key r) ∧ (execOp a.eval op).run P w = .ok (.value (if c then .tuple #[K.zero, .bool false] else K.zero)) w) ∨
    ∃ x ∈ D, K.key x = K.key r ∧ (execOp a.eval op).run P w = .ok (.value (if c then .tuple #[K.val x, .bool true] else K.val x)) w := by
  rcases run_look c w b D r hx hr with ⟨h1, h2⟩ | ⟨x, h1, h2, h3⟩
  · left
    refine ⟨h1, ?_⟩
    unfold execOp
    simp [ho, hm, hk, h2, Result.andThen]
  · right
    refine ⟨x, h1, h2, ?_⟩
    unfold execOp
    simp [ho, hm, hk, h3, Result.andThen]
theorem wp_put {b : Nat} {D : List α} {K' : Act → World → Prop} (m k v : Operand) (ho : op.op = .mapUpdate K.mt m k v) (r : α)
    (hm : a.eval m = .map (some b)) (hk : a.eval k = K.key r) (hv : a.eval v = K.val r) (h : MapAt K w b D) (hr : K.ok r) (hn : ∀ x ∈ D, K.key x ≠ K.key r)
    (hK : ∀ w', MapAt K w' b (D ++ [r]) → Frm (fun k => k = b) w w' → K' (a.put op.dst undef) w') : op.wp P a w K' Q := by
  obtain ⟨w', hrun, r1, r2⟩ := run_put w b D r h hr hn
  unfold Oper.wp
  simp [execOp, ho, hm, hk, hv, hrun, Oper.upon, Result.andThen]
  exact hK w' r1 r2
theorem wpl_put {b : Nat} {D : List α} (hgd : op.guard = none) (m k v : Operand) (ho : op.op = .mapUpdate K.mt m k v) (r : α)
    (hm : a.eval m = .map (some b)) (hk : a.eval k = K.key r) (hv : a.eval v = K.val r) (h : MapAt K w b D) (hr : K.ok r) (hn : ∀ x ∈ D, K.key x ≠ K.key r)
    (hK : ∀ w', MapAt K w' b (D ++ [r]) → Frm (fun k => k = b) w w' → wpList P ops Q rest (a.put op.dst undef) w') : wpList P ops Q (op :: rest) a w :=
  wpList_plain hgd fun K' hK' => wp_put m k v ho r hm hk hv h hr hn fun w' h1 h2 => hK' _ _ (hK w' h1 h2)
theorem wpl_set {b : Nat} {D1 D2 : List α} (hgd : op.guard = none) (m k v : Operand) (ho : op.op = .mapUpdate K.mt m k v) (r s : α)
    (hm : a.eval m = .map (some b)) (hk : a.eval k = K.key s) (hv : a.eval v = K.val s) (h : MapAt K w b (D1 ++ r :: D2)) (hs : K.ok s) (hn : K.key s = K.key r)
    (hK : ∀ w', MapAt K w' b (D1 ++ s :: D2) → Frm (fun k => k = b) w w' → wpList P ops Q rest (a.put op.dst undef) w') : wpList P ops Q (op :: rest) a w := by
  refine wpList_plain hgd fun K' hK' => ?_
  obtain ⟨w', hrun, r1, r2⟩ := run_set w b D1 D2 r s h hs hn
  unfold Oper.wp
  simp [execOp, ho, hm, hk, hv, hrun, Oper.upon, Result.andThen]
  exact hK' _ _ (hK w' r1 r2)
theorem wpl_mlen {b : Nat} {D : List α} (hgd : op.guard = none) (m : Operand) (ho : op.op = .call { callee := .builtin .len, args := #[m], argTypes := #[K.mt] })
    (hm : a.eval m = .map (some b)) (h : MapAt K w b D) (hK : wpList P ops Q rest (a.put op.dst (.int .i64 (D.length : Int))) w) : wpList P ops Q (op :: rest) a w := by
  refine wpList_plain hgd fun K' hK' => ?_
  have hrun := run_len w b D h
  unfold Oper.wp
  simp [execOp, ho, resolve, invoke, builtin, hm, hrun, Oper.upon, Result.andThen]
  exact hK' _ _ hK
theorem wpl_range_m {b : Nat} {D : List α} (hgd : op.guard = none) (m : Operand) (ho : op.op = .range K.mt m) (hm : a.eval m = .map (some b)) (h : MapAt K w b D)
    (hK : ∀ w', Ranging K w' b w.heap.size D D → Frm (fun _ => False) w w' → w'.heap.size = w.heap.size + 1 → wpList P ops Q rest (a.put op.dst (.pointer (some ⟨w.heap.size, 0, none⟩))) w') : wpList P ops Q (op :: rest) a w := by
  refine wpList_plain hgd fun K' hK' => ?_
  obtain ⟨w', hrun, r1, r2, r3⟩ := run_range_m w b D h
  unfold Oper.wp
  simp [execOp, ho, hm, hrun, Oper.upon, Result.andThen]
  exact hK' _ _ (hK w' r1 r2 r3)
theorem wpl_next_m {b r : Nat} {D l : List α} (hgd : op.guard = none) (it : Operand) (ho : op.op = .next it false) (hit : a.eval it = .pointer (some ⟨r, 0, none⟩)) (h : Ranging K w b r D l)
    (h0 : l = [] → wpList P ops Q rest (a.put op.dst (.tuple #[.bool false])) w)
    (h1 : ∀ x l' w', (x :: l').Perm l → Ranging K w' b r D l' → Frm (fun k => k = r) w w' → x ∈ D → (∀ y ∈ l', K.key y ≠ K.key x) → (Instr.entry (.pointer (some ⟨r, 0, none⟩))).run P w' = .ok (.tuple #[K.key x, K.val x]) w' →
      wpList P ops Q rest (a.put op.dst (.tuple #[.bool true, K.key x, K.val x])) w') : wpList P ops Q (op :: rest) a w := by
  refine wpList_plain hgd fun K' hK' => ?_
  unfold Oper.wp
  rcases run_next_m w op.type b r D l h with ⟨e0, hrun⟩ | ⟨x, l', w', hp, hrun, hr', hf, hx, hy, hen⟩
  · simp [execOp, ho, hit, hrun, Oper.upon, Result.andThen]
    exact hK' _ _ (h0 e0)
  · simp [execOp, ho, hit, hrun, Oper.upon, Result.andThen]
    exact hK' _ _ (h1 x l' w' hp hr' hf hx hy hen)
theorem wpl_del_m {b r : Nat} {D1 D2 l : List α} (hgd : op.guard = none) (m k : Operand) (ho : op.op = .call { callee := .builtin .delete, args := #[m, k], argTypes := #[K.mt, K.kt] }) (x : α)
    (hm : a.eval m = .map (some b)) (hk : a.eval k = K.key x) (h : Ranging K w b r (D1 ++ x :: D2) l) (hl : ∀ y ∈ l, K.key y ≠ K.key x)
    (hK : ∀ w', Ranging K w' b r (D1 ++ D2) l → Frm (fun k => k = b) w w' → wpList P ops Q rest (a.put op.dst (.tuple #[])) w') : wpList P ops Q (op :: rest) a w := by
  refine wpList_plain hgd fun K' hK' => ?_
  obtain ⟨w', hrun, r1, r2⟩ := run_del_m w op.type b r D1 D2 l x h hl
  unfold Oper.wp
  simp [execOp, ho, resolve, invoke, builtin, hm, hk, hrun, Oper.upon, Result.andThen]
  exact hK' _ _ (hK w' r1 r2)
theorem wpl_makeMap {P : Program} {ops : Array Oper} {rest : List Oper} {op : Oper} {a : Act} {w : World} {Q : Exit → Act → World → Prop} {α : Type} (K : MapK P α) (hgd : op.guard = none) (ho : op.op = .makeMap K.mt none)
    (hK : ∀ b w', MapAt K w' b [] → w.heap.size ≤ b → Frm (fun _ => False) w w' → wpList P ops Q rest (a.put op.dst (.map (some b))) w') : wpList P ops Q (op :: rest) a w := by
  refine wpList_plain hgd fun K' hK' => ?_
  unfold Oper.wp
  simp [execOp, ho, run_makeMap, Oper.upon, Result.andThen]
  exact hK' _ _ (hK _ _ (MapAt.made w) (Nat.le_refl _) (Frm.alloc _ _ _))
end
end Go.Proofs.Ytdilfiojfjgejaa
