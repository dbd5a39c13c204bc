/-
  The library's sort, at rows of records: a permutation in order.
-/
import Derived.Test.YtjicnfkodieaaaaDoorDrR
namespace Go.Proofs.YtjicnfkodieaaaaDoor
set_option linter.unusedVariables false
set_option linter.unusedSimpArgs false
open Go.RowKit Go.Sort

theorem cmp_ltOf (x y : Rec) : ltOf cmpI x y = decide (x.lt y) := by
  unfold ltOf cmpI c3 Rec.lt
  obtain ⟨xa, xf, xt, xl⟩ := x
  obtain ⟨ya, yf, yt, yl⟩ := y
  simp only
  by_cases h1 : (xa : Int) < ya
  · rw [if_pos h1]
    have : xa < ya := by omega
    simp [this]
  · rw [if_neg h1]
    by_cases h2 : (ya : Int) < xa
    · rw [if_pos h2]
      have h3 : ¬ xa < ya := by omega
      have h4 : ¬ xa = ya := by omega
      simp [h3, h4]
    · rw [if_neg h2, if_pos rfl]
      have h3 : xa = ya := by omega
      by_cases h4 : (xf : Int) < yf
      · rw [if_pos h4]
        have : xf < yf := by omega
        simp [h3, this]
      · rw [if_neg h4]
        have h5 : ¬ xf < yf := by omega
        by_cases h6 : (yf : Int) < xf
        · rw [if_pos h6]; simp [h3, h5]
        · rw [if_neg h6]; simp [h3, h5]
theorem swoR : SWO (ltOf cmpI) where
  irrefl x := by rw [cmp_ltOf]; simp [lt_irrefl]
  trans x y z h1 h2 := by
    rw [cmp_ltOf] at *
    simp only [decide_eq_true_eq] at *
    exact lt_trans h1 h2
  ntrans x y z h1 h2 := by
    rw [cmp_ltOf] at *
    simp only [decide_eq_false_iff_not] at *
    unfold Rec.lt at *
    omega
theorem cmpLays (blk off size : Nat) (w : World) : CmpLays Tryd.prog 47 #[] recC 4 cmpI blk off size w :=
  fun _ _ _ _ x y => compare_any x y _

theorem holds_own {w : World} {B g n c : Nat} {l : List Rec} (h : ROwn w B (some ⟨g, 0, none⟩) n c l) : HoldsK recC 4 w g 0 l.toArray := by
  intro j hj
  rw [size_flatK] at hj
  have hl := h.len
  rw [List.size_toArray] at hj
  obtain ⟨g', hg, _, _, hc⟩ := h.cells (by omega)
  injection hg with hg
  injection hg with hg
  subst hg
  have hj1 : j / 4 < l.length := by omega
  have hj2 : j % 4 < 4 := Nat.mod_lt _ (by decide)
  rw [get_flatK _ _ _ _ (by rw [List.size_toArray]; exact hj)]
  refine ⟨?_, ?_⟩
  · have h1 := hc (j / 4) (j % 4) (by omega) hj2
    rw [show j / 4 * 4 + j % 4 = j by omega] at h1
    rw [Nat.zero_add, h1]
    have e : l.toArray[j / 4]! = l.getD (j / 4) default := by
      rw [getElem!_pos _ _ (by simpa using hj1), List.getD_eq_getElem?_getD, List.getElem?_eq_getElem hj1]
      simp
    rw [e]
    rw [List.getElem!_eq_getElem?_getD, List.getElem?_eq_getElem (by rw [recC_length]; exact hj2)]
    rfl
  · rcases h.block with ⟨h0, _⟩ | ⟨g', cur, hA, _, hg, _⟩
    · cases h0
    · injection hA with hA
      injection hA with hA
      subst hA
      exact Blk.frozen (t := 37) hg _

theorem flat_list (l : List Rec) : (flatK recC 4 l.toArray).toList = cellsR l := by
  apply List.ext_getElem?
  intro t
  by_cases ht : t < l.length * 4
  · have hs : t < (flatK recC 4 l.toArray).size := by rw [size_flatK, List.size_toArray]; exact ht
    have e1 : (flatK recC 4 l.toArray).toList[t]? = some ((flatK recC 4 l.toArray)[t]!) := by
      rw [getElem!_pos (flatK recC 4 l.toArray) t hs]
      simp [hs]
    rw [e1, get_flatK _ _ _ _ (by rw [List.size_toArray]; exact ht)]
    have h1 : t / 4 < l.length := by omega
    have h2 : t % 4 < 4 := Nat.mod_lt _ (by decide)
    have h3 := cellsR_at l (t / 4) (t % 4) h1 h2
    rw [show t / 4 * 4 + t % 4 = t by omega] at h3
    rw [h3]
    have e : l.toArray[t / 4]! = l.getD (t / 4) default := by
      rw [getElem!_pos l.toArray (t / 4) (by simpa using h1), List.getD_eq_getElem?_getD, List.getElem?_eq_getElem h1]
      simp
    rw [e, List.getElem!_eq_getElem?_getD, List.getElem?_eq_getElem (by rw [recC_length]; exact h2)]
    rfl
  · rw [List.getElem?_eq_none (by rw [Array.length_toList, size_flatK, List.size_toArray]; omega), List.getElem?_eq_none (by rw [cellsR_length]; omega)]

theorem take_put (cur : Array Value) (F : Array Value) (h : F.size ≤ cur.size) : (putCells id 0 F cur).toList.take F.size = F.toList := by
  apply List.ext_getElem?
  intro k
  by_cases hk : k < F.size
  · rw [List.getElem?_take, if_pos hk]
    have hc : k < cur.size := by omega
    simp [putCells, hk, hc]
  · rw [List.getElem?_take, if_neg hk]
    simp [hk]

theorem sorted_own {w : World} {B g n c m : Nat} {l : List Rec} {d : Array Rec} {os : Array Obj} (h : ROwn w B (some ⟨g, 0, none⟩) n c l) (hd : d.size = l.length) :
    ROwn (sortWorldK recC 4 w g 0 m d os) B (some ⟨g, 0, none⟩) n c d.toList ∧ Frm (fun k => k = g) w (sortWorldK recC 4 w g 0 m d os) := by
  have hl := h.len
  rcases h.block with ⟨h0, _⟩ | ⟨g', cur, hA, hB, hg, h1, h2, h3, h4⟩
  · cases h0
  · injection hA with hA
    injection hA with hA
    subst hA
    have hglt : g < w.heap.size := (Array.getElem?_eq_some_iff.1 hg).1
    have hfs : (flatK recC 4 d).size = n * 4 := by rw [size_flatK, hd, hl]
    have hb : (sortWorldK recC 4 w g 0 m d os).heap[g]? = some (.cells (putCells id 0 (flatK recC 4 d) cur) 37 (0, 0)) := by
      unfold sortWorldK
      rw [heap_grow_old _ _ (by rw [size_putRowK]; exact hglt)]
      unfold putRowK putRow mapBlock
      show ((Sort.ahead w m).heap.modify g _)[g]? = _
      rw [Array.getElem?_modify, if_pos rfl]
      show Option.map _ w.heap[g]? = _
      rw [hg]
      rfl
    refine ⟨⟨by rw [cellsR_length, Array.length_toList, hd, hl], .inr ⟨g, c, _, rfl, hB, hb, h1, h2, by simp [putCells, h3], ?_⟩⟩, ?_⟩
    · have e := take_put cur (flatK recC 4 d) (by rw [hfs, h3]; omega)
      rw [hfs] at e
      rw [e]
      have := flat_list d.toList
      rwa [Array.toArray_toList] at this
    · unfold sortWorldK
      refine ⟨rfl, rfl, rfl, by simp [putRowK, putRow, mapBlock, Sort.ahead], fun k hk hne => ?_⟩
      rw [heap_grow_old _ _ (by rw [size_putRowK]; exact hk)]
      unfold putRowK putRow mapBlock
      show ((Sort.ahead w m).heap.modify g _)[k]? = _
      rw [Array.getElem?_modify, if_neg (fun e => hne e.symm)]
      rfl

set_option maxHeartbeats 1000000 in
theorem insertion_none (p : Option Addr) (cap : Nat) (fv : Value) (w : World) :
    Calls Tryd.prog 73 #[.slice p 0 cap, .int .i64 0, .int .i64 0, fv] w fun e w' => e = .returned (.tuple #[]) ∧ w' = w := by
  go_enter Tryd.func73, Tryd.ntmps73
  go_wp2
  refine wp_loop_rounds 1 ?_
  rw [rounds_succ]
  go_wp2
  go_end0
  exact ⟨rfl, rfl⟩
set_option maxHeartbeats 1000000 in
theorem pdq_none (p : Option Addr) (cap : Nat) (lim : Int) (fv : Value) (w : World) :
    Calls Tryd.prog 60 #[.slice p 0 cap, .int .i64 0, .int .i64 0, .int .i64 lim, fv] w fun e w' => e = .returned (.tuple #[]) ∧ w' = w := by
  have hi := fun W => insertion_none p cap fv W
  go_enter Tryd.func60, Tryd.ntmps60
  go_wp2
  refine wp_loop_rounds 1 ?_
  rw [rounds_succ]
  go_wp2_with (go_at_call 73; refine (hi _).mono ?_; rintro e w' ⟨rfl, rfl⟩)
  (try simp only [Exit.inBlock, Exit.then]); refine bodyPost_ret (results_none rfl _ _ _) rfl ?_
  exact ⟨rfl, rfl⟩

theorem extract_all (d : Array Rec) : (d.extract 0 d.size).toList = d.toList := by simp
set_option maxHeartbeats 1000000 in
set_option maxRecDepth 100000 in
theorem sort_any (A : Option Addr) (n c B : Nat) (l : List Rec) (w : World) (h : ROwn w B A n c l) (hn : n ≤ 1000000) :
    Calls Tryd.prog 46 #[.slice A n c, .func (.func 47) #[] #[]] w fun e w' => e = .returned (.tuple #[]) ∧
      ∃ l', ROwn w' B A n c l' ∧ l'.Perm l ∧ (∀ (i j : Nat) (x y : Rec), i < j → l'[i]? = some x → l'[j]? = some y → ¬ y.lt x) ∧ Frm (fun k => some k = (Value.slice A n c).ownBlock) w w' := by
  have hl := h.len
  rcases h.block with ⟨rfl, rfl, rfl⟩ | ⟨g, cur, rfl, hB, hg, h1, h2, h3, h4⟩
  · have hbl := fun w => Any.bits_Len (SlLaysF0.n15.bits (P := Tryd.prog) (ρ := sortRec_ren) { sortRec with }) (0 : Int) w (by omega) (by omega)
    change ∀ w, Calls Tryd.prog 61 _ _ _ at hbl
    obtain ⟨q, hq⟩ : ∃ q : Int, q = (Lib.bitLen (0 : Int).toNat : Nat) := ⟨_, rfl⟩
    rw [← hq] at hbl
    have hp := fun w => pdq_none none 0 q (.func (.func 47) #[] #[]) w
    clear hq hl
    go_enter Tryd.func46, Tryd.ntmps46
    go_wp2_with (first | (go_at_call 61; refine (hbl _).mono ?_; rintro e w' ⟨rfl, rfl⟩) | (go_at_call 60; refine (hp _).mono ?_; rintro e w' ⟨rfl, rfl⟩))
    go_end0
    have e : l = [] := by have := h.len; exact List.eq_nil_of_length_eq_zero this
    subst e
    exact ⟨rfl, [], h, .refl _, fun i j x y _ hi _ => by simp at hi, Frm.refl _ _⟩
  · have eg : ∀ args w, (callFunc 47 args).run Tryd.prog w = .ok (.enter 47 args) w := enters_of Tryd.func47 (by kernel_rfl) rfl
    have hcon := AnyQ.slices_SortFunc sortRec 4 Tryd.isAgg37 Tryd.sizeOf37 recC recC_length recC_one cmpI swoR 47 #[] g 0 c l.toArray w eg (cmpLays g 0 l.toArray.size w) (holds_own h) (Array.getElem?_eq_some_iff.1 hg).1 (by rw [List.size_toArray, hl]; omega)
    rw [List.size_toArray, hl] at hcon
    change Calls Tryd.prog 46 _ _ _ at hcon
    refine hcon.mono ?_
    rintro e w' ⟨rfl, d', m, os, hp, hs, rfl⟩
    obtain ⟨hsz, _, hpp⟩ := hp
    have hsz : d'.size = l.length := by rw [hsz]; simp
    obtain ⟨ho, hf⟩ := sorted_own (m := m) (os := os) h hsz
    refine ⟨rfl, d'.toList, ho, ?_, fun i j x y hij hi hj hlt => ?_, hf.mono (fun k _ e => by rw [e]; rfl)⟩
    · have e1 : (d'.extract 0 n).toList = d'.toList := by rw [← hl, ← hsz]; exact extract_all d'
      have e2 : (l.toArray.extract 0 n).toList = l := by simp [← hl]
      rw [e1, e2] at hpp
      exact hpp
    · have hi' := (List.getElem?_eq_some_iff.1 hi)
      have hj' := (List.getElem?_eq_some_iff.1 hj)
      obtain ⟨hi1, hi2⟩ := hi'
      obtain ⟨hj1, hj2⟩ := hj'
      rw [Array.length_toList] at hi1 hj1
      have := hs i j (Nat.zero_le _) hij (by omega)
      rw [cmp_ltOf, getElem!_pos d' j hj1, getElem!_pos d' i hi1] at this
      rw [Array.getElem_toList] at hi2 hj2
      rw [hi2, hj2] at this
      exact of_decide_eq_false this hlt
end Go.Proofs.YtjicnfkodieaaaaDoor
