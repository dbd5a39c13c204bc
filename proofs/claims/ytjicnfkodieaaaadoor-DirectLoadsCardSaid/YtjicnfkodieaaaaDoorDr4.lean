/-
  A directory's calls: New, Len, Valid, Find, Add.
-/
import Derived.Test.YtjicnfkodieaaaaDoorDr3
import Derived.Laws.EntriesVeiled
import Derived.Laws.ResultCell
namespace Go.Proofs.YtjicnfkodieaaaaDoor
set_option linter.unusedVariables false
set_option linter.unusedSimpArgs false
open Go.RowKit

/-- Block g is a directory whose map lies in block bm and holds the records of D. -/
structure Dir (w : World) (g bm : Nat) (D : List Rec) : Prop where
  blk : Blk w g 69 #[.map (some bm)]
  map : MapAt w bm D
  ok : DirOk D
theorem Dir.frm {S : Nat → Prop} {w w' : World} {g bm : Nat} {D : List Rec} (h : Dir w g bm D) (f : Frm S w w') (h1 : ¬ S g) (h2 : ¬ S bm) : Dir w' g bm D := ⟨h.blk.frm f h1, h.map.frm f h2, h.ok⟩
theorem Dir.frm0 {w w' : World} {g bm : Nat} {D : List Rec} (h : Dir w g bm D) (f : Frm (fun _ => False) w w') : Dir w' g bm D := h.frm f (fun h => h) (fun h => h)

theorem dmake_func (fn : Fn) (first cap : Array Value) (w : World) : (Instr.makeFunc fn first cap).run Tryd.prog w = .ok (.func fn first cap) w := rfl
theorem enters_valid : ∀ args w, (callFunc 32 args).run Tryd.prog w = .ok (.enter 32 args) w := enters_of Tryd.func32 (by kernel_rfl) rfl
theorem enters_within : ∀ args w, (callFunc 45 args).run Tryd.prog w = .ok (.enter 45 args) w := enters_of Tryd.func45 (by kernel_rfl) rfl
theorem enters_all : ∀ args w, (callFunc 34 args).run Tryd.prog w = .ok (.enter 34 args) w := enters_of Tryd.func34 (by kernel_rfl) rfl

def RowPost (w : World) (l : List Rec) (e : Ending) (w' : World) : Prop := ∃ A n c, e = .returned (.slice A n c) ∧ ROwn w' w.heap.size A n c l ∧ Frm (fun _ => False) w w'
theorem those_all (g bm : Nat) (D : List Rec) (w : World) (h : Dir w g bm D) :
    Calls Tryd.prog 31 #[.pointer (some ⟨g, 0, none⟩), .func (.func 34) #[] #[]] w (RowPost w D) :=
  (those_any g bm _ #[] (fun _ => true) D w h.ok h.blk h.map enters_all (fun r W _ => test_all r W)).mono fun e w' ⟨A, n, c, he, ho, hf⟩ => ⟨A, n, c, he, by have e : D.filter (fun _ => true) = D := List.filter_eq_self.2 (fun _ _ => rfl); rwa [e] at ho, hf⟩

theorem cell_new (w : World) (t : TypeId) (v : Value) : (w.alloc (.cells #[v] t)).cell? ⟨w.heap.size, 0, none⟩ = some v := (Blk.new w t #[v]).cell 0

set_option maxHeartbeats 1000000 in
theorem valid_any (g bm i : Nat) (D : List Rec) (w : World) (h : Dir w g bm D) :
    Calls Tryd.prog 22 #[.pointer (some ⟨g, 0, none⟩), .int .u32 (i : Int)] w (RowPost w (validL D i)) := by
  have hmf := dmake_func
  have hf1 : Frm (fun _ => False) w (w.alloc (.cells #[.int .u32 (i : Int)] 35)) := Frm.alloc _ _ _
  have h1 := h.frm0 hf1
  have hth := those_any g bm 32 #[.pointer (some ⟨w.heap.size, 0, none⟩)] (fun r => r.meets i i) D _ h1.ok h1.blk h1.map enters_valid (fun r W f => test_valid r w.heap.size i W (cell_frm f (cell_new _ _ _) (fun h => h)))
  have HF := hide hf1
  clear hf1 h1 h
  go_enter Tryd.func22, Tryd.ntmps22
  go_wp2_with (go_at_call 31; refine hth.mono ?_; rintro e w' ⟨A, n, c, rfl, ho, hf⟩)
  go_ret
  exact ⟨A, n, c, rfl, ho.base HF.out.size, frm_false_trans HF.out hf⟩

set_option maxHeartbeats 1000000 in
theorem within_any (g bm a i j : Nat) (D : List Rec) (w : World) (h : Dir w g bm D) :
    Calls Tryd.prog 29 #[.pointer (some ⟨g, 0, none⟩), .int .u16 (a : Int), .int .u32 (i : Int), .int .u32 (j : Int)] w (RowPost w (withinL D a i j)) := by
  have hmf := dmake_func
  have hf1 : Frm (fun _ => False) w (((w.alloc (.cells #[.int .u16 (a : Int)] 25)).alloc (.cells #[.int .u32 (i : Int)] 35)).alloc (.cells #[.int .u32 (j : Int)] 35)) := frm_false_trans (frm_false_trans (Frm.alloc _ _ _) (Frm.alloc _ _ _)) (Frm.alloc _ _ _)
  have h1 := h.frm0 hf1
  have ca : (((w.alloc (.cells #[.int .u16 (a : Int)] 25)).alloc (.cells #[.int .u32 (i : Int)] 35)).alloc (.cells #[.int .u32 (j : Int)] 35)).cell? ⟨w.heap.size, 0, none⟩ = some (.int .u16 (a : Int)) := cell_frm (frm_false_trans (Frm.alloc _ _ _) (Frm.alloc _ _ _)) (cell_new w _ _) (fun h => h)
  have ci : (((w.alloc (.cells #[.int .u16 (a : Int)] 25)).alloc (.cells #[.int .u32 (i : Int)] 35)).alloc (.cells #[.int .u32 (j : Int)] 35)).cell? ⟨w.heap.size + 1, 0, none⟩ = some (.int .u32 (i : Int)) := cell_frm (Frm.alloc _ _ (fun _ => False)) ((blk_new1 w _ 35 #[.int .u32 (i : Int)]).cell 0) (fun h => h)
  have cj : (((w.alloc (.cells #[.int .u16 (a : Int)] 25)).alloc (.cells #[.int .u32 (i : Int)] 35)).alloc (.cells #[.int .u32 (j : Int)] 35)).cell? ⟨w.heap.size + 2, 0, none⟩ = some (.int .u32 (j : Int)) := by
    have h := cell_new ((w.alloc (.cells #[.int .u16 (a : Int)] 25)).alloc (.cells #[.int .u32 (i : Int)] 35)) 35 (.int .u32 (j : Int))
    have e : ((w.alloc (.cells #[.int .u16 (a : Int)] 25)).alloc (.cells #[.int .u32 (i : Int)] 35)).heap.size = w.heap.size + 2 := by simp
    rwa [e] at h
  have hth := those_any g bm 45 #[.pointer (some ⟨w.heap.size, 0, none⟩), .pointer (some ⟨w.heap.size + 1, 0, none⟩), .pointer (some ⟨w.heap.size + 2, 0, none⟩)] (fun r => decide (r.a = a) && r.meets i j) D _ h1.ok h1.blk h1.map enters_within
    (fun r W f => test_within r w.heap.size (w.heap.size + 1) (w.heap.size + 2) a i j W (cell_frm f ca (fun h => h)) (cell_frm f ci (fun h => h)) (cell_frm f cj (fun h => h)))
  have HF := hide hf1
  clear hf1 h1 h ca ci cj
  go_enter Tryd.func29, Tryd.ntmps29
  go_wp2_with (go_at_call 31; refine hth.mono ?_; rintro e w' ⟨A, n, c, rfl, ho, hf⟩)
  go_ret
  exact ⟨A, n, c, rfl, ho.base HF.out.size, frm_false_trans HF.out hf⟩

set_option maxHeartbeats 1000000 in
theorem new_any (w : World) : Calls Tryd.prog 14 #[] w fun e w' => ∃ g bm, e = .returned (.pointer (some ⟨g, 0, none⟩)) ∧ Dir w' g bm [] ∧ Frm (fun _ => False) w w' ∧ w.heap.size ≤ g ∧ w.heap.size ≤ bm := by
  have hmm := @run_makeMap Tryd.prog
  go_enter Tryd.func14, Tryd.ntmps14
  go_wp2
  go_ret
  exact ⟨w.heap.size + 1, w.heap.size, rfl, ⟨blk_new1 w _ _ _, (MapAt.made w).frm (Frm.alloc _ _ (fun _ => False)) (fun h => h), DirOk.nil⟩, frm_false_trans (Frm.alloc _ _ _) (Frm.alloc _ _ _), by omega, by omega⟩

set_option maxHeartbeats 1000000 in
theorem dlen_any (g bm : Nat) (D : List Rec) (w : World) (h : Dir w g bm D) : Calls Tryd.prog 18 #[.pointer (some ⟨g, 0, none⟩)] w fun e w' => e = .returned (.int .i64 (D.length : Int)) ∧ w' = w := by
  have c0 : w.cell? ⟨g, 0, none⟩ = some (.map (some bm)) := h.blk.cell 0
  have hl := run_len w bm D h.map
  clear h
  go_enter Tryd.func18, Tryd.ntmps18
  go_wp2
  go_ret
  exact ⟨rfl, rfl⟩

def findL (D : List Rec) (a i : Nat) : Option Rec := (withinL D a i i).head?
def foundR (D : List Rec) (a i : Nat) : Rec := (findL D a i).getD default
def foundB (D : List Rec) (a i : Nat) : Bool := (findL D a i).isSome

theorem results_rec_b {fn : Func} {p u : Tmp} (h : fn.results = #[.cell p 37, .tmp u]) (tmps : Array Value) (w : World) (g : Nat) (cs : List Value) (hp : tmps.getD p undef = .pointer (some ⟨g, 0, none⟩)) (hb : Blk w g 37 cs.toArray) (hn : cs.length = 4) :
    (results fn tmps).run Tryd.prog w = .ok (.tuple #[.agg cs.toArray, tmps.getD u undef]) w := by
  have hl := run_load_agg aggR w g 0 _ cs cs hb (by rw [List.drop_zero, List.take_of_length_le (by omega)]) (by omega)
  rw [results_cell_tmp h, hp]
  simp only [asAddr, Sem.run_pure, Result.andThen_ok, hl]

set_option maxHeartbeats 2000000 in
set_option maxRecDepth 100000 in
theorem find_any (g bm a i : Nat) (D : List Rec) (w : World) (h : Dir w g bm D) :
    Calls Tryd.prog 19 #[.pointer (some ⟨g, 0, none⟩), .int .u16 (a : Int), .int .u32 (i : Int)] w fun e w' => e = .returned (.tuple #[recV (foundR D a i), .bool (foundB D a i)]) ∧ Frm (fun _ => False) w w' := by
  have HW : Hid (∀ w1, Frm (fun _ => False) w w1 → Calls Tryd.prog 29 #[.pointer (some ⟨g, 0, none⟩), .int .u16 (a : Int), .int .u32 (i : Int), .int .u32 (i : Int)] w1 (RowPost w1 (withinL D a i i))) := fun w1 f => within_any g bm a i i D w1 (h.frm0 f)
  unfold foundR foundB findL
  obtain ⟨l, hl⟩ : ∃ l, l = withinL D a i i := ⟨_, rfl⟩
  rw [← hl] at HW ⊢
  clear hl h
  go_enter Tryd.func19, Tryd.ntmps19
  go_wp2_with ((refine wpl_alloca (op := ⟨some 6, _, _, _, _, _⟩) rfl _ rfl _ zeroR ?_); intro g6 w1 hB1 hs1 hF1)
  refine (HW.out w1 hF1).mono ?_
  rintro e w2 ⟨A, n, c, rfl, ho, hf⟩
  have hlen := ho.len
  have hB2 := hB1.frm hf (fun h => h)
  have HF2 := hide (frm_false_trans hF1 hf)
  have hneg := ho.ge
  have hg6 : g6 < w1.heap.size := hB1.lt
  clear hB1 hF1 hf HW
  cases l with
  | nil =>
    simp only [List.length_nil] at hlen
    subst hlen
    go_wp2_with ((refine wpl_storea aggR rfl (.tmp 6) (.tmp 17) rfl g6 (recC default) rfl rfl _ _ hB2 rfl rfl (recC_one _) ?_); intro w3 hB3 hF3)
    refine bodyPost_ret (results_rec_b rfl _ _ g6 _ rfl hB3 rfl) rfl ?_
    exact ⟨rfl, (frm_join w HF2.out hF3 (fun k hk => by omega)).out⟩
  | cons r l =>
    have hn0 : ¬ (n : Int) = 0 := by simp at hlen; omega
    have hnp : 0 < n := by simp at hlen; omega
    rcases ho.block with ⟨rfl, h0, _⟩ | ⟨gr, cur, rfl, hb, hg, h1, h2, h3, h4⟩
    · omega
    · have hgB : Blk w2 gr 37 cur.toList.toArray := by rw [Array.toArray_toList]; exact hg
      have hx : (cur.toList.drop 0).take 4 = recC r := by
        rw [List.drop_zero]
        have e := congrArg (List.take 4) h4
        rw [List.take_take, Nat.min_eq_left (by omega)] at e
        rw [e]
        rfl
      have hx2 : 0 + 4 ≤ cur.toList.length := by rw [Array.length_toList]; omega
      have hn1 : (0 : Int) < (n : Int) := by omega
      have hne : g6 ≠ gr := by omega
      clear h1 h2 h3 h4 hg
      go_wp2_with (first
        | (refine wpl_loada (op := ⟨some 20, _, _, _, _, _⟩) aggR rfl (.tmp 19) rfl gr 0 rfl _ cur.toList (recC r) hgB hx hx2 ?_)
        | ((refine wpl_storea aggR rfl (.tmp 6) (.tmp 20) rfl g6 (recC r) rfl rfl _ _ hB2 rfl rfl (recC_one _) ?_); intro w3 hB3 hF3))
      refine bodyPost_ret (results_rec_b rfl _ _ g6 _ rfl hB3 rfl) rfl ?_
      exact ⟨rfl, (frm_join w HF2.out hF3 (fun k hk => by omega)).out⟩
end Go.Proofs.YtjicnfkodieaaaaDoor
