/-
  More tools for the laws: old bytes, copies of streams, rows of parts.
-/
import Derived.Test.YtjicnfkodieaaaaDoorDSha9
import Derived.Deep.RegionHeld3
namespace Go.Proofs.YtjicnfkodieaaaaDoor
set_option linter.unusedVariables false
open Go.RowKit

/-- Bytes that came in lie in no block that came later. -/
theorem src_old {w w' : World} {A : Option Addr} {n : Nat} {l : List UInt8} (h : Rds w A n (cellsB l)) (hb : Below w.heap.size w w') (g : Nat) (hg : w.heap.size ≤ g) : Src w' g A n l := by
  refine ⟨h.below hb, fun hp a ha => ?_⟩
  obtain ⟨a', ha', hcc⟩ := h.2 hp
  rw [ha] at ha'
  injection ha' with ha'
  subst ha'
  have h0 : (cellsB l)[0]? = some _ := List.getElem?_eq_getElem (by rw [h.1]; exact hp)
  have := World.block_lt_of_cell? w _ (hcc 0 _ h0)
  rw [add_block] at this
  omega

def stL (l : List UInt8) : List Value := cellsS (addedN l (l.length / 64)) (leftL l) l.length
theorem stL_length (l : List UInt8) : (stL l).length = 73 := by rw [stL, cellsS_length, addedN_length, leftL_length]
theorem stL_one (l : List UInt8) : ∀ u ∈ stL l, u.oneCell' = true := cellsS_one _ _ _
theorem stL_whole (l : List UInt8) : ((stL l).drop 0).take 73 = stL l := by rw [List.drop_zero, List.take_of_length_le (by rw [stL_length]; exact Nat.le_refl _)]
theorem stL_room (l : List UInt8) : 0 + 73 ≤ (stL l).length := by rw [stL_length]; exact Nat.le_refl _
theorem St.blk {w : World} {g : Nat} {l : List UInt8} (h : St w g l) : Blk w g 101 (stL l).toArray := h
theorem St.of {w : World} {g : Nat} {l : List UInt8} (h : Blk w g 101 (stL l).toArray) : St w g l := h
theorem zeroS_size : (cellsS (List.replicate 8 0) (List.replicate 64 0) 0).toArray.size = 73 := by rw [List.size_toArray, cellsS_length]; rfl
theorem zero32_size : (cellsB (List.replicate 32 0)).toArray.size = 32 := rfl
theorem shaC_length (l : List UInt8) : (cellsB (shaL l)).length = 32 := by rw [cellsB_length, shaL_length]
theorem St.frm {S : Nat → Prop} {w w' : World} {g : Nat} {l : List UInt8} (h : St w g l) (f : Frm S w w') (hS : ¬ S g) : St w' g l := Blk.frm h f hS

theorem nil_src (w : World) (g : Nat) : Src w g none ([] : List UInt8).length [] := ⟨⟨rfl, fun h => absurd h (by decide)⟩, fun h => absurd h (by decide)⟩
theorem nil_prt (w : World) : Prt w (.slice none 0 0) [] := ⟨none, 0, rfl, Nat.le_refl _, ⟨rfl, fun h => absurd h (by decide)⟩⟩
theorem prt_old {w w' : World} {A : Option Addr} {n c : Nat} {l : List UInt8} (h : Rds w A n (cellsB l)) (hn : l.length = n) (hc : n ≤ c) (hb : Below w.heap.size w w') : Prt w' (.slice A n c) l := by
  subst hn
  exact ⟨A, c, rfl, hc, h.below hb⟩

inductive All2 (w : World) : List Value → List (List UInt8) → Prop
  | nil : All2 w [] []
  | cons {v : Value} {l : List UInt8} {vs : List Value} {ls : List (List UInt8)} : Prt w v l → All2 w vs ls → All2 w (v :: vs) (l :: ls)
theorem All2.length {w : World} {vs : List Value} {ls : List (List UInt8)} (h : All2 w vs ls) : vs.length = ls.length := by
  induction h with
  | nil => rfl
  | cons _ _ ih => simp [ih]
theorem All2.at {w : World} {vs : List Value} {ls : List (List UInt8)} (h : All2 w vs ls) : ∀ k, k < ls.length → ∃ v, vs[k]? = some v ∧ Prt w v (ls.getD k []) := by
  induction h with
  | nil => intro k hk; simp at hk
  | cons hp _ ih =>
    intro k hk
    rcases k with _ | k
    · exact ⟨_, rfl, hp⟩
    · obtain ⟨v, h1, h2⟩ := ih k (by simpa using hk)
      exact ⟨v, by simpa using h1, by simpa using h2⟩
theorem parts_alloc (w : World) (vs : List Value) (ls : List (List UInt8)) (e : TypeId) (h : All2 w vs ls) : Prts (w.alloc (.cells vs.toArray e)) (some ⟨w.heap.size, 0, none⟩) vs ls := by
  have hb : Below w.heap.size w (w.alloc (.cells vs.toArray e)) := (Frm.alloc w _ (fun _ => False)).below (Nat.le_refl _) (fun _ h => h.elim)
  refine ⟨by rw [← h.length]; exact alloc_rds w vs e (0, 0), fun k hk => ?_⟩
  obtain ⟨v, h1, h2⟩ := h.at k hk
  exact ⟨v, h1, h2.below hb⟩

/-- The sum of parts that lie in a row that was built just now. -/
theorem sums_row (w : World) (vs : List Value) (ls : List (List UInt8)) (hA : All2 w vs ls) (hG : Gl w) (hg0 : 2 ≤ w.heap.size) (hl : ls.flatten.length ≤ 10000000000) (hn : ls.length ≤ 1000000) :
    Calls Tryd.prog 37 #[.slice (some ⟨w.heap.size, 0, none⟩) vs.length vs.length] (w.alloc (.cells vs.toArray 50)) fun e w' => e = .returned (.agg (cellsB (shaL ls.flatten)).toArray) ∧ Below w.heap.size w w' := by
  have hF : Frm (fun _ => False) w (w.alloc (.cells vs.toArray 50)) := Frm.alloc _ _ _
  have hs := sums_any (some ⟨w.heap.size, 0, none⟩) vs.length vs ls _ (hG.frm hF (fun h => h) (fun h => h)) (parts_alloc w vs ls _ hA) (by have := hF.size; omega) hl hn
  rw [← hA.length] at hs
  exact hs.mono fun e w' ⟨he, hb⟩ => ⟨he, (hF.trans (Frm.of_below (S := fun _ => False) hb) (fun _ _ h => h)).below (Nat.le_refl _) (fun _ h => h.elim)⟩

/-- Seen from the law's own beginning w0. -/
structure Run (w0 w : World) : Prop where
  gl : Gl w
  below : Below w0.heap.size w0 w
  two : 2 ≤ w0.heap.size
theorem Run.frm {S : Nat → Prop} {w0 w w' : World} (h : Run w0 w) (f : Frm S w w') (hS : ∀ k, S k → w0.heap.size ≤ k) : Run w0 w' :=
  ⟨h.gl.frm f (fun s => by have := hS _ s; have := h.two; omega) (fun s => by have := hS _ s; have := h.two; omega), below_frm h.below f h.below.size hS, h.two⟩
theorem Run.size {w0 w : World} (h : Run w0 w) : w0.heap.size ≤ w.heap.size := h.below.size

theorem write_src (g : Nat) (sL x : List UInt8) (A : Option Addr) (n c : Nat) (w0 w : World) (hr : Src w g A n x) (hx : x.length = n) (hc : n ≤ c) (hR : Run w0 w) (hg : w0.heap.size ≤ g) (hS : St w g sL) (hl : sL.length + n ≤ 1000000000) :
    Calls Tryd.prog 50 #[.pointer (some ⟨g, 0, none⟩), .slice A n c] w fun e w' => e = .returned (.tuple #[]) ∧ St w' g (sL ++ x) ∧ Frm (fun k => k = g) w w' ∧ Run w0 w' := by
  subst hx
  have h2 := hR.two
  exact (write_any g sL x A c w hR.gl hS hr hc (by omega) (by omega)).mono fun e w' ⟨he, hs, hf⟩ => ⟨he, hs, hf, hR.frm hf (fun k hk => by omega)⟩
theorem write_old (g : Nat) (sL x : List UInt8) (A : Option Addr) (n c : Nat) (w0 w : World) (hr : Rds w0 A n (cellsB x)) (hx : x.length = n) (hc : n ≤ c) (hR : Run w0 w) (hg : w0.heap.size ≤ g) (hS : St w g sL) (hl : sL.length + n ≤ 1000000000) :
    Calls Tryd.prog 50 #[.pointer (some ⟨g, 0, none⟩), .slice A n c] w fun e w' => e = .returned (.tuple #[]) ∧ St w' g (sL ++ x) ∧ Frm (fun k => k = g) w w' ∧ Run w0 w' :=
  write_src g sL x A n c w0 w (src_old hr hR.below g hg) hx hc hR hg hS hl
theorem write_nil (g : Nat) (sL : List UInt8) (w0 w : World) (hR : Run w0 w) (hg : w0.heap.size ≤ g) (hS : St w g sL) (hl : sL.length ≤ 1000000000) :
    Calls Tryd.prog 50 #[.pointer (some ⟨g, 0, none⟩), .slice none 0 0] w fun e w' => e = .returned (.tuple #[]) ∧ St w' g sL ∧ Frm (fun k => k = g) w w' ∧ Run w0 w' := by
  have := write_src g sL [] none 0 0 w0 w (nil_src w g) rfl (Nat.le_refl _) hR hg hS (by omega)
  rwa [List.append_nil] at this
theorem sum_run (g : Nat) (l : List UInt8) (w0 w : World) (hR : Run w0 w) (hS : St w g l) (hl : l.length ≤ 1000000000) :
    Calls Tryd.prog 51 #[.pointer (some ⟨g, 0, none⟩)] w fun e w' => e = .returned (.agg (cellsB (shaL l)).toArray) ∧ Frm (fun _ => False) w w' ∧ Run w0 w' :=
  (sum_any g l w hR.gl hS (by have := hR.two; have := hR.size; omega) (by omega)).mono fun e w' ⟨he, hb⟩ => ⟨he, Frm.of_below hb, hR.frm (Frm.of_below (S := fun _ => False) hb) (fun _ h => h.elim)⟩
theorem sums_run (w0 w : World) (vs : List Value) (ls : List (List UInt8)) (all : List UInt8) (hA : All2 w vs ls) (hall : ls.flatten = all) (hR : Run w0 w) (hl : all.length ≤ 1000000000) (hn : ls.length ≤ 1000000) :
    Calls Tryd.prog 37 #[.slice (some ⟨w.heap.size, 0, none⟩) vs.length vs.length] (w.alloc (.cells vs.toArray 50)) fun e w' => e = .returned (.agg (cellsB (shaL all)).toArray) ∧ Frm (fun _ => False) w w' ∧ Run w0 w' := by
  subst hall
  exact (sums_row w vs ls hA hR.gl (by have := hR.two; have := hR.size; omega) (by omega) hn).mono fun e w' ⟨he, hb⟩ => ⟨he, Frm.of_below hb, hR.frm (Frm.of_below (S := fun _ => False) hb) (fun _ h => h.elim)⟩
/-- .. of a row that was built some time ago: w1 is the world in which it was built, w comes later. -/
theorem sums_late (w0 w1 w : World) (vs : List Value) (ls : List (List UInt8)) (all : List UInt8) (hA : All2 w1 vs ls) (hall : ls.flatten = all) (hF : Frm (fun _ => False) (w1.alloc (.cells vs.toArray 50)) w) (hR : Run w0 w) (hl : all.length ≤ 1000000000) (hn : ls.length ≤ 1000000) :
    Calls Tryd.prog 37 #[.slice (some ⟨w1.heap.size, 0, none⟩) vs.length vs.length] w fun e w' => e = .returned (.agg (cellsB (shaL all)).toArray) ∧ Frm (fun _ => False) w w' ∧ Run w0 w' := by
  subst hall
  have hp := parts_alloc w1 vs ls 50 hA
  have hb : Below (w1.alloc (.cells vs.toArray 50)).heap.size (w1.alloc (.cells vs.toArray 50)) w := hF.below (Nat.le_refl _) (fun _ h => h.elim)
  have hp' : Prts w (some ⟨w1.heap.size, 0, none⟩) vs ls := ⟨hp.1.below hb, fun k hk => by obtain ⟨v, h1, h2⟩ := hp.2 k hk; exact ⟨v, h1, h2.below hb⟩⟩
  have hs := sums_any (some ⟨w1.heap.size, 0, none⟩) vs.length vs ls w hR.gl hp' (by have := hR.two; have := hR.size; omega) (by omega) hn
  rw [← hA.length] at hs
  exact hs.mono fun e w' ⟨he, hb⟩ => ⟨he, Frm.of_below hb, hR.frm (Frm.of_below (S := fun _ => False) hb) (fun _ h => h.elim)⟩
theorem sums_none (w0 w : World) (hR : Run w0 w) :
    Calls Tryd.prog 37 #[.slice none 0 0] w fun e w' => e = .returned (.agg (cellsB (shaL [])).toArray) ∧ Frm (fun _ => False) w w' ∧ Run w0 w' :=
  (sums_any none 0 [] [] w hR.gl ⟨⟨rfl, fun h => absurd h (by decide)⟩, fun k hk => absurd hk (by simp)⟩ (by have := hR.two; have := hR.size; omega) (by decide) (by decide)).mono fun e w' ⟨he, hb⟩ => ⟨he, Frm.of_below hb, hR.frm (Frm.of_below (S := fun _ => False) hb) (fun _ h => h.elim)⟩
/-- A whole array, loaded in a region. -/
theorem held_load {o : Oper} {a : Act} {w : World} (x : Operand) (ho : o.op = .load 84 x) (g : Nat) (hx : a.eval x = .pointer (some ⟨g, 0, none⟩)) (l : List UInt8) (hl : l.length = 32) (hb : Blk w g 84 (cellsB l).toArray) :
    (execOp a.eval o).run Tryd.prog w = .ok (.value (.agg (cellsB l).toArray)) w := by
  unfold execOp
  simp only [ho, hx, Instr.loadAt, Instr.sureAddr, Sem.run_bind, Sem.run_pure, Result.andThen_ok, run_load_agg agg32 w g 0 _ (cellsB l) (cellsB l) hb (by rw [List.drop_zero, List.take_of_length_le (by rw [cellsB_length, hl]; exact Nat.le_refl _)]) (by rw [cellsB_length, hl]; exact Nat.le_refl _)]
end Go.Proofs.YtjicnfkodieaaaaDoor
