/-
  Records compared: the library's Compare and Or, and the package's own compare and meets.
-/
import Derived.Test.YtjicnfkodieaaaaDoorDrM
import Derived.Test.YtjicnfkodieaaaaDoorDSha10
import Derived.Sort.Grow
import Derived.StillTactics
import Derived.StillTailTactics
namespace Go.Proofs.YtjicnfkodieaaaaDoor
set_option linter.unusedVariables false
open Go.RowKit Go.Sort

def c3 (p q : Int) : Int := if p < q then -1 else if q < p then 1 else 0
/-- How x stands to y. -/
def cmpI (x y : Rec) : Int := if c3 x.a y.a = 0 then c3 x.f y.f else c3 x.a y.a

set_option maxHeartbeats 400000 in
theorem nan16 (p : Int) (w : World) : Calls Tryd.prog 83 #[.int .u16 p] w fun e w' => e = .returned (.bool false) ∧ w' = w := by
  go_enter Tryd.func83, Tryd.ntmps83
  go_wp2
  go_ret
  exact ⟨by simp, rfl⟩
set_option maxHeartbeats 400000 in
theorem nan32 (p : Int) (w : World) : Calls Tryd.prog 84 #[.int .u32 p] w fun e w' => e = .returned (.bool false) ∧ w' = w := by
  go_enter Tryd.func84, Tryd.ntmps84
  go_wp2
  go_ret
  exact ⟨by simp, rfl⟩

set_option maxHeartbeats 400000 in
theorem cmp16 (p q : Int) (w : World) : Calls Tryd.prog 63 #[.int .u16 p, .int .u16 q] w fun e w' => e = .returned (.int .i64 (c3 p q)) ∧ w' = w := by
  have h1 := fun p w => nan16 p w
  rcases Int.lt_trichotomy p q with h | h | h
  all_goals
    go_enter Tryd.func63, Tryd.ntmps63
    go_wp2_with (go_at_call 83; refine (h1 _ _).mono ?_; rintro e w' ⟨rfl, rfl⟩)
    go_ret
  · exact ⟨by unfold c3; rw [if_pos h]; rfl, rfl⟩
  · exact ⟨by unfold c3; rw [if_neg (by omega), if_neg (by omega)]; rfl, rfl⟩
  · exact ⟨by unfold c3; rw [if_neg (by omega), if_pos h]; rfl, rfl⟩
set_option maxHeartbeats 400000 in
theorem cmp32 (p q : Int) (w : World) : Calls Tryd.prog 64 #[.int .u32 p, .int .u32 q] w fun e w' => e = .returned (.int .i64 (c3 p q)) ∧ w' = w := by
  have h1 := fun p w => nan32 p w
  rcases Int.lt_trichotomy p q with h | h | h
  all_goals
    go_enter Tryd.func64, Tryd.ntmps64
    go_wp2_with (go_at_call 84; refine (h1 _ _).mono ?_; rintro e w' ⟨rfl, rfl⟩)
    go_ret
  · exact ⟨by unfold c3; rw [if_pos h]; rfl, rfl⟩
  · exact ⟨by unfold c3; rw [if_neg (by omega), if_neg (by omega)]; rfl, rfl⟩
  · exact ⟨by unfold c3; rw [if_neg (by omega), if_pos h]; rfl, rfl⟩

set_option maxHeartbeats 1000000 in
/-- The first that is not nought, of two. -/
theorem or_any (g c : Nat) (p q : Int) (e : TypeId) (w : World) (hb : Blk w g e #[.int .i64 p, .int .i64 q]) : Calls Tryd.prog 62 #[.slice (some ⟨g, 0, none⟩) 2 c] w fun e w' => e = .returned (.int .i64 (if p = 0 then q else p)) ∧ w' = w := by
  have c0 : w.cell? ⟨g, 0, none⟩ = some (.int .i64 p) := hb.cell 0
  have c1 : w.cell? ⟨g, 1, none⟩ = some (.int .i64 q) := hb.cell 1
  go_enter Tryd.func62, Tryd.ntmps62
  go_wp2
  go_loopw [8] (fun i wr => wr = w ∧ (i = .int .i64 0 ∨ (i = .int .i64 1 ∧ p = 0) ∨ (i = .int .i64 2 ∧ p = 0 ∧ q = 0))) (fun i _ => 2 - (intOf i).toNat)
  case atStart => exact ⟨rfl, .inl rfl⟩
  case round =>
    obtain ⟨rfl, rfl | ⟨rfl, h0⟩ | ⟨rfl, h0, h1⟩⟩ := hrel
    · by_cases h : p = 0
      · have hd : (p == 0) = true := by simp [h]
        subst h
        go_wp2
        go_roundw
        case rel => simp
        case measure => simp [intOf]
      · go_wp2
        go_ret
        exact ⟨by first | rfl | simp [h], rfl⟩
    · subst h0
      by_cases h : q = 0
      · subst h
        go_wp2
        go_roundw
        case rel => simp
        case measure => simp [intOf]
      · go_wp2
        go_ret
        exact ⟨by first | rfl | simp, rfl⟩
    · subst h0 h1
      go_wp2
      go_ret
      exact ⟨by first | rfl | simp, rfl⟩

theorem grown_alloc (W W' : World) (o : Obj) (h : ∃ q os, W' = grow (W.drewN q) os) : ∃ q os, W'.alloc o = grow (W.drewN q) os := by
  obtain ⟨q, os, rfl⟩ := h
  exact ⟨q, os.push o, by rw [alloc_eq_grow, grow_grow, Array.append_singleton]⟩
theorem grown_drew (W W' : World) (h : ∃ q os, W' = grow (W.drewN q) os) : ∃ q os, W'.drew = grow (W.drewN q) os := by
  obtain ⟨q, os, rfl⟩ := h
  exact ⟨q + 1, os, by rw [drew_grow]; rfl⟩
theorem grown_frm {W W' : World} (h : ∃ q os, W' = grow (W.drewN q) os) : Frm (fun _ => False) W W' := by
  obtain ⟨q, os, rfl⟩ := h
  exact ⟨rfl, rfl, rfl, by simp [World.drewN], fun k hk _ => by rw [heap_grow_old _ _ (by exact hk)]; rfl⟩

theorem blk_new1 (w : World) (o : Obj) (t : TypeId) (cs : Array Value) : Blk ((w.alloc o).alloc (.cells cs t)) (w.heap.size + 1) t cs := by
  have h := Blk.new (w.alloc o) t cs
  have e : (w.alloc o).heap.size = w.heap.size + 1 := by simp
  rwa [e] at h

set_option maxHeartbeats 1000000 in
theorem meets_any (r : Rec) (i j : Nat) (w : World) : Calls Tryd.prog 33 #[recV r, .int .u32 (i : Int), .int .u32 (j : Int)] w fun e w' => e = .returned (.bool (r.meets i j)) ∧ ∃ o, w' = w.alloc o := by
  obtain ⟨a, f, t, l⟩ := r
  have m1 : decide ((f : Int) ≤ (j : Int)) = decide (f ≤ j) := by simp
  have m2 : decide ((i : Int) ≤ (t : Int)) = decide (i ≤ t) := by simp
  simp only [recV, recC, Rec.meets]
  go_enter Tryd.func33, Tryd.ntmps33
  by_cases h1 : f ≤ j
  · have h1' : (f : Int) ≤ (j : Int) := by omega
    by_cases h2 : i ≤ t
    · have h2' : (i : Int) ≤ (t : Int) := by omega
      go_wp2
      go_ret
      exact ⟨by simp [h1, h2], _, rfl⟩
    · have h2' : ¬ (i : Int) ≤ (t : Int) := by omega
      go_wp2
      go_ret
      exact ⟨by simp, _, rfl⟩
  · have h1' : ¬ (f : Int) ≤ (j : Int) := by omega
    go_wp2
    go_ret
    exact ⟨by simp, _, rfl⟩

set_option maxHeartbeats 2000000 in
set_option maxRecDepth 100000 in
theorem compare_any (x y : Rec) (W : World) : Calls Tryd.prog 47 #[recV x, recV y] W fun e w' => e = .returned (.int .i64 (cmpI x y)) ∧ ∃ q os, w' = grow (W.drewN q) os := by
  obtain ⟨xa, xf, xt, xl⟩ := x
  obtain ⟨ya, yf, yt, yl⟩ := y
  have h16 := fun p q w => cmp16 p q w
  have h32 := fun p q w => cmp32 p q w
  simp only [recV, recC, cmpI]
  obtain ⟨ca, hca⟩ : ∃ c, c = c3 (xa : Int) (ya : Int) := ⟨_, rfl⟩
  obtain ⟨cf, hcf⟩ : ∃ c, c = c3 (xf : Int) (yf : Int) := ⟨_, rfl⟩
  have h16' := fun w => h16 (xa : Int) (ya : Int) w
  have h32' := fun w => h32 (xf : Int) (yf : Int) w
  rw [← hca, ← hcf]
  rw [← hca] at h16'
  rw [← hcf] at h32'
  obtain ⟨res, hres⟩ : ∃ res, res = (if ca = 0 then cf else ca) := ⟨_, rfl⟩
  rw [← hres]
  have HR := hide hres.symm
  clear h16 h32 hca hcf hres
  go_enter Tryd.func47, Tryd.ntmps47
  go_wp2_with fail
  have W2 : ∃ W2, W2 = ((W.alloc (Obj.cells #[Value.int IntKind.u16 xa, Value.int IntKind.u32 xf, Value.int IntKind.u32 xt, Value.int IntKind.u32 xl] 37)).alloc (Obj.cells #[Value.int IntKind.u16 ya, Value.int IntKind.u32 yf, Value.int IntKind.u32 yt, Value.int IntKind.u32 yl] 37)) := ⟨_, rfl⟩
  obtain ⟨W2, hW2⟩ := W2
  have hG : ∃ q os, W2.drew = grow (W.drewN q) os := grown_drew _ _ (by rw [hW2]; exact grown_alloc _ _ _ (grown_alloc _ _ _ ⟨0, #[], by rw [grow_empty]; rfl⟩))
  have hb1 : Blk W2 W.heap.size 37 #[Value.int IntKind.u16 xa, Value.int IntKind.u32 xf, Value.int IntKind.u32 xt, Value.int IntKind.u32 xl] := by rw [hW2]; exact (Blk.new W _ _).frm (Frm.alloc _ _ (fun _ => False)) (fun h => h)
  have hb2 : Blk W2 (W.heap.size + 1) 37 #[Value.int IntKind.u16 ya, Value.int IntKind.u32 yf, Value.int IntKind.u32 yt, Value.int IntKind.u32 yl] := by rw [hW2]; exact blk_new1 _ _ _ _
  rw [← hW2]
  clear hW2
  have a0 : W2.drew.cell? ⟨W.heap.size, 0, none⟩ = some (.int .u16 xa) := hb1.cell 0
  have a1 : W2.drew.cell? ⟨W.heap.size, 1, none⟩ = some (.int .u32 xf) := hb1.cell 1
  have b0 : W2.drew.cell? ⟨W.heap.size + 1, 0, none⟩ = some (.int .u16 ya) := hb2.cell 0
  have b1 : W2.drew.cell? ⟨W.heap.size + 1, 1, none⟩ = some (.int .u32 yf) := hb2.cell 1
  clear hb1 hb2
  refine wp_region_still_tail 10 (by kernel_rfl) (by kernel_rfl) ?_
  simp only [List.take_succ_cons, List.take_zero, List.drop_succ_cons, List.drop_zero]
  change wpStill _ _ W2.drew (fun a' => wpList _ _ _ _ a' W2.drew) _ _
  iterate 4 still_step
  still_call (h16' _)
  iterate 4 still_step
  still_call (h32' _)
  refine wpStill_nil ?_
  obtain ⟨W3, hW3⟩ : ∃ W3, W3 = W2.drew := ⟨_, rfl⟩
  rw [← hW3] at hG ⊢
  clear a0 a1 b0 b1 hW3 h16' h32'
  have hor := or_any W3.heap.size 2 ca cf 3 (W3.alloc (.cells #[.int .i64 ca, .int .i64 cf] 3)) (Blk.new _ _ _)
  rw [HR.out] at hor
  have HG := hide (grown_alloc _ _ (.cells #[.int .i64 ca, .int .i64 cf] 3) hG)
  clear hG
  go_wp2_with (go_at_call 62; refine hor.mono ?_; rintro e w' ⟨rfl, rfl⟩)
  go_ret
  exact ⟨rfl, HG.out⟩
end Go.Proofs.YtjicnfkodieaaaaDoor
