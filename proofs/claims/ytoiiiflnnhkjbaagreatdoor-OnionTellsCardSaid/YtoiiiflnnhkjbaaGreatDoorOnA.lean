/-
  The tables of sha and chacha, and a list of blocks beside them; what types hold.
-/
import Derived.Test.YtoiiiflnnhkjbaaGreatDoorOnM
import Derived.Test.YtoiiiflnnhkjbaaGreatDoorOSlD
namespace Go.Proofs.YtoiiiflnnhkjbaaGreatDoor
set_option linter.unusedVariables false
set_option linter.unusedSimpArgs false
open Go.RowKit

structure Tb (w : World) : Prop where
  gl : Gl w
  gc : Gc w
  four : 4 ≤ w.heap.size
theorem Tb.frm {S : Nat → Prop} {w w' : World} (h : Tb w) (f : Frm S w w') (hS : ∀ k, S k → 4 ≤ k) : Tb w' :=
  ⟨h.gl.frm f (fun s => by have := hS _ s; omega) (fun s => by have := hS _ s; omega), h.gc.frm f (fun s => by have := hS _ s; omega) (fun s => by have := hS _ s; omega), Nat.le_trans h.four f.size⟩
theorem Tb.frm0 {w w' : World} (h : Tb w) (f : Frm (fun _ => False) w w') : Tb w' := h.frm f (fun _ h => h.elim)
theorem Tb.call {w w' : World} (h : Tb w) (b : Below w.heap.size w w') : Tb w' := h.frm0 (Frm.of_below b)
/-- Blocks of a walk's own, and the tables. -/
structure OAt (w : World) (l : List (Nat × TypeId × List Value)) (W : World) : Prop where
  at0 : At w l W
  tb : Tb W
  four : 4 ≤ w.heap.size
section
variable {w W W1 W2 : World} {l : List (Nat × TypeId × List Value)} {g : Nat} {t : TypeId} {cs cs' : List Value} {old : Array Value}
theorem OAt.start (h : Tb w) : OAt w [] w := ⟨At.start w, h, h.four⟩
theorem OAt.get (h : OAt w l W) (i : Nat) (hi : l[i]? = some (g, t, cs)) : Blk W g t cs.toArray := h.at0.get i hi
theorem OAt.ge (h : OAt w l W) (i : Nat) (hi : l[i]? = some (g, t, cs)) : w.heap.size ≤ g := h.at0.ge i hi
theorem OAt.bel (h : OAt w l W) : Below w.heap.size w W := h.at0.bel
theorem OAt.frm (h : OAt w l W) (f : Frm (fun _ => False) W W1) : OAt w l W1 := ⟨h.at0.frm f, h.tb.frm0 f, h.four⟩
theorem OAt.call (h : OAt w l W) (b : Below W.heap.size W W1) : OAt w l W1 := h.frm (Frm.of_below b)
theorem OAt.drew (h : OAt w l W) : OAt w l W.drew := h.frm ((Frm.refl _ _).drew)
theorem OAt.drewN (h : OAt w l W) (n : Nat) : OAt w l (W.drewN n) := h.frm ((Frm.refl _ _).drewN n)
theorem OAt.var (h : OAt w l W) (hg : W.heap.size ≤ g) (f1 : Frm (fun _ => False) W W1) (f2 : Frm (fun k => k = g) W1 W2) (hb : Blk W2 g t cs.toArray) : OAt w (l ++ [(g, t, cs)]) W2 :=
  ⟨h.at0.var hg f1 f2 hb, (h.tb.frm0 f1).frm f2 (fun k hk => by have := h.tb.four; omega), h.four⟩
theorem OAt.box (h : OAt w l W) (hg : W.heap.size ≤ g) (f1 : Frm (fun _ => False) W W1) (hb : Blk W1 g t cs.toArray) : OAt w (l ++ [(g, t, cs)]) W1 := h.var hg f1 (Frm.refl _ _) hb
theorem OAt.store (h : OAt w l W) (i : Nat) (hi : l[i]? = some (g, t, cs)) (f : Frm (fun k => k = g) W W1) (hb : Blk W1 g t cs'.toArray) : OAt w (l.set i (g, t, cs')) W1 :=
  ⟨h.at0.store i hi f hb, h.tb.frm f (fun k hk => by have := h.ge i hi; have := h.four; omega), h.four⟩
theorem OAt.run (h : OAt w l W) : Run w W := ⟨h.tb.gl, h.bel, h.four⟩
theorem OAt.sz (h : OAt w l W) : 4 ≤ W.heap.size := h.tb.four
theorem OAt.other (h : OAt w l W) (i j : Nat) {g2 : Nat} {t2 : TypeId} {cs2 : List Value} (hi : l[i]? = some (g, t, cs)) (hj : l[j]? = some (g2, t2, cs2)) (hne : i ≠ j) : g ≠ g2 := h.at0.other i j hi hj hne
end
theorem aggT : Agg Tryz.prog 56 16 := Agg.of (by kernel_rfl) (by kernel_rfl)
theorem aggH : Agg Tryz.prog 63 54 := Agg.of (by kernel_rfl) (by kernel_rfl)
theorem agg384 : Agg Tryz.prog 78 384 := Agg.of (by kernel_rfl) (by kernel_rfl)
theorem zeroT : (Tryz.prog.info? 56).map (fun i => i.zero) = some (some (.agg (cellsB Z16).toArray)) := by kernel_rfl
theorem zeroH : (Tryz.prog.info? 63).map (fun i => i.zero) = some (some (.agg (hopC hop0).toArray)) := by kernel_rfl
theorem zero384 : (Tryz.prog.info? 78).map (fun i => i.zero) = some (some (.agg (cellsB (zeros 384)).toArray)) := by kernel_rfl
theorem zero320 : (Tryz.prog.info? 32).map (fun i => i.zero) = some (some (.agg (cellsB (zeros 320)).toArray)) := by kernel_rfl
theorem zero256 : (Tryz.prog.info? 24).map (fun i => i.zero) = some (some (.agg (cellsB (zeros 256)).toArray)) := by kernel_rfl
theorem underT : Tryz.prog.underlying 56 = some (.array 16 5) := by kernel_rfl
theorem under384 : Tryz.prog.underlying 78 = some (.array 384 5) := by kernel_rfl
theorem sl384 (g off : Nat) (w : World) : Sem.run Tryz.prog (Instr.sliceAt 78 (.pointer (some ⟨g, off, none⟩)) none none none) w = .ok (.slice (some ⟨g, off, none⟩) 384 384) w := run_slice_arr0 under384 size8 g off (by decide) w
theorem slot0_c : (slotC slot0).length = 40 := rfl
theorem pkt0_c : (pktC pkt0).length = 610 := pktC_length pkt0_ok
theorem zl_K : (cellsB (List.replicate 32 0)).toArray.size = 32 := rfl
theorem hop0_len : (hopC hop0).toArray.size = 54 := rfl
theorem zl_320 : (cellsB (zeros 320)).toArray.size = 320 := by rw [List.size_toArray, cellsB_length, zeros_length]
theorem zl_256 : (cellsB (zeros 256)).toArray.size = 256 := by rw [List.size_toArray, cellsB_length, zeros_length]
theorem zl_384 : (cellsB (zeros 384)).toArray.size = 384 := by rw [List.size_toArray, cellsB_length, zeros_length]
theorem cl {l : List UInt8} {n : Nat} (h : l.length = n) : (cellsB l).length = n := by rw [cellsB_length]; exact h
theorem cls {l : List UInt8} {n : Nat} (h : l.length = n) : (cellsB l).toArray.size = n := by rw [List.size_toArray]; exact cl h
theorem ctake {l : List UInt8} {n : Nat} (h : l.length = n) : ((cellsB l).drop 0).take n = cellsB l := full_take (cl h)
theorem Blk.al {w : World} {g : Nat} {t : TypeId} {cs : Array Value} (h : Blk w g t cs) (o : Obj) : Blk (w.alloc o) g t cs := h.frm (Frm.alloc _ _ (fun _ => False)) (fun h => h)
/-- A block of bytes as a slice of them. -/
theorem Blk.prt {w : World} {g : Nat} {t : TypeId} {l : List UInt8} (h : Blk w g t (cellsB l).toArray) {n : Nat} (hl : l.length = n) : Prt w (.slice (some ⟨g, 0, none⟩) n n) l := by
  subst hl
  have := h.rds
  rw [cellsB_length] at this
  exact ⟨_, _, rfl, Nat.le_refl _, this⟩
theorem Blk.rdsn {w : World} {g : Nat} {t : TypeId} {l : List UInt8} (h : Blk w g t (cellsB l).toArray) {n : Nat} (hl : l.length = n) : Rds w (some ⟨g, 0, none⟩) n (cellsB l) := by
  subst hl
  have := h.rds
  rwa [cellsB_length] at this
/-- Bytes in the middle of a block as a slice of them. -/
theorem Blk.prtm {w : World} {g off n : Nat} {t : TypeId} {cs : List Value} {l : List UInt8} (h : Blk w g t cs.toArray) (hx : (cs.drop off).take n = cellsB l) (hl : l.length = n) : Prt w (.slice (some ⟨g, off, none⟩) n n) l := by
  subst hl
  exact ⟨_, _, rfl, Nat.le_refl _, h.mid off _ l hx rfl⟩
end Go.Proofs.YtoiiiflnnhkjbaaGreatDoor
