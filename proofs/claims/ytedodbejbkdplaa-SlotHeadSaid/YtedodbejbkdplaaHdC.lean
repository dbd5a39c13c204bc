/-
  SlotHead: a law's variables beside a row of slots of one's own; slices of arrays.
-/
import Derived.Test.YtedodbejbkdplaaHdB
namespace Go.Proofs.Ytedodbejbkdplaa
set_option linter.unusedVariables false
set_option linter.unusedSimpArgs false
open Go.RowKit

structure HAt (w : World) (O : List Slot) (Ao : Option Addr) (co : Nat) (l : List (Nat × TypeId × List Value)) (W : World) : Prop where
  at' : At w l W
  own : SOwn W w.heap.size Ao O.length co O
section
variable {w W W1 W2 : World} {O : List Slot} {Ao : Option Addr} {co : Nat} {l m : List (Nat × TypeId × List Value)} {g : Nat} {t : TypeId} {cs cs' : List Value}
theorem HAt.bel (h : HAt w O Ao co l W) : Below w.heap.size w W := h.at'.bel
theorem HAt.get (h : HAt w O Ao co l W) (i : Nat) (hi : l[i]? = some (g, t, cs)) : Blk W g t cs.toArray := h.at'.get i hi
theorem HAt.call (h : HAt w O Ao co l W) (b : Below W.heap.size W W1) : HAt w O Ao co l W1 := ⟨h.at'.call b, h.own.frm0 (Frm.of_below b)⟩
theorem HAt.frm (h : HAt w O Ao co l W) (f : Frm (fun _ => False) W W1) : HAt w O Ao co l W1 := ⟨h.at'.frm f, h.own.frm0 f⟩
theorem HAt.drew (h : HAt w O Ao co l W) : HAt w O Ao co l W.drew := h.frm ((Frm.refl _ _).drew)
theorem HAt.var (h : HAt w O Ao co l W) (hg : W.heap.size ≤ g) (f1 : Frm (fun _ => False) W W1) (f2 : Frm (fun k => k = g) W1 W2) (hb : Blk W2 g t cs.toArray) : HAt w O Ao co (l ++ [(g, t, cs)]) W2 :=
  ⟨h.at'.var hg f1 f2 hb, (h.own.frm0 f1).frm f2 (fun k hk e => by have := (h.own.ge k hk).2; omega)⟩
theorem HAt.box (h : HAt w O Ao co l W) (hg : W.heap.size ≤ g) (f1 : Frm (fun _ => False) W W1) (hb : Blk W1 g t cs.toArray) : HAt w O Ao co (l ++ [(g, t, cs)]) W1 := ⟨h.at'.box hg f1 hb, h.own.frm0 f1⟩
theorem SOwn.ne {B n c : Nat} {A : Option Addr} {L : List Slot} (h : SOwn w B A n c L) {cs : Array Value} (hb : Blk w g t cs) (hne : 32 ≠ t) : (Value.slice A n c).ownBlock ≠ some g := by
  rcases h.block with ⟨rfl, _⟩ | ⟨g', cur, rfl, _, hg, _⟩
  · intro h; cases h
  · intro h
    have : g' = g := by simpa [Value.ownBlock] using h
    exact Blk.ne (t := 32) hg hb hne this
theorem HAt.store (h : HAt w O Ao co l W) (i : Nat) (hi : l[i]? = some (g, t, cs)) (f : Frm (fun k => k = g) W W1) (hb : Blk W1 g t cs'.toArray) (hne : 32 ≠ t) : HAt w O Ao co (l.set i (g, t, cs')) W1 :=
  ⟨h.at'.store i hi f hb, h.own.frm f (fun k hk e => h.own.ne (h.get i hi) hne (by rw [hk, e]))⟩
theorem HAt.left (h : HAt w O Ao co (l ++ m) W) : HAt w O Ao co l W :=
  ⟨⟨fun x hx => h.at'.has x (List.mem_append_left _ hx), fun x hx => h.at'.low x (List.mem_append_left _ hx), by have := h.at'.nd; rw [List.map_append, List.nodup_append] at this; exact this.1, h.at'.bel⟩, h.own⟩
theorem HAt.app (h : HAt w O Ao co l W) (hl : ∀ x ∈ l, 32 ≠ x.2.1) {O2 : List Slot} {A2 : Option Addr} {c2 : Nat} (ho : SOwn W1 w.heap.size A2 O2.length c2 O2) (f : Frm (fun k => some k = (Value.slice Ao O.length co).ownBlock) W W1) : HAt w O2 A2 c2 l W1 :=
  ⟨⟨fun x hx => (h.at'.has x hx).frm f (fun e => h.own.ne (h.at'.has x hx) (hl x hx) e.symm), h.at'.low, h.at'.nd, below_frm h.bel f h.bel.size (fun k hk => (h.own.ge k hk.symm).1)⟩, ho⟩
end
theorem slice_arr_from {t : TypeId} {N : Nat} (hu : Try.prog.underlying t = some (.array N 5)) (g off k : Nat) (hk : k < N) (w : World) :
    (Instr.sliceAt t (.pointer (some ⟨g, off, none⟩)) (some (.int .i64 (k : Int))) none none).run Try.prog w = .ok (.slice (some ⟨g, off + k, none⟩) (N - k) (N - k)) w := by
  have hi := size8
  cases hq : Try.prog.info? 5 with
  | none => simp [hq] at hi
  | some d =>
    rw [hq] at hi
    have hs : d.size = 1 := by simpa using hi
    have hk1 : k ≤ N := by omega
    have hk2 : ¬ N = k := by omega
    have hk3 : ¬ (N : Int) < (k : Int) := by omega
    simp [Instr.sliceAt, run_underlying hu, Instr.sureAddr, Instr.sliceBounds, Instr.sliceBound, asIntOf, sizeOf, typeInfo, hq, hs, hk1, hk2, hk3, Addr.add]
theorem slice_arr_all {t : TypeId} {N : Nat} (hu : Try.prog.underlying t = some (.array N 5)) (g : Nat) (w : World) :
    (Instr.sliceAt t (.pointer (some ⟨g, 0, none⟩)) none none none).run Try.prog w = .ok (.slice (some ⟨g, 0, none⟩) N N) w := by
  have hi := size8
  cases hq : Try.prog.info? 5 with
  | none => simp [hq] at hi
  | some d =>
    simp [Instr.sliceAt, run_underlying hu, Instr.sureAddr, Instr.sliceBounds, Instr.sliceBound, asIntOf, sizeOf, typeInfo, hq, Addr.add]
end Go.Proofs.Ytedodbejbkdplaa
