/-
  The calls of layer 5, seen from a law's own beginning.
-/
import Derived.Test.YtjdffceeinflcaaDoorCh8
namespace Go.Proofs.YtjdffceeinflcaaDoor
set_option linter.unusedVariables false
open Go.RowKit

/-- A world that a law has come to. -/
structure CRun (w0 w : World) : Prop where
  gc : Gc w
  below : Below w0.heap.size w0 w
  two : 2 ≤ w0.heap.size
theorem CRun.frm {S : Nat → Prop} {w0 w w' : World} (h : CRun w0 w) (f : Frm S w w') (hS : ∀ k, S k → w0.heap.size ≤ k) : CRun w0 w' :=
  ⟨h.gc.frm f (fun s => by have := hS _ s; have := h.two; omega) (fun s => by have := hS _ s; have := h.two; omega), below_frm h.below f h.below.size hS, h.two⟩
theorem CRun.frm0 {w0 w w' : World} (h : CRun w0 w) (f : Frm (fun _ => False) w w') : CRun w0 w' := h.frm f (fun _ h => h.elim)
theorem CRun.size {w0 w : World} (h : CRun w0 w) : w0.heap.size ≤ w.heap.size := h.below.size
theorem CRun.start {w : World} (hG : Gc w) (h2 : 2 ≤ w.heap.size) : CRun w w := ⟨hG, Below.refl _ _, h2⟩

/-- A row of bytes that was made, in a block of its own. -/
structure Row (w : World) (g : Nat) (l : List UInt8) : Prop where
  blk : Blk w g 5 (cellsB l).toArray
theorem Row.rds {w : World} {g : Nat} {l : List UInt8} (h : Row w g l) : Rds w (some ⟨g, 0, none⟩) l.length (cellsB l) := by
  have := h.blk.rds
  rwa [cellsB_length] at this
theorem Row.frm {S : Nat → Prop} {w w' : World} {g : Nat} {l : List UInt8} (h : Row w g l) (f : Frm S w w') (hS : ¬ S g) : Row w' g l := ⟨h.blk.frm f hS⟩
theorem Row.frm0 {w w' : World} {g : Nat} {l : List UInt8} (h : Row w g l) (f : Frm (fun _ => False) w w') : Row w' g l := h.frm f (fun h => h)
theorem Row.lt {w : World} {g : Nat} {l : List UInt8} (h : Row w g l) : g < w.heap.size := h.blk.lt

theorem block_run (w0 w : World) (key nonce : List UInt8) (ctr : Nat) (hR : CRun w0 w) (hk : key.length = 32) (hn : nonce.length = 12) (hc : ctr < 4294967296) :
    Calls Tryd.prog 11 #[.agg (cellsB key).toArray, .int .u32 (ctr : Int), .agg (cellsB nonce).toArray] w fun e w' => e = .returned (.agg (cellsB (chaL key ctr nonce)).toArray) ∧ Frm (fun _ => False) w w' ∧ CRun w0 w' :=
  (block_any key nonce ctr w hR.gc (by have := hR.two; have := hR.size; omega) hk hn hc).mono fun e w' ⟨he, hb⟩ => ⟨he, Frm.of_below hb, hR.frm0 (Frm.of_below hb)⟩
theorem stream_run (w0 w : World) (key nonce : List UInt8) (n : Nat) (hR : CRun w0 w) (hk : key.length = 32) (hno : nonce.length = 12) (hn : n ≤ 1000000) :
    Calls Tryd.prog 13 #[.agg (cellsB key).toArray, .agg (cellsB nonce).toArray, .int .i64 (n : Int)] w fun e w' => ∃ g, e = .returned (.slice (some ⟨g, 0, none⟩) n n) ∧ Row w' g (streamL key nonce n) ∧ w.heap.size ≤ g ∧ Frm (fun _ => False) w w' ∧ CRun w0 w' :=
  (stream_any key nonce n w hR.gc (by have := hR.two; have := hR.size; omega) hk hno hn).mono fun e w' ⟨g, he, hB, hg, hb⟩ => ⟨g, by rw [streamL_length] at he; exact he, ⟨hB⟩, hg, Frm.of_below hb, hR.frm0 (Frm.of_below hb)⟩
theorem xor_run (w0 w : World) (A B : Option Addr) (n m c d : Nat) (a b : List UInt8) (k : Nat) (hA : Rds w A n (cellsB a)) (hB : Rds w B m (cellsB b)) (hR : CRun w0 w) (hn : n ≤ 1000000) (hm : m ≤ 1000000) (hk : (xorB a b).length = k) :
    Calls Tryd.prog 15 #[.slice A n c, .slice B m d] w fun e w' => ∃ g, e = .returned (.slice (some ⟨g, 0, none⟩) k k) ∧ Row w' g (xorB a b) ∧ w.heap.size ≤ g ∧ Frm (fun _ => False) w w' ∧ CRun w0 w' :=
  (xor_any A B n m c d a b w hA hB hn hm).mono fun e w' ⟨g, he, hB, hg, hb⟩ => ⟨g, by rw [hk] at he; exact he, ⟨hB⟩, hg, Frm.of_below hb, hR.frm0 (Frm.of_below hb)⟩
theorem cshown_run (w0 w : World) (hR : CRun w0 w) :
    Calls Tryd.prog 10 #[] w fun e w' => e = .returned (.bool true) ∧ Frm (fun _ => False) w w' ∧ CRun w0 w' :=
  (cshown_any w hR.gc (by have := hR.two; have := hR.size; omega)).mono fun e w' ⟨he, hb⟩ => ⟨he, Frm.of_below hb, hR.frm0 (Frm.of_below hb)⟩

/-- A key and a nonce that lie boxed. -/
structure Boxed (w : World) (gk gn : Nat) (key nonce : List UInt8) : Prop where
  key : Blk w gk 23 (cellsB key).toArray
  nonce : Blk w gn 25 (cellsB nonce).toArray
theorem Boxed.frm {S : Nat → Prop} {w w' : World} {gk gn : Nat} {key nonce : List UInt8} (h : Boxed w gk gn key nonce) (f : Frm S w w') (h1 : ¬ S gk) (h2 : ¬ S gn) : Boxed w' gk gn key nonce := ⟨h.key.frm f h1, h.nonce.frm f h2⟩
theorem Boxed.frm0 {w w' : World} {gk gn : Nat} {key nonce : List UInt8} (h : Boxed w gk gn key nonce) (f : Frm (fun _ => False) w w') : Boxed w' gk gn key nonce := h.frm f (fun h => h) (fun h => h)
theorem boxed_start (w : World) (key nonce : List UInt8) (hG : Gc w) (h2 : 2 ≤ w.heap.size) :
    Boxed ((w.alloc (.cells (cellsB key).toArray 23)).alloc (.cells (cellsB nonce).toArray 25)) w.heap.size (w.heap.size + 1) key nonce ∧ CRun w ((w.alloc (.cells (cellsB key).toArray 23)).alloc (.cells (cellsB nonce).toArray 25)) := by
  have hF0 : Frm (fun _ => False) w ((w.alloc (.cells (cellsB key).toArray 23)).alloc (.cells (cellsB nonce).toArray 25)) := Frm.two _ _ _
  have hBK := (Blk.new w 23 (cellsB key).toArray).frm (Frm.alloc (w.alloc (.cells (cellsB key).toArray 23)) (.cells (cellsB nonce).toArray 25) (fun _ => False)) (fun h => h)
  have hBN := Blk.new (w.alloc (.cells (cellsB key).toArray 23)) 25 (cellsB nonce).toArray
  rw [show (w.alloc (.cells (cellsB key).toArray 23)).heap.size = w.heap.size + 1 by simp] at hBN
  exact ⟨⟨hBK, hBN⟩, (CRun.start hG h2).frm0 hF0⟩

/-- A whole array, where a guard stands and is met. -/
theorem wpl_loadg {P : Program} {ty : TypeId} {n : Nat} (hA : Agg P ty n) {ops : Array Oper} {rest : List Oper} {op : Oper} {a : Act} {w : World} {Q : Exit → Act → World → Prop} (x : Operand) (ho : op.op = .load ty x)
    (g : Nat) (hx : a.eval x = .pointer (some ⟨g, 0, none⟩)) (t : TypeId) (cs : List Value) (hb : Blk w g t cs.toArray) (hn : cs.length = n) (hw : Region.wanted op (yielded ops a.tmps) = true)
    (h : wpList P ops Q rest (a.put op.dst (.agg cs.toArray)) w) : wpList P ops Q (op :: rest) a w :=
  wpList_step fun K hK => by
    rw [if_pos hw]
    exact wp_loada hA x ho g 0 hx t cs cs hb (by rw [List.drop_zero, List.take_of_length_le (by omega)]) (by omega) (hK _ _ h)
theorem mod_nat (x : Nat) (c : Nat) (hc : 0 < c) : ∃ m : Nat, Int.tmod (x : Int) (c : Int) = (m : Int) ∧ m < c := by
  refine ⟨x % c, ?_, Nat.mod_lt _ hc⟩
  rw [Int.tmod_eq_emod_of_nonneg (by omega)]
  rfl
end Go.Proofs.YtjdffceeinflcaaDoor
