/-
  Rows of one's own: slices of bytes in a slice.
-/
import Derived.Test.YtbicjcpdcopbhaaDoorSha11
import Derived.Test.YtbicjcpdcopbhaaDoorOct1
namespace Go.Proofs.YtbicjcpdcopbhaaDoor
set_option linter.unusedVariables false
open Go.RowKit

/-- Slices of bytes that came in, in a slice. -/
def Rows2 (W : World) (A : Option Addr) (len : Nat) (L : Nat → List UInt8) : Prop :=
  0 < len → ∃ a, A = some a ∧ ∀ r, r < len → ∃ Ar cr, W.cell? (a.add r) = some (.slice Ar (L r).length cr) ∧ (L r).length ≤ cr ∧ cr ≤ 9223372036854775807 ∧ Rds W Ar (L r).length (cellsB (L r))

theorem one_sl : One Tryd.prog 22 24 (.slice none 0 0) 24 := One.of (by kernel_rfl) (by kernel_rfl) rfl

inductive OwnAll (w : World) (B : Nat) : List Value → List (List UInt8) → Prop
  | nil : OwnAll w B [] []
  | cons {v : Value} {l : List UInt8} {vs : List Value} {ls : List (List UInt8)} : w.ownsRow B 5 1 v l.length (cellsB l) → OwnAll w B vs ls → OwnAll w B (v :: vs) (l :: ls)
theorem OwnAll.frm {S : Nat → Prop} {w w' : World} {B : Nat} {vs : List Value} {ls : List (List UInt8)} (h : OwnAll w B vs ls) (f : Frm S w w') (hS : ∀ g cur, Blk w g 5 cur → ¬ S g) : OwnAll w' B vs ls := by
  induction h with
  | nil => exact .nil
  | cons ho _ ih =>
    refine .cons (own_frm ho f (fun k hk => ?_)) ih
    rcases ho.2 with ⟨rfl, _⟩ | ⟨g, cap, cur, rfl, _, hg, _⟩
    · cases hk
    · have : g = k := by simpa [Value.ownBlock] using hk
      subst this
      exact hS g cur hg
theorem OwnAll.frm2 {S : Nat → Prop} {w w' : World} {B : Nat} {vs : List Value} {ls : List (List UInt8)} (h : OwnAll w B vs ls) (f : Frm S w w') (hS : ∀ g, g < w.heap.size → ¬ S g) : OwnAll w' B vs ls :=
  h.frm f (fun g cur hb => hS g hb.lt)
theorem own_base {w : World} {B B' n : Nat} {e : TypeId} {v : Value} {xs : List Value} (h : w.ownsRow B e 1 v n xs) (hB : B' ≤ B) : w.ownsRow B' e 1 v n xs := by
  refine ⟨h.1, ?_⟩
  rcases h.2 with h0 | ⟨g, cap, cur, hv, hbs, hr⟩
  · exact .inl h0
  · exact .inr ⟨g, cap, cur, hv, by omega, hr⟩
theorem own_kind' {w : World} {B n B' n' : Nat} {v v' : Value} {xs xs' : List Value} (h : w.ownsRow B 24 1 v n xs) (h' : w.ownsRow B' 5 1 v' n' xs') : ∀ k, v'.ownBlock = some k → ¬ (some k = v.ownBlock) := by
  intro k hk he
  rcases h'.2 with ⟨rfl, _⟩ | ⟨g, cap, cur, rfl, _, hg, _⟩
  · cases hk
  · have hgk : g = k := by simpa [Value.ownBlock] using hk
    subst hgk
    rcases h.2 with ⟨rfl, _⟩ | ⟨g', cap', cur', rfl, _, hg', _⟩
    · cases he
    · have : g = g' := by simpa [Value.ownBlock] using he
      subst this
      exact Blk.ne (t := 5) (show Blk w g 5 cur from hg) (show Blk w g 24 cur' from hg') (by decide) rfl
theorem OwnAll.snoc {w : World} {B : Nat} {vs : List Value} {ls : List (List UInt8)} (h : OwnAll w B vs ls) {v : Value} {l : List UInt8} (k : w.ownsRow B 5 1 v l.length (cellsB l)) : OwnAll w B (vs ++ [v]) (ls ++ [l]) := by
  induction h with
  | nil => exact .cons k .nil
  | cons ho _ ih => exact .cons ho ih
theorem prt_own {w : World} {B : Nat} {v : Value} {l : List UInt8} (h : w.ownsRow B 5 1 v l.length (cellsB l)) : Prt w v l := by
  obtain ⟨A, c, hv⟩ := own_form h
  subst hv
  have hr := (Seg.of_own h).rds
  rcases h.2 with ⟨h1, h2⟩ | ⟨g, cap, cur, h1, _, _, hnc, _⟩
  · injection h1 with _ _ h3
    exact ⟨A, c, rfl, by omega, hr⟩
  · injection h1 with _ _ h3
    exact ⟨A, c, rfl, by omega, hr⟩
theorem OwnAll.all2 {w : World} {B : Nat} {vs : List Value} {ls : List (List UInt8)} (h : OwnAll w B vs ls) : All2 w vs ls := by
  induction h with
  | nil => exact .nil
  | cons ho _ ih => exact .cons (prt_own ho) ih
theorem OwnAll.length {w : World} {B : Nat} {vs : List Value} {ls : List (List UInt8)} (h : OwnAll w B vs ls) : vs.length = ls.length := h.all2.length
/-- The block of a row of one's own holds that kind of cells. -/
theorem own_kind {w : World} {B n : Nat} {v : Value} {xs : List Value} (h : w.ownsRow B 24 1 v n xs) : ∀ g cur, Blk w g 5 cur → ¬ (some g = v.ownBlock) := by
  intro g cur hb he
  rcases h.2 with ⟨rfl, _⟩ | ⟨g', cap, cur', rfl, _, hg, _⟩
  · cases he
  · have : g = g' := by simpa [Value.ownBlock] using he
    subst this
    exact Blk.ne (t := 5) hb (show Blk w g 24 cur' from hg) (by decide) rfl
theorem held_min {o : Oper} {a : Act} {w : World} (x y : Operand) (t t' : TypeId) (ho : o.op = .call { callee := .builtin .min, args := #[x, y], argTypes := #[t, t'] }) (p q m : Int) (hx : a.eval x = .int .i64 p) (hy : a.eval y = .int .i64 q) (hm : m = if q < p then q else p) :
    (execOp a.eval o).run Tryd.prog w = .ok (.value (.int .i64 m)) w := by
  unfold execOp
  simp only [ho, resolve, invoke, builtin, Sem.run_bind, Sem.run_pure, Result.andThen_ok, List.map_toArray, List.map_cons, List.map_nil, hx, hy]
  subst hm
  rfl
theorem held_cut0 {o : Oper} {a : Act} {w : World} (x hi : Operand) (ho : o.op = .slice 24 x none (some hi) none) (A : Option Addr) (n c j : Nat) (hx : a.eval x = .slice A n c) (hh : a.eval hi = .int .i64 (j : Int)) (hj : j ≤ c) :
    (execOp a.eval o).run Tryd.prog w = .ok (.value (.slice A j c)) w := by
  have hinfo := size8
  have h0 : A.map (·.add 0) = A := by cases A <;> simp [Addr.add]
  unfold execOp
  cases hq : Tryd.prog.info? 5 with
  | none => rw [hq] at hinfo; cases hinfo
  | some d =>
    have hr : (Instr.sliceAt 24 (.slice A n c) none (some (.int .i64 (j : Int))) none).run Tryd.prog w = .ok (.slice A j c) w := by
      simp [Instr.sliceAt, Instr.slice, run_underlying under24, Instr.sliceBounds, Instr.sliceBound, asIntOf, sizeOf, typeInfo, hq, hj, h0]
    simp only [ho, Option.map_some, Option.map_none, hx, hh, hr, Sem.run_bind, Result.andThen_ok, Sem.run_pure]
def partsL (L : Nat → List UInt8) (k : Nat) : List (List UInt8) := (List.range k).map fun j => (L j).take 200
theorem partsL_succ (L : Nat → List UInt8) (k : Nat) : partsL L (k + 1) = partsL L k ++ [(L k).take 200] := by simp [partsL, List.range_succ]
theorem partsL_length (L : Nat → List UInt8) (k : Nat) : (partsL L k).length = k := by simp [partsL]
theorem partsL_flat (L : Nat → List UInt8) (k : Nat) : (partsL L k).flatten.length ≤ 200 * k := by
  induction k with
  | zero => simp [partsL]
  | succ k ih =>
    rw [partsL_succ, List.flatten_append, List.length_append]
    have h : ([(L k).take 200].flatten).length ≤ 200 := by simp; omega
    omega

end Go.Proofs.YtbicjcpdcopbhaaDoor
