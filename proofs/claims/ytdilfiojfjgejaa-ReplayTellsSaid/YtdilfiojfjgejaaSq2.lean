/-
  More laws of the walk for rows of one's own: append with its length by name, also as one step of a region; min as one step of a region; rows whose cells may hold anything.
-/
import Derived.Test.YtdilfiojfjgejaaSq
namespace Go.Proofs.Ytdilfiojfjgejaa
set_option linter.unusedVariables false
open Go.RowKit

section
variable {P : Program} {t e : TypeId} {z : Value} {bytes : Nat}
theorem wp_appQ (o : One P t e z bytes) {op : Oper} {a : Act} {K : Act → World → Prop} {Q : Exit → Act → World → Prop} (s x : Operand)
    (ho : op.op = .call { callee := .builtin .append, args := #[s, x], argTypes := #[t, t] }) (w : World) (base : Nat) (v : Value) (n : Nat) (xs : List Value) (hs : a.eval s = v) (hown : w.ownsRow base e 1 v n xs)
    (A : Option Addr) (m c : Nat) (news : List Value) (hx : a.eval x = .slice A m c) (hr : Rds w A m news) (h1 : ∀ u ∈ news, u.oneCell' = true) (hby : bytes ≤ 64) (nm : Nat) (hnm : nm = n + m) (hsm : nm ≤ 1000000) (hb : base ≤ w.heap.size)
    (h : ∀ A' c' w', w'.ownsRow base e 1 (.slice A' nm c') nm (xs ++ news) → Frm (fun k => some k = v.ownBlock) w w' → ((Value.slice A' nm c').ownBlock = v.ownBlock ∨ (Value.slice A' nm c').ownBlock = some w.heap.size) → K (a.put op.dst (.slice A' nm c')) w') : op.wp P a w K Q := by
  subst hnm
  have h2 : (n + m) * bytes ≤ 1000000 * 64 := Nat.mul_le_mul hsm hby
  exact wp_app o s x ho w base v n xs hs hown A m c news hx hr h1 (by omega) (by omega) hb fun A' c' w' a b c => h A' c' w' a (Frm.of_grown b) c
theorem wpl_appQ (o : One P t e z bytes) {ops : Array Oper} {rest : List Oper} {op : Oper} {a : Act} {Q : Exit → Act → World → Prop} (hgd : op.guard = none) (s x : Operand)
    (ho : op.op = .call { callee := .builtin .append, args := #[s, x], argTypes := #[t, t] }) (w : World) (base : Nat) (v : Value) (n : Nat) (xs : List Value) (hs : a.eval s = v) (hown : w.ownsRow base e 1 v n xs)
    (A : Option Addr) (m c : Nat) (news : List Value) (hx : a.eval x = .slice A m c) (hr : Rds w A m news) (h1 : ∀ u ∈ news, u.oneCell' = true) (hby : bytes ≤ 64) (nm : Nat) (hnm : nm = n + m) (hsm : nm ≤ 1000000) (hb : base ≤ w.heap.size)
    (h : ∀ A' c' w', w'.ownsRow base e 1 (.slice A' nm c') nm (xs ++ news) → Frm (fun k => some k = v.ownBlock) w w' → ((Value.slice A' nm c').ownBlock = v.ownBlock ∨ (Value.slice A' nm c').ownBlock = some w.heap.size) → wpList P ops Q rest (a.put op.dst (.slice A' nm c')) w') : wpList P ops Q (op :: rest) a w :=
  wpList_plain hgd fun _ hK => wp_appQ o s x ho w base v n xs hs hown A m c news hx hr h1 hby nm hnm hsm hb fun A' c' w' h2 h3 h4 => hK _ _ (h A' c' w' h2 h3 h4)
theorem step_appQ (o : One P t e z bytes) {ops : Array Oper} {op : Oper} {a : Act} {K : Act → World → Prop} {Q : Exit → Act → World → Prop} {E : Prop} (hgd : op.guard = none) (s x : Operand)
    (ho : op.op = .call { callee := .builtin .append, args := #[s, x], argTypes := #[t, t] }) (w : World) (base : Nat) (v : Value) (n : Nat) (xs : List Value) (hs : a.eval s = v) (hown : w.ownsRow base e 1 v n xs)
    (A : Option Addr) (m c : Nat) (news : List Value) (hx : a.eval x = .slice A m c) (hr : Rds w A m news) (h1 : ∀ u ∈ news, u.oneCell' = true) (hby : bytes ≤ 64) (nm : Nat) (hnm : nm = n + m) (hsm : nm ≤ 1000000) (hb : base ≤ w.heap.size)
    (h : ∀ A' c' w', w'.ownsRow base e 1 (.slice A' nm c') nm (xs ++ news) → Frm (fun k => some k = v.ownBlock) w w' → ((Value.slice A' nm c').ownBlock = v.ownBlock ∨ (Value.slice A' nm c').ownBlock = some w.heap.size) → K (a.put op.dst (.slice A' nm c')) w') :
    if Region.wanted op (yielded ops a.tmps) = true then Oper.wp P op a w K Q else E := by
  have hw : Region.wanted op (yielded ops a.tmps) = true := by simp [Region.wanted, hgd]
  rw [if_pos hw]
  exact wp_appQ o s x ho w base v n xs hs hown A m c news hx hr h1 hby nm hnm hsm hb h
end
theorem step_min {P : Program} {ops : Array Oper} {op : Oper} {a : Act} {K : Act → World → Prop} {Q : Exit → Act → World → Prop} {E : Prop} (hgd : op.guard = none) (x y : Operand) (t t' : TypeId)
    (ho : op.op = .call { callee := .builtin .min, args := #[x, y], argTypes := #[t, t'] }) (w : World) (p q m : Int) (hx : a.eval x = .int .i64 p) (hy : a.eval y = .int .i64 q) (hm : m = if q < p then q else p)
    (h : K (a.put op.dst (.int .i64 m)) w) : if Region.wanted op (yielded ops a.tmps) = true then Oper.wp P op a w K Q else E := by
  have hw : Region.wanted op (yielded ops a.tmps) = true := by simp [Region.wanted, hgd]
  rw [if_pos hw]
  unfold Oper.wp execOp
  simp only [ho, resolve, invoke, builtin, Sem.run_bind, Sem.run_pure, Result.andThen_ok, List.map_toArray, List.map_cons, List.map_nil, hx, hy]
  subst hm
  exact h

theorem held_minQ {P : Program} {o : Oper} {a : Act} {w : World} (x y : Operand) (t t' : TypeId) (ho : o.op = .call { callee := .builtin .min, args := #[x, y], argTypes := #[t, t'] }) (p q m : Int) (hx : a.eval x = .int .i64 p) (hy : a.eval y = .int .i64 q) (hm : m = if q < p then q else p) :
    (execOp a.eval o).run P w = .ok (.value (.int .i64 m)) w := by
  unfold execOp
  simp only [ho, resolve, invoke, builtin, Sem.run_bind, Sem.run_pure, Result.andThen_ok, List.map_toArray, List.map_cons, List.map_nil, hx, hy]
  subst hm
  rfl
theorem held_cutQ0 {P : Program} {t e : TypeId} {z : Value} {bytes : Nat} (oo : One P t e z bytes) {o : Oper} {a : Act} {w : World} (x hi : Operand) (ho : o.op = .slice t x none (some hi) none) (A : Option Addr) (n c j : Nat) (hx : a.eval x = .slice A n c) (hh : a.eval hi = .int .i64 (j : Int)) (hj : j ≤ c) :
    (execOp a.eval o).run P w = .ok (.value (.slice A j c)) w := by
  unfold execOp
  simp only [ho, Option.map_some, Option.map_none, hx, hh, run_cutQ0 oo A n c j hj, Sem.run_bind, Result.andThen_ok, Sem.run_pure]
theorem held_cutQ1 {P : Program} {t e : TypeId} {z : Value} {bytes : Nat} (oo : One P t e z bytes) {o : Oper} {a : Act} {w : World} (x lo : Operand) (ho : o.op = .slice t x (some lo) none none) (A A' : Option Addr) (n c i m : Nat) (I : Int) (hx : a.eval x = .slice A n c) (hl : a.eval lo = .int .i64 I) (hI : I = (i : Int)) (hi : i ≤ n) (hm : m = n - i) (hA : A' = if c = i then A else A.map (·.add i)) :
    (execOp a.eval o).run P w = .ok (.value (.slice A' m (c - i))) w := by
  subst hI hA hm
  unfold execOp
  simp only [ho, Option.map_some, Option.map_none, hx, hl, run_cutQ1 oo A n c i hi, Sem.run_bind, Result.andThen_ok, Sem.run_pure]

/-- A row whose cells may hold anything. -/
def OwnAny (w : World) (base : Nat) (e : TypeId) (A : Option Addr) (n c : Nat) : Prop := ∃ xs, w.ownsRow base e 1 (.slice A n c) n xs
theorem OwnAny.at {w : World} {base : Nat} {e : TypeId} {A : Option Addr} {n c k : Nat} (h : OwnAny w base e A n c) (hk : k < n) :
    ∃ g v, A = some ⟨g, 0, none⟩ ∧ base ≤ g ∧ g < w.heap.size ∧ w.cell? ⟨g, k, none⟩ = some v ∧ w.frozen? ⟨g, k, none⟩ = false ∧ ∀ u, OwnAny (w.setCell ⟨g, k, none⟩ u) base e A n c := by
  obtain ⟨xs, hl, h⟩ := h
  simp only [Nat.mul_one] at hl
  rcases h with ⟨_, h0⟩ | ⟨g, cap, cur, hv, hb, hg, h1, h2, h3, h4⟩
  · omega
  · injection hv with hA _ hc
    subst hA hc
    simp only [Nat.mul_one] at h3 h4
    have hB : Blk w g e cur := hg
    have hkc : k < cur.size := by omega
    refine ⟨g, cur[k], rfl, hb, hB.lt, ?_, hB.frozen k, fun u => ⟨xs.set k u, ?_, .inr ⟨g, c, cur.setIfInBounds k u, rfl, hb, hB.set k u, h1, h2, ?_, ?_⟩⟩⟩
    · rw [hB.cell k]
      exact Array.getElem?_eq_getElem hkc
    · simp [hl]
    · simp only [Nat.mul_one, Array.size_setIfInBounds]
      exact h3
    · simp only [Nat.mul_one, Array.toList_setIfInBounds, List.take_set, h4]
end Go.Proofs.Ytdilfiojfjgejaa
