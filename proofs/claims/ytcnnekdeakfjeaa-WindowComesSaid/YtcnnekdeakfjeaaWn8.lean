/-
  What the laws of window have in common.
-/
import Derived.Test.YtcnnekdeakfjeaaWn7
import Derived.Test.YtcnnekdeakfjeaaSq2
import Derived.Laws.BitsAllLaws
namespace Go.Proofs.Ytcnnekdeakfjeaa
set_option linter.unusedVariables false
open Go.RowKit

theorem one_u32 : One Try.prog 23 42 (.int .u32 0) 4 := One.of (by kernel_rfl) (by kernel_rfl) rfl
theorem winAt_take (s : Nat) (d : List Nat) (L K k i : Nat) (h : i < k) : winAt s (d.take k) L K i = winAt s d L K i := by
  unfold winAt hiN earl
  rw [List.take_take, Nat.min_eq_left (by omega)]
theorem fit_take {s : Nat} {d : List Nat} {L K k m : Nat} (h : FitTo s d L K m) (hk : k ≤ m) : FitTo s (d.take k) L K k := fun i hi => by
  have h1 := h i (by omega)
  have h2 := congrArg Prod.snd (winAt_take s d L K k i hi)
  simp only [winAt] at h2
  rw [h2]
  exact h1
theorem mask16 (n : Int) : bits .and .i64 n 65535 = n % 65536 := by
  have h1 : (BitVec.ofInt 64 65535).toNat = 2 ^ 16 - 1 := by decide
  have key : (BitVec.ofInt 64 n &&& BitVec.ofInt 64 65535).toNat = (n % ((2 ^ 64 : Nat) : Int)).toNat % 2 ^ 16 := by
    rw [BitVec.toNat_and, BitVec.toNat_ofInt, h1, Nat.and_two_pow_sub_one_eq_mod]
  show IntKind.i64.wrap ((BitVec.ofInt 64 n &&& BitVec.ofInt 64 65535).toNat : Nat) = n % 65536
  rw [key, IntKind.wrap_i64]
  omega
theorem mask_nat (n : Int) : ∃ x : Nat, bits .and .i64 n 65535 = (x : Int) ∧ x ≤ 65535 := ⟨(n % 65536).toNat, by rw [mask16]; omega, by omega⟩
theorem mask40 (n : Nat) (h : n < 18446744073709551616) : ∃ x : Nat, bits BinOp.and IntKind.u64 (n : Int) 1099511627775 = (x : Int) ∧ x < 1099511627776 := by
  have h1 := u64_and (n : Int) 1099511627775 (by omega) (by omega) (by decide) (by decide)
  have h2 := Nat.and_le_right (n := (n : Int).toNat) (m := (1099511627775 : Int).toNat)
  have e : (1099511627775 : Int).toNat = 1099511627775 := rfl
  exact ⟨_, h1, by omega⟩
theorem mask62 (n : Int) : ∃ x : Nat, bits .and .i64 n 4611686018427387903 = (x : Int) ∧ x < 4611686018427387904 := by
  have h1 : (BitVec.ofInt 64 4611686018427387903).toNat = 2 ^ 62 - 1 := by decide
  have key : (BitVec.ofInt 64 n &&& BitVec.ofInt 64 4611686018427387903).toNat = (n % ((2 ^ 64 : Nat) : Int)).toNat % 2 ^ 62 := by
    rw [BitVec.toNat_and, BitVec.toNat_ofInt, h1, Nat.and_two_pow_sub_one_eq_mod]
  refine ⟨(n % ((2 ^ 64 : Nat) : Int)).toNat % 2 ^ 62, ?_, by omega⟩
  show IntKind.i64.wrap ((BitVec.ofInt 64 n &&& BitVec.ofInt 64 4611686018427387903).toNat : Nat) = _
  rw [key, IntKind.wrap_i64]
  omega
/-- The cells of a row of windows, in whatever world that has turned nothing of it. -/
theorem cells_of {w : World} {B n c : Nat} {e : TypeId} {A : Option Addr} {s : Nat} {d : List Nat} {L K : Nat} (h : POwn w B e A n c (winTo s d L K n)) (hn : 0 < n) :
    ∃ g, A = some ⟨g, 0, none⟩ ∧ B ≤ g ∧ g < w.heap.size ∧ ∀ j, j < n → w.cell? ⟨g, j * 2, none⟩ = some (.int .u64 ((winAt s d L K j).1 : Int)) ∧ w.cell? ⟨g, j * 2 + 1, none⟩ = some (.int .u64 ((winAt s d L K j).2 : Int)) := by
  obtain ⟨g, h1, h2, h3, h4⟩ := h.cells hn
  refine ⟨g, h1, h2, h3, fun j hj => ?_⟩
  rw [← winTo_at s d L K n j hj]
  exact h4 j hj
theorem below_call {w w1 w2 : World} (h : Below w.heap.size w w1) (hb : Below w1.heap.size w1 w2) : Below w.heap.size w w2 :=
  below_frm h (Frm.of_below (S := fun _ => False) hb) h.size (fun _ h => h.elim)
theorem POwn.call {w w1 : World} {B n c : Nat} {e : TypeId} {A : Option Addr} {l : List (Nat × Nat)} (h : POwn w B e A n c l) (hb : Below w.heap.size w w1) : POwn w1 B e A n c l := h.below hb
theorem sum_take_le {M : Nat} : ∀ (d : List Nat) (k : Nat), (∀ x ∈ d, x < M) → (d.take k).sum ≤ k * M
  | [], k, h => by simp
  | x :: d, 0, h => by simp
  | x :: d, k + 1, h => by
    have h1 := sum_take_le d k (fun y hy => h y (List.mem_cons_of_mem _ hy))
    have h2 := h x (List.mem_cons_self ..)
    simp only [List.take_succ_cons, List.sum_cons, Nat.add_mul]
    omega
theorem wplk_min {P : Program} {ops : Array Oper} {rest : List Oper} {op : Oper} {a : Act} {Q : Exit → Act → World → Prop} (x y : Operand) (t t' : TypeId)
    (ho : op.op = .call { callee := .builtin .min, args := #[x, y], argTypes := #[t, t'] }) (w : World) (k : IntKind) (p q m : Int) (hx : a.eval x = .int k p) (hy : a.eval y = .int k q) (hm : m = if q < p then q else p) (hw : Region.wanted op (yielded ops a.tmps) = true)
    (h : wpList P ops Q rest (a.put op.dst (.int k m)) w) : wpList P ops Q (op :: rest) a w := by
  refine wpList_step fun K hK => ?_
  rw [if_pos hw]
  unfold Oper.wp execOp
  simp only [ho, resolve, invoke, builtin, Sem.run_bind, Sem.run_pure, Result.andThen_ok, List.map_toArray, List.map_cons, List.map_nil, hx, hy]
  subst hm
  exact hK _ _ h
theorem wplk_max {P : Program} {ops : Array Oper} {rest : List Oper} {op : Oper} {a : Act} {Q : Exit → Act → World → Prop} (x y : Operand) (t t' : TypeId)
    (ho : op.op = .call { callee := .builtin .max, args := #[x, y], argTypes := #[t, t'] }) (w : World) (k : IntKind) (p q m : Int) (hx : a.eval x = .int k p) (hy : a.eval y = .int k q) (hm : m = if q > p then q else p) (hw : Region.wanted op (yielded ops a.tmps) = true)
    (h : wpList P ops Q rest (a.put op.dst (.int k m)) w) : wpList P ops Q (op :: rest) a w := by
  refine wpList_step fun K hK => ?_
  rw [if_pos hw]
  unfold Oper.wp execOp
  simp only [ho, resolve, invoke, builtin, Sem.run_bind, Sem.run_pure, Result.andThen_ok, List.map_toArray, List.map_cons, List.map_nil, hx, hy]
  subst hm
  exact hK _ _ h

theorem earl_add (s b : Nat) (d : List Nat) (i : Nat) : earl (s + b) d i = earl s d i + b := by unfold earl; omega
theorem hiN_add (s b : Nat) (d : List Nat) (L K i : Nat) : hiN (s + b) d L K i = hiN s d L K i + b := by unfold hiN; rw [earl_add]; omega
theorem lastN_add (s b : Nat) (d : List Nat) (L K n : Nat) : lastN (s + b) d L K n = lastN s d L K n + b := by unfold lastN; rw [hiN_add]; omega
theorem start_le (s : Nat) (d : List Nat) (i : Nat) : s ≤ earl s d i := by unfold earl; omega
/-- Of small numbers all times are small. -/
theorem hiN_small {s : Nat} {d : List Nat} {L K : Nat} (hs : s < 2199023255552) (hL : L < 1099511627776) (hK : K < 1099511627776) (hd : ∀ x ∈ d, x < 4294967296) (i : Nat) (hi : i < 5) : hiN s d L K i < 9895604649984 := by
  have h1 := sum_take_le d i hd
  have h2 : (i + 1) * L ≤ 5 * L := Nat.mul_le_mul_right _ (by omega)
  unfold hiN earl
  omega
theorem fit_small {s : Nat} {d : List Nat} {L K n : Nat} (hs : s < 2199023255552) (hL : L < 1099511627776) (hK : K < 1099511627776) (hd : ∀ x ∈ d, x < 4294967296) (hn : n ≤ 5) : FitTo s d L K n := fun i hi => by
  have := hiN_small hs hL hK hd i (by omega)
  omega
theorem last_small {s : Nat} {d : List Nat} {L K n : Nat} (hs : s < 2199023255552) (hL : L < 1099511627776) (hK : K < 1099511627776) (hd : ∀ x ∈ d, x < 4294967296) (h1 : 1 ≤ n) (hn : n ≤ 5) (hl : d.length = n) : lastN s d L K n < 9899899617280 := by
  have h2 := hiN_small hs hL hK hd (n - 1) (by omega)
  have h3 : d.getD (n - 1) 0 < 4294967296 := by
    have hk : n - 1 < d.length := by omega
    rw [List.getD_eq_getElem?_getD, List.getElem?_eq_getElem hk]
    exact hd _ (List.getElem_mem hk)
  unfold lastN
  omega
end Go.Proofs.Ytcnnekdeakfjeaa
