/-
  Tools for the laws: sums compared, masks, bytes written.
-/
import Derived.Test.YtjicnfkodieaaaaDoorDSha8
import Derived.Test.YtjicnfkodieaaaaDoorLaws
import Derived.ChangeKeysEq
namespace Go.Proofs.YtjicnfkodieaaaaDoor
set_option linter.unusedVariables false
open Go.RowKit

theorem mask16 (n : Int) : bits .and .i64 n 65535 = n % 65536 := by
  have h1 : (BitVec.ofInt 64 65535).toNat = 2 ^ 16 - 1 := by decide
  have key : (BitVec.ofInt 64 n &&& BitVec.ofInt 64 65535).toNat = (n % ((2 ^ 64 : Nat) : Int)).toNat % 2 ^ 16 := by
    rw [BitVec.toNat_and, BitVec.toNat_ofInt, h1, Nat.and_two_pow_sub_one_eq_mod]
  show IntKind.i64.wrap ((BitVec.ofInt 64 n &&& BitVec.ofInt 64 65535).toNat : Nat) = n % 65536
  rw [key, IntKind.wrap_i64]
  omega
theorem mask_nat (n : Int) : ∃ x : Nat, bits .and .i64 n 65535 = (x : Int) ∧ x ≤ 65535 := ⟨(n % 65536).toNat, by rw [mask16]; omega, by omega⟩

theorem guard32 : Tryd.prog.eqGuardType Tryd.prog.depth 84 = false := by kernel_rfl
theorem cells5 : Tryd.prog.cellsOf 5 = 1 := by kernel_rfl
theorem under25 : Tryd.prog.underlying 84 = some (.array 32 5) := by kernel_rfl

theorem items_same (l : List UInt8) (w : World) : ∀ is : List Nat, (∀ i ∈ is, i < l.length) → (Op.eqItems 9999 5 (Tryd.prog.cellsOf 5) (cellsB l).toArray (cellsB l).toArray is).run Tryd.prog w = .ok true w
  | [], _ => by simp [Op.eqItems]
  | i :: is, h => by
    have hi : (cellsB l)[i]? = some (.int .u8 ((l[i]'(h i (List.mem_cons_self ..))).toNat : Int)) := by rw [cellsB_get, List.getElem?_eq_getElem (h i (List.mem_cons_self ..))]; rfl
    have hp : (part 5 (cellsB l).toArray (i * Tryd.prog.cellsOf 5)).run Tryd.prog w = .ok (.int .u8 ((l[i]'(h i (List.mem_cons_self ..))).toNat : Int)) w := by
      rw [cells5, Nat.mul_one]
      simp [part, isAgg, run_underlying under5, hi]
    have he : (Op.equalIn 9999 5 (.int .u8 ((l[i]'(h i (List.mem_cons_self ..))).toNat : Int)) (.int .u8 ((l[i]'(h i (List.mem_cons_self ..))).toNat : Int))).run Tryd.prog w = .ok true w := by
      rw [run_equalIn_int w 9998 _ _ _ _ _ under5]
      simp
    have ih := items_same l w is (fun j hj => h j (List.mem_cons_of_mem _ hj))
    simp only [Op.eqItems, Sem.run_bind, hp, he, Result.andThen_ok]
    simpa using ih

theorem eq_same (l : List UInt8) (hl : l.length = 32) (w : World) : (Op.equalIn 10000 84 (.agg (cellsB l).toArray) (.agg (cellsB l).toArray)).run Tryd.prog w = .ok true w := by
  have hinfo := info8
  cases hq : Tryd.prog.info? 5 with
  | none => rw [hq] at hinfo; cases hinfo
  | some i =>
    rw [run_equalIn_array w 9999 _ _ under25 hq]
    exact items_same l w _ (fun i hi => by rw [hl]; simpa using hi)

theorem byte_of (X : Int) : ∃ u : UInt8, X % 256 = (u.toNat : Int) := ⟨UInt8.ofNat (X % 256).toNat, by rw [UInt8.toNat_ofNat']; omega⟩
theorem cellsB_set (l : List UInt8) (k : Nat) (u : UInt8) : (cellsB l).set k (.int .u8 (u.toNat : Int)) = cellsB (l.set k u) := by simp [cellsB, List.map_set]
theorem set_byte {w : World} {g : Nat} {t : TypeId} {l : List UInt8} (h : Blk w g t (cellsB l).toArray) (k : Nat) (X : Int) : ∃ l' : List UInt8, l'.length = l.length ∧ Blk (w.setCell ⟨g, k, none⟩ (.int .u8 (X % 256))) g t (cellsB l').toArray := by
  obtain ⟨u, hu⟩ := byte_of X
  refine ⟨l.set k u, by simp, ?_⟩
  have := h.set k (.int .u8 (X % 256))
  rw [List.setIfInBounds_toArray, hu, cellsB_set] at this
  rw [hu]
  exact this
theorem min_int (a b : Nat) : (Nat.min a b : Int) = if (b : Int) < (a : Int) then (b : Int) else (a : Int) := by
  by_cases h : b < a
  · rw [if_pos (by omega)]; simp only [Nat.min_def]; split <;> omega
  · rw [if_neg (by omega)]; simp only [Nat.min_def]; split <;> omega
theorem nat_min (a b : Nat) : ∃ m : Nat, Hid ((m : Int) = if (b : Int) < (a : Int) then (b : Int) else (a : Int)) ∧ m ≤ a ∧ m ≤ b ∧ m = Nat.min a b :=
  ⟨Nat.min a b, min_int a b, Nat.min_le_left _ _, Nat.min_le_right _ _, rfl⟩
/-- A block of bytes, seen from i on, m of them. -/
theorem Blk.src {w : World} {g gs : Nat} {t : TypeId} {l : List UInt8} (h : Blk w g t (cellsB l).toArray) (hne : g ≠ gs) (i m : Nat) (hm : i + m ≤ l.length) : Src w gs (some ⟨g, i, none⟩) m ((l.drop i).take m) := by
  refine ⟨⟨by rw [cellsB_length, List.length_take, List.length_drop]; omega, fun _ => ⟨_, rfl, fun j u hu => ?_⟩⟩, fun _ a ha => by injection ha with ha; subst ha; exact hne⟩
  rw [addr_add, h.cell]
  rw [← cellsB_take, ← cellsB_drop, List.getElem?_take] at hu
  split at hu
  · rw [List.getElem?_drop] at hu
    simpa using hu
  · cases hu
end Go.Proofs.YtjicnfkodieaaaaDoor
