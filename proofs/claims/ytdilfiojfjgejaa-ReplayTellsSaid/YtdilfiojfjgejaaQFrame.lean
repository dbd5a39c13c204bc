/-
  What a law's proof needs of its arguments: slices of numbers of any kind as lists of numbers, and numbers.
-/
import Derived.Test.YtdilfiojfjgejaaSq
import Derived.ProofKit
import Derived.OpenShut
import Derived.ShutString
import Derived.ChangeOld
namespace Go.Proofs.Ytdilfiojfjgejaa
set_option linter.unusedVariables false
open Go.ChangeShapes Go.WideShapes Go.ChangeAt Go.RowKit

theorem ownKn : ownKnob Try.prog.godebug = none := by kernel_rfl
theorem laidOut : laidOutB Try.prog = true := by kernel_rfl

theorem i64_bounds {n : Int} (h : (Lit.int .i64 n).wf = true) : -9223372036854775808 ≤ n ∧ n ≤ 9223372036854775807 := by
  have := bounds_i64 h
  omega
theorem u64_bounds {n : Int} (h : (Lit.int .u64 n).wf = true) : 0 ≤ n ∧ n < 18446744073709551616 := by
  have := bounds_u64 h
  omega
theorem u32_bounds {n : Int} (h : (Lit.int .u32 n).wf = true) : 0 ≤ n ∧ n < 4294967296 := by
  have := bounds_u32 h
  omega
theorem u16_bounds {n : Int} (h : (Lit.int .u16 n).wf = true) : 0 ≤ n ∧ n < 65536 := by
  have := bounds_u16 h
  omega

theorem numsI_of_wf (k : IntKind) (M : Nat) (hk : ∀ n, (Lit.int k n).wf = true → 0 ≤ n ∧ n < (M : Int)) : ∀ (zs : List Int), (∀ n ∈ zs, (Lit.int k n).wf = true) → ∃ l : List Nat, l.length = zs.length ∧ cellsI k l = zs.map (Value.int k) ∧ ∀ n ∈ l, n < M
  | [], _ => ⟨[], rfl, rfl, fun _ h => by cases h⟩
  | z :: zs, h => by
    obtain ⟨l, h1, h2, h3⟩ := numsI_of_wf k M hk zs (fun n hn => h n (List.mem_cons_of_mem _ hn))
    have hz := hk z (h z (List.mem_cons_self ..))
    refine ⟨z.toNat :: l, by simp [h1], ?_, ?_⟩
    · have e : (z.toNat : Int) = z := Int.toNat_of_nonneg hz.1
      simp only [cellsI, List.map_cons] at h2 ⊢
      rw [h2, e]
    · intro n hn
      rcases List.mem_cons.1 hn with rfl | hn
      · omega
      · exact h3 n hn
theorem row_num (k : IntKind) (M : Nat) (hk : ∀ n, (Lit.int k n).wf = true → 0 ≤ n ∧ n < (M : Int)) {W : World} {x : Addr} {len cap : Nat} {zs : List Int} (hl : len ≤ cap) (hz : zs.length = cap) (hcell : ∀ i, i < zs.length → W.cell? (x.add i) = some (.int k (zs.getD i 0))) (hw : ∀ n ∈ zs, (Lit.int k n).wf = true) :
    ∃ l : List Nat, Rds W (some x) len (cellsI k l) ∧ ∀ n ∈ l, n < M := by
  obtain ⟨l, h1, h2, h3⟩ := numsI_of_wf k M hk zs hw
  refine ⟨l.take len, ?_, fun n hn => h3 n (List.mem_of_mem_take hn)⟩
  rw [← cellsI_take, h2]
  refine ⟨by simp; omega, fun _ => ⟨x, rfl, fun j u hu => ?_⟩⟩
  rw [List.getElem?_take] at hu
  split at hu
  · have hj : j < zs.length := by omega
    rw [hcell j hj]
    rw [List.getElem?_map, List.getElem?_eq_getElem hj] at hu
    simp only [Option.map_some, Option.some.injEq] at hu
    rw [← hu]
    simp [List.getD, List.getElem?_eq_getElem hj]
  · cases hu

theorem row_int (k : IntKind) {W : World} {x : Addr} {len cap : Nat} {zs : List Int} (hl : len ≤ cap) (hz : zs.length = cap) (hcell : ∀ i, i < zs.length → W.cell? (x.add i) = some (.int k (zs.getD i 0))) (hw : ∀ n ∈ zs, (Lit.int k n).wf = true) :
    ∃ l : List Int, Rds W (some x) len (l.map (Value.int k)) ∧ ∀ n ∈ l, (Lit.int k n).wf = true := by
  refine ⟨zs.take len, ?_, fun n hn => hw n (List.mem_of_mem_take hn)⟩
  rw [List.map_take]
  refine ⟨by simp; omega, fun _ => ⟨x, rfl, fun j u hu => ?_⟩⟩
  rw [List.getElem?_take] at hu
  split at hu
  · have hj : j < zs.length := by omega
    rw [hcell j hj]
    rw [List.getElem?_map, List.getElem?_eq_getElem hj] at hu
    simp only [Option.map_some, Option.some.injEq] at hu
    rw [← hu]
    simp [List.getD, List.getElem?_eq_getElem hj]
  · cases hu
end Go.Proofs.Ytdilfiojfjgejaa
