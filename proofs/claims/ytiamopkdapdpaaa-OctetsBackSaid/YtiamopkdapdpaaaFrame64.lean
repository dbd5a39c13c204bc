/-
  What OctetsBack's proof needs of its first argument: a slice of numbers of eight bytes.
-/
import Derived.Test.YtiamopkdapdpaaaFrame
import Derived.Test.YtiamopkdapdpaaaBackWalk
namespace Go.Proofs.Ytiamopkdapdpaaa
set_option linter.unusedVariables false
open Go.ChangeShapes Go.WideShapes Go.ChangeAt Go.RowKit

theorem nums_of_wf : ∀ (zs : List Int), (∀ n ∈ zs, (Lit.int .u64 n).wf = true) → ∃ l : List Nat, l.length = zs.length ∧ cells64 l = zs.map (Value.int .u64) ∧ ∀ n ∈ l, n < 18446744073709551616
  | [], _ => ⟨[], rfl, rfl, fun _ h => by cases h⟩
  | z :: zs, h => by
    obtain ⟨l, h1, h2, h3⟩ := nums_of_wf zs (fun n hn => h n (List.mem_cons_of_mem _ hn))
    have hz := u64_bounds (h z (List.mem_cons_self ..))
    refine ⟨z.toNat :: l, by simp [h1], ?_, ?_⟩
    · have e : (z.toNat : Int) = z := Int.toNat_of_nonneg hz.1
      simp only [cells64, List.map_cons] at h2 ⊢
      rw [h2, e]
    · intro n hn
      rcases List.mem_cons.1 hn with rfl | hn
      · omega
      · exact h3 n hn

theorem row_u64 {W : World} {x : Addr} {len cap : Nat} {zs : List Int} (hl : len ≤ cap) (hz : zs.length = cap) (hcell : ∀ i, i < zs.length → W.cell? (x.add i) = some (.int .u64 (zs.getD i 0))) (hw : ∀ n ∈ zs, (Lit.int .u64 n).wf = true) :
    ∃ l : List Nat, Rds W (some x) len (cells64 l) ∧ ∀ n ∈ l, n < 18446744073709551616 := by
  obtain ⟨l, h1, h2, h3⟩ := nums_of_wf zs hw
  refine ⟨l.take len, ?_, fun n hn => h3 n (List.mem_of_mem_take hn)⟩
  have e : cells64 (l.take len) = (cells64 l).take len := by simp [cells64, List.map_take]
  rw [e, h2]
  refine ⟨by simp; omega, fun _ => ⟨x, rfl, fun j u hu => ?_⟩⟩
  rw [List.getElem?_take] at hu
  split at hu
  · have hj : j < zs.length := by omega
    rw [hcell j hj]
    rw [List.getElem?_map, List.getElem?_eq_getElem hj] at hu
    simp only [Option.map_some, Option.some.injEq] at hu
    rw [← hu]
    simp [List.getD, List.getElem?_eq_getElem hj]
  · cases hu
end Go.Proofs.Ytiamopkdapdpaaa
