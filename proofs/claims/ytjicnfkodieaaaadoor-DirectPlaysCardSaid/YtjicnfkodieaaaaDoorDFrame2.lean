/-
  What a law's proof needs of its arguments: rows of numbers of four bytes.
-/
import Derived.Test.YtjicnfkodieaaaaDoorDFrame
namespace Go.Proofs.YtjicnfkodieaaaaDoor
set_option linter.unusedVariables false
open Go.ChangeShapes Go.WideShapes Go.ChangeAt Go.RowKit

theorem nums_of_wf32 : ∀ (zs : List Int), (∀ n ∈ zs, (Lit.int .u32 n).wf = true) → ∃ l : List Nat, l.length = zs.length ∧ cellsW l = zs.map (Value.int .u32) ∧ ∀ n ∈ l, n < 4294967296
  | [], _ => ⟨[], rfl, rfl, fun _ h => by simp at h⟩
  | z :: zs, h => by
    obtain ⟨l, h1, h2, h3⟩ := nums_of_wf32 zs (fun n hn => h n (List.mem_cons_of_mem _ hn))
    have hz := u32_bounds (h z (List.mem_cons_self ..))
    refine ⟨z.toNat :: l, by simp [h1], ?_, ?_⟩
    · have e : (z.toNat : Int) = z := Int.toNat_of_nonneg hz.1
      simp only [cellsW, List.map_cons] at h2 ⊢
      rw [h2, e]
    · intro n hn
      rcases List.mem_cons.1 hn with rfl | hn
      · omega
      · exact h3 n hn
theorem row_u32 {W : World} {x : Addr} {len cap : Nat} {zs : List Int} (hl : len ≤ cap) (hz : zs.length = cap) (hcell : ∀ i, i < zs.length → W.cell? (x.add i) = some (.int .u32 (zs.getD i 0))) (hw : ∀ n ∈ zs, (Lit.int .u32 n).wf = true) :
    ∃ l : List Nat, Rds W (some x) len (cellsW l) ∧ ∀ n ∈ l, n < 4294967296 := by
  obtain ⟨l, h1, h2, h3⟩ := nums_of_wf32 zs hw
  refine ⟨l.take len, ?_, fun n hn => h3 n (List.mem_of_mem_take hn)⟩
  rw [show cellsW (l.take len) = (cellsW l).take len by simp [cellsW, List.map_take], h2]
  refine ⟨by simp; omega, fun _ => ⟨x, rfl, fun j u hu => ?_⟩⟩
  rw [List.getElem?_take] at hu
  split at hu
  · have hj : j < zs.length := by omega
    rw [hcell j hj]
    rw [List.getElem?_map, List.getElem?_eq_getElem hj] at hu
    simp only [Option.map_some, Option.some.injEq] at hu
    rw [← hu]
    simp [List.getD, List.getElem?_eq_getElem hj]
  · cases hu
end Go.Proofs.YtjicnfkodieaaaaDoor
