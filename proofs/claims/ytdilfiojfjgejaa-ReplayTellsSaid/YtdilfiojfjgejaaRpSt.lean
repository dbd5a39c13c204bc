/-
  Steps that came in, in a row.
-/
import Derived.Test.YtdilfiojfjgejaaRp6
namespace Go.Proofs.Ytdilfiojfjgejaa
set_option linter.unusedVariables false
set_option linter.unusedSimpArgs false
open Go.RowKit

structure Stp where
  k : Int
  e : Nat
  x : Tg
def Stp.ok (s : Stp) : Prop := s.e < 4294967296
def stC (s : Stp) : List Value := .int .i64 s.k :: .int .u32 (s.e : Int) :: tgC s.x
theorem stC_length (s : Stp) : (stC s).length = 18 := by simp [stC, tgC_length]
theorem stC_one (s : Stp) : ∀ u ∈ stC s, u.oneCell' = true := by
  intro u hu
  rcases List.mem_cons.1 hu with rfl | hu
  · rfl
  · rcases List.mem_cons.1 hu with rfl | hu
    · rfl
    · exact tgC_one _ u hu
def stK : Kd Stp := ⟨stC, 18, ⟨0, 0, tg0⟩, stC_length, stC_one⟩
def entK : Kd Ent := ⟨entC, 17, ⟨0, tg0⟩, entC_length, entC_one⟩
theorem stC_tag (s : Stp) : ((stC s).drop 2).take 16 = tgC s.x := by
  show (tgC s.x).take 16 = _
  exact List.take_of_length_le (by rw [tgC_length]; exact Nat.le_refl _)
theorem stC_tag_room (s : Stp) : 2 + 16 ≤ (stC s).length := by rw [stC_length]; exact Nat.le_refl _
theorem stC_size (s : Stp) : (stC s).toArray.size = 18 := by rw [List.size_toArray, stC_length]
theorem aggSt : Agg Try.prog 32 18 := Agg.of (by kernel_rfl) (by kernel_rfl)
theorem zeroSt : (Try.prog.info? 32).map (fun i => i.zero) = some (some (.agg (stC ⟨0, 0, tg0⟩).toArray)) := by kernel_rfl
theorem isSt : IsT Try.prog 32 22 stK := IsT.of 32 (by decide) (by decide) (by kernel_rfl) Try.underlying22 (by kernel_rfl) (by decide)
/-- Steps where they came in. -/
def SRow (w : World) (A : Option Addr) (n : Nat) (L : List Stp) : Prop :=
  L.length = n ∧ (∀ s ∈ L, s.ok) ∧ (0 < n → ∃ a, A = some a ∧ ∀ j q u, j < n → (stC (at_ stK L j))[q]? = some u → w.cell? ((a.add (j * 18)).add q) = some u)
theorem addr_add0 (a : Addr) : a.add 0 = a := by simp [Addr.add]
theorem add_q (a : Addr) (q : Nat) (h : 0 < q) : a.add q = ⟨a.block, a.off + q, none⟩ := by unfold Addr.add; rw [if_neg (by omega)]
/-- The step at a place, in any later world. -/
theorem SRow.at {w : World} {A : Option Addr} {n : Nat} {L : List Stp} (h : SRow w A n L) {j : Nat} (hj : j < n) : ∃ a, A = some a ∧ (at_ stK L j).ok ∧ ∀ w', Below w.heap.size w w' → ∀ q u, (stC (at_ stK L j))[q]? = some u → w'.cell? ((a.add (j * 18)).add q) = some u := by
  obtain ⟨hl, ht, hc0⟩ := h
  obtain ⟨a, rfl, hc⟩ := hc0 (by omega)
  refine ⟨a, rfl, ?_, fun w' f q u hq => ?_⟩
  · apply ht
    rw [at_eq (by omega)]
    exact List.getElem_mem _
  · have h1 := hc j q u hj hq
    rw [f.cell (World.block_lt_of_cell? w _ h1)]
    exact h1
end Go.Proofs.Ytdilfiojfjgejaa
