/-
  More of the calls of layer 4, seen from a law's own beginning; arrays compared; texts cut.
-/
import Derived.Test.YtbicjcpdcopbhaaDoorHm9
import Derived.Test.YtbicjcpdcopbhaaDoorCuts
namespace Go.Proofs.YtbicjcpdcopbhaaDoor
set_option linter.unusedVariables false
open Go.RowKit

theorem derive_now (w0 w : World) (key lab : List UInt8) (hk : key.length = 32) (PA : Option Addr) (pn pc : Nat) (vs : List Value) (ls : List (List UInt8)) (hrow : Rds w PA pn vs) (hA : All2 w vs ls) (hR : Run w0 w) (hlab : lab.length ≤ 100000) (hlen : ∀ k, (ls.getD k []).length ≤ 100000) (hl : ls.flatten.length ≤ 1000000) (hln : ls.length ≤ 100) :
    Calls Tryd.prog 31 #[.agg (cellsB key).toArray, .string ⟨lab.toArray⟩, .slice PA pn pc] w fun e w' => e = .returned (.agg (cellsB (deriveL key lab ls)).toArray) ∧ Frm (fun _ => False) w w' ∧ Run w0 w' := by
  have hlen' : pn = ls.length := by rw [← hA.length]; exact hrow.1.symm
  subst hlen'
  exact (derive_any key lab hk PA pc vs ls w hR.gl (by have := hR.two; have := hR.size; omega) ⟨hrow, hA.at⟩ hlab hlen hl hln).mono fun e w' ⟨he, hb⟩ => ⟨he, Frm.of_below hb, hR.frm (Frm.of_below (S := fun _ => False) hb) (fun _ h => h.elim)⟩
theorem derive_row (w0 w : World) (key lab : List UInt8) (hk : key.length = 32) (vs : List Value) (ls : List (List UInt8)) (hA : All2 w vs ls) (hR : Run w0 w) (hlab : lab.length ≤ 100000) (hlen : ∀ k, (ls.getD k []).length ≤ 100000) (hl : ls.flatten.length ≤ 1000000) (hln : ls.length ≤ 100) :
    Calls Tryd.prog 31 #[.agg (cellsB key).toArray, .string ⟨lab.toArray⟩, .slice (some ⟨w.heap.size, 0, none⟩) vs.length vs.length] (w.alloc (.cells vs.toArray 24)) fun e w' => e = .returned (.agg (cellsB (deriveL key lab ls)).toArray) ∧ Frm (fun _ => False) w w' ∧ Run w0 w' := by
  have hF : Frm (fun _ => False) w (w.alloc (.cells vs.toArray 24)) := Frm.alloc _ _ _
  have hp := parts_alloc w vs ls 24 hA
  have hm := derive_any key lab hk (some ⟨w.heap.size, 0, none⟩) vs.length vs ls _ (hR.gl.frm hF (fun h => h) (fun h => h)) (by have := hR.two; have := hR.size; have := hF.size; omega) hp hlab hlen hl hln
  rw [← hA.length] at hm
  refine hm.mono fun e w' ⟨he, hb⟩ => ?_
  have hF2 := hF.trans (Frm.of_below (S := fun _ => False) hb) (fun _ _ h => h)
  exact ⟨he, hF2, hR.frm hF2 (fun _ h => h.elim)⟩
theorem derive_none (w0 w : World) (key lab : List UInt8) (hk : key.length = 32) (hR : Run w0 w) (hlab : lab.length ≤ 100000) :
    Calls Tryd.prog 31 #[.agg (cellsB key).toArray, .string ⟨lab.toArray⟩, .slice none 0 0] w fun e w' => e = .returned (.agg (cellsB (deriveL key lab [])).toArray) ∧ Frm (fun _ => False) w w' ∧ Run w0 w' :=
  derive_now w0 w key lab hk none 0 0 [] [] ⟨rfl, fun h => absurd h (by decide)⟩ .nil hR hlab (fun k => by simp) (by decide) (by decide)
theorem hshown_from (w0 w : World) (hR : Run w0 w) :
    Calls Tryd.prog 25 #[] w fun e w' => e = .returned (.bool true) ∧ Frm (fun _ => False) w w' ∧ Run w0 w' :=
  (hshown_any w hR.gl (by have := hR.two; have := hR.size; omega)).mono fun e w' ⟨he, hb⟩ => ⟨he, Frm.of_below hb, hR.frm (Frm.of_below (S := fun _ => False) hb) (fun _ h => h.elim)⟩

theorem eq_sameG {t : TypeId} {N : Nat} (hu : Tryd.prog.underlying t = some (.array N 5)) (l : List UInt8) (hl : l.length = N) (w : World) : (Op.equalIn 10000 t (.agg (cellsB l).toArray) (.agg (cellsB l).toArray)).run Tryd.prog w = .ok true w := by
  have hinfo := info8
  cases hq : Tryd.prog.info? 5 with
  | none => rw [hq] at hinfo; cases hinfo
  | some i =>
    rw [run_equalIn_array w 9999 _ _ hu hq]
    exact items_same l w _ (fun i hi => by rw [hl]; simpa using hi)
theorem guardK : Tryd.prog.eqGuardType Tryd.prog.depth 43 = false := by kernel_rfl
theorem guard16 : Tryd.prog.eqGuardType Tryd.prog.depth 49 = false := by kernel_rfl
theorem str_to (l : List UInt8) (j : Nat) (hj : j ≤ l.length) (w : World) : Sem.run Tryd.prog (Instr.sliceAt 9 (.string ⟨l.toArray⟩) none (some (.int .i64 (j : Int))) none) w = .ok (.string ⟨(l.take j).toArray⟩) w := by
  have h4 : (⟨l.toArray⟩ : ByteArray).size = l.length := txt_size l
  have h5 : (⟨l.toArray⟩ : ByteArray).extract 0 j = ⟨(l.take j).toArray⟩ := by
    apply ByteArray.ext
    simp [ByteArray.data_extract, List.extract_eq_take_drop]
  simp only [Instr.sliceAt, Instr.slice, run_underlying under9, Sem.run_bind, Result.andThen_ok, Instr.sliceBounds, Instr.sliceBound, asIntOf, h4]
  simp [hj, h5]
/-- The key of a law lies in a block of its own. -/
theorem Run.boxed {w : World} (hG : Gl w) (h2 : 2 ≤ w.heap.size) (o : Obj) : Run w (w.alloc o) :=
  have hF : Frm (fun _ => False) w (w.alloc o) := Frm.alloc _ _ _
  ⟨hG.frm hF (fun h => h) (fun h => h), hF.below (Nat.le_refl _) (fun _ h => h.elim), h2⟩
end Go.Proofs.YtbicjcpdcopbhaaDoor
