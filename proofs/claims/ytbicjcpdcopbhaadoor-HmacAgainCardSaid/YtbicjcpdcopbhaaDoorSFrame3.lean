/-
  The frame of a law: arrays of bytes and texts that come in.
-/
import Derived.Test.YtbicjcpdcopbhaaDoorSFrame2
import Derived.Test.YtbicjcpdcopbhaaDoorHm5
import Derived.ChangeMaps5
namespace Go.Proofs.YtbicjcpdcopbhaaDoor
set_option linter.unusedVariables false
open Go.ChangeShapes Go.WideShapes Go.ChangeAt Go.RowKit

theorem cellsKey : Tryd.prog.cellsOf 43 = 32 := by kernel_rfl
/-- An array of bytes that came in. -/
theorem open_bytes {t : TypeId} {N : Nat} (hu : Tryd.prog.underlying t = some (.array N 5)) (hC : Tryd.prog.cellsOf t = N) {H : Type} {enc : TypeId × Value → H} {W : World} {r : Reach} {b0 base : Nat} {sp : Nat → Bool} {held : Bool} {v : Value} {d : DataW H} {p : List MemPlace}
    (hv : Value.okWide Tryd.prog W r b0 t v) (h : DataW.Trod enc Tryd.prog W base sp held t v d p) : ∃ l : List UInt8, v = .agg (cellsB l).toArray ∧ l.length = N := by
  simp only [Value.okWide, hu] at hv
  obtain ⟨cs, rfl, hsz, _⟩ := hv
  obtain ⟨fuel, hf⟩ := h
  obtain ⟨xs, m, _, _, hl, hxl, hel⟩ := DataW.trod_array hu hf
  have hcl : cs.toList.length = N := by rw [show cs.toList.length = cs.size by simp, hsz, hC]
  have each : ∀ i, i < N → ∃ b : UInt8, cs.toList[i]? = some (.int .u8 (b.toNat : Int)) := by
    intro i hi
    have h1 := hel i hi
    rw [cellsBy, Nat.mul_one] at h1
    have hc : cs.toList[i]? = some (cs.toList[i]'(by omega)) := List.getElem?_eq_getElem (by omega)
    have h2 : (((Value.agg cs).cells.toList.drop i).take 1) = [cs.toList[i]'(by omega)] := by
      show ((cs.toList.drop i).take 1) = _
      rw [List.drop_eq_getElem_cons (by omega)]
      rfl
    rw [h2] at h1
    have h3 : xs[i]? = some (xs[i]'(by omega)) := List.getElem?_eq_getElem (by omega)
    rw [h3] at h1
    obtain ⟨n, hn, _, hw⟩ := DataW.trod_int Tryd.underlying5 h1
    have hb := wf_u8 hw
    refine ⟨UInt8.ofNat n.toNat, ?_⟩
    rw [hc]
    have : cs.toList[i]'(by omega) = .int .u8 n := by simpa using hn
    rw [this, UInt8.toNat_ofNat']
    congr 2
    omega
  refine ⟨List.ofFn (n := N) fun i => (each i.1 i.2).choose, ?_, by simp⟩
  congr 1
  apply Array.ext'
  apply List.ext_getElem?
  intro j
  show cs.toList[j]? = (cellsB _)[j]?
  by_cases hj : j < N
  · rw [(each j hj).choose_spec, cellsB_get, List.getElem?_ofFn, dif_pos hj]
    rfl
  · rw [List.getElem?_eq_none (by omega), List.getElem?_eq_none (by rw [cellsB_length]; simp; omega)]
theorem open_text {H : Type} {enc : TypeId × Value → H} {W : World} {r : Reach} {b0 base : Nat} {sp : Nat → Bool} {held : Bool} {v : Value} {d : DataW H} {p : List MemPlace}
    (hv : Value.okWide Tryd.prog W r b0 9 v) (h : DataW.Trod enc Tryd.prog W base sp held 9 v d p) : ∃ l : List UInt8, v = .string ⟨l.toArray⟩ ∧ l.length ≤ 9223372036854775807 := by
  obtain ⟨s, rfl, _, _, hs⟩ := Go.ChangeMaps.open_string Tryd.underlying9 hv h
  exact ⟨s.data.toList, by simp, by rw [Array.length_toList]; have h : s.data.size = s.size := rfl; simp only [maxLen] at hs; omega⟩
end Go.Proofs.YtbicjcpdcopbhaaDoor
