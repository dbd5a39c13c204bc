/-
  The sum of parts; bytes as text; what must be in any case.
-/
import Derived.Test.YtjicnfkodieaaaaDoorSha7
import Derived.Lib.SlBytesConst
namespace Go.Proofs.YtjicnfkodieaaaaDoor
set_option linter.unusedVariables false
open Go.RowKit

/-- A value that is a slice of these bytes. -/
def Prt (w : World) (v : Value) (l : List UInt8) : Prop := ∃ A c, v = .slice A l.length c ∧ l.length ≤ c ∧ Rds w A l.length (cellsB l)
theorem Prt.below {w w' : World} {v : Value} {l : List UInt8} (h : Prt w v l) (hb : Below w.heap.size w w') : Prt w' v l := by
  obtain ⟨A, c, hv, hc, hr⟩ := h
  exact ⟨A, c, hv, hc, hr.below hb⟩
/-- Slices of bytes in a row. -/
def Prts (w : World) (PA : Option Addr) (vs : List Value) (ls : List (List UInt8)) : Prop := Rds w PA ls.length vs ∧ ∀ k, k < ls.length → ∃ v, vs[k]? = some v ∧ Prt w v (ls.getD k [])

theorem flat_take (ls : List (List UInt8)) (k : Nat) (h : k < ls.length) : (ls.take (k + 1)).flatten = (ls.take k).flatten ++ ls.getD k [] := by
  rw [List.take_succ_eq_append_getElem h, List.flatten_append, List.getD_eq_getElem?_getD, List.getElem?_eq_getElem h]
  simp
theorem flat_le (ls : List (List UInt8)) (k : Nat) : (ls.take k).flatten.length ≤ ls.flatten.length := by
  conv => rhs; rw [← List.take_append_drop k ls, List.flatten_append, List.length_append]
  omega

theorem St_nil {w : World} {g : Nat} (h : Blk w g 101 (cellsS (List.replicate 8 0) (List.replicate 64 0) 0).toArray) : St w g [] := h

structure PartsInv (w : World) (g3 : Nat) (l : List UInt8) (wr : World) : Prop where
  st : St wr g3 l
  gl : Gl wr
  below : Below w.heap.size w wr

set_option maxHeartbeats 4000000 in
theorem sums_any (PA : Option Addr) (c : Nat) (vs : List Value) (ls : List (List UInt8)) (w : World) (hG : Gl w) (hP : Prts w PA vs ls) (hg0 : 2 ≤ w.heap.size) (hl : ls.flatten.length ≤ 10000000000) (hn : ls.length ≤ 1000000) :
    Calls Tryd.prog 37 #[.slice PA ls.length c] w fun e w' => e = .returned (.agg (cellsB (shaL ls.flatten)).toArray) ∧ Below w.heap.size w w' := by
  have HP := hide hP
  clear hP
  obtain ⟨n, hnn⟩ : ∃ n, n = ls.length := ⟨_, rfl⟩
  have HN := hide hnn
  rw [← hnn] at hn ⊢
  clear hnn
  go_enter Tryd.func37, Tryd.ntmps37
  go_wp2_with (first
    | ((with_reducible refine wpl_alloca (op := ⟨some 2, _, _, _, _, _⟩) rfl _ rfl _ zero32 ?_); intro g1 w1 hB1 hs1 hF1)
    | ((with_reducible refine wpl_alloca (op := ⟨some 3, _, _, _, _, _⟩) rfl _ rfl _ zeroS ?_); intro g3 w3 hB3 hs3 hF3))
  have hF03 : Frm (fun _ => False) w w3 := hF1.trans hF3 (fun _ _ h => h)
  have hB03 : Below w.heap.size w w3 := hF03.below (Nat.le_refl _) (fun k hk => hk.elim)
  have hst : PartsInv w g3 (ls.take 0).flatten w3 := ⟨St_nil hB3, hG.frm hF03 (fun h => h) (fun h => h), hB03⟩
  have hge3 : w.heap.size ≤ g3 := by have := hF1.size; omega
  have hne : g1 ≠ g3 := by have := hB1.lt; omega
  have hB1' := hB1.frm hF3 (fun h => h)
  have HI := hide (show PartsInv w g3 (ls.take 0).flatten w3 ∧ Blk w3 g1 84 (cellsB (List.replicate 32 0)).toArray from ⟨hst, hB1'⟩)
  clear hst hB1' hB1 hB3 hF1 hF3 hF03 hB03 hG
  go_loopw [8] (fun i wr => ∃ k : Nat, k ≤ n ∧ i = .int .i64 k ∧ PartsInv w g3 (ls.take k).flatten wr ∧ Blk wr g1 84 (cellsB (List.replicate 32 0)).toArray) (fun i _ => n - (intOf i).toNat)
  case atStart => exact ⟨0, by omega, rfl, HI.out⟩
  case round =>
    clear HI
    obtain ⟨k, hk, rfl, hi, hres⟩ := hrel
    by_cases hlt : k < n
    · have hkl : k < ls.length := by rw [← HN.out]; exact hlt
      obtain ⟨v, hv, A, c2, rfl, hc2, hr⟩ := HP.out.2 k hkl
      obtain ⟨pa, rfl, hcell⟩ := HP.out.1.2 (by omega)
      have hc0 := hcell k _ hv
      have hc1 : wr.cell? (pa.add k) = some (.slice A (ls.getD k []).length c2) := by rw [hi.below.cell (World.block_lt_of_cell? w _ hc0)]; exact hc0
      have hsrc : Src wr g3 A (ls.getD k []).length (ls.getD k []) := by
        refine ⟨hr.below hi.below, fun hp a ha => ?_⟩
        obtain ⟨a', ha', hcc⟩ := hr.2 hp
        rw [ha] at ha'
        injection ha' with ha'
        subst ha'
        have h0 : (cellsB (ls.getD k []))[0]? = some _ := List.getElem?_eq_getElem (by rw [cellsB_length]; exact hp)
        have := World.block_lt_of_cell? w _ (hcc 0 _ h0)
        rw [add_block] at this
        omega
      have hfl := flat_take ls k hkl
      have hle := flat_le ls (k + 1)
      have hlen : (ls.take k).flatten.length + (ls.getD k []).length ≤ 1000000000000 := by rw [hfl, List.length_append] at hle; omega
      have hw := write_any g3 (ls.take k).flatten (ls.getD k []) A c2 wr hi.gl hi.st hsrc hc2 (by omega) hlen
      rw [← hfl] at hw
      have HW := hide hw
      have HG := hide hi.gl
      have HB := hide hi.below
      have HR := hide hres
      clear hw hsrc hfl hle hlen hr hv hcell hc0 hi hres hkl
      generalize (ls.getD k []).length = m at *
      go_wp2_with fail
      refine HW.out.mono ?_
      rintro e w5 ⟨rfl, hst5, hF5⟩
      have FIN : Hid (PartsInv w g3 (ls.take (k + 1)).flatten w5 ∧ Blk w5 g1 84 (cellsB (List.replicate 32 0)).toArray) := ⟨⟨hst5, HG.out.frm hF5 (by omega) (by omega), below_frm HB.out hF5 HB.out.size (fun k hk => by omega)⟩, HR.out.frm hF5 hne⟩
      go_wp2_with fail
      go_roundw
      case rel => first | exact ⟨k + 1, by omega, by go_num, FIN.out⟩ | ((repeat apply Exists.intro); exact ⟨⟨k + 1, by omega, by go_num, FIN.out⟩, rfl⟩)
      case measure => simp [intOf]; omega
    · obtain rfl : k = n := by omega
      have hall : ls.take k = ls := List.take_of_length_le (by rw [← HN.out]; exact Nat.le_refl _)
      rw [hall] at hi
      have HB := hide hi.below
      have HS := hide (sum_any g3 ls.flatten wr hi.gl hi.st (by have := hi.below.size; omega) (by omega))
      have HL : Hid ((cellsB (shaL ls.flatten)).length = 32) := by show _ = _; rw [cellsB_length, shaL_length]
      have HZ : Hid ((cellsB (List.replicate 32 0)).toArray.size = 32) := rfl
      clear hi hall
      go_wp2_with fail
      refine HS.out.mono ?_
      rintro e w6 ⟨rfl, hb6⟩
      have hres6 := hres.frm (Frm.of_below (S := fun _ => False) hb6) (fun h => h)
      go_wp2_with ((with_reducible refine wpl_storea agg32 rfl (.tmp 2) (.tmp 15) rfl g1 (cellsB (shaL ls.flatten)) rfl rfl _ _ hres6 HL.out HZ.out (cellsB_one _) ?_); intro w10 hB10 hF10)
      exact ret_agg agg32 rfl rfl g1 _ _ rfl hB10 HL.out ⟨rfl, below_frm (HB.out.trans (hb6.mono HB.out.size)) hF10 (by have := HB.out.size; have := hb6.size; omega) (fun i hi => by omega)⟩

theorem below_drewN {B : Nat} {w w' : World} (h : Below B w w') (n : Nat) : Below B w (w'.drewN n) := ⟨h.os, h.tape, h.output, h.size, h.block⟩
theorem under9 : Tryd.prog.underlying 9 = some .string := by kernel_rfl
theorem under5 : Tryd.prog.underlying 5 = some (.int .u8) := by kernel_rfl
theorem alloc_rds (w : World) (C : List Value) (e : TypeId) (fr : Nat × Nat) : Rds (w.alloc (.cells C.toArray e fr)) (some ⟨w.heap.size, 0, none⟩) C.length C := by
  refine ⟨rfl, fun _ => ⟨_, rfl, fun j u hu => ?_⟩⟩
  rw [addr_add, cell_of_row _ _ _ C.toArray e fr (heap_alloc_new w _)]
  simpa using hu
theorem one_part (w : World) (v : Value) (l : List UInt8) (e : TypeId) (h : Prt w v l) : Prts (w.alloc (.cells #[v] e)) (some ⟨w.heap.size, 0, none⟩) [v] [l] := by
  refine ⟨alloc_rds w [v] e (0, 0), fun k hk => ⟨v, ?_, ?_⟩⟩
  · obtain rfl : k = 0 := by simpa using hk
    rfl
  · obtain rfl : k = 0 := by simpa using hk
    exact h.below ((Frm.alloc w _ (fun _ => False)).below (Nat.le_refl _) (fun _ h => h.elim))

end Go.Proofs.YtjicnfkodieaaaaDoor
