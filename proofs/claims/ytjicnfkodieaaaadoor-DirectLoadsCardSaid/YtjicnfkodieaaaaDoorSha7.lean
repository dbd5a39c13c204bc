/-
  The sum of what a stream has taken.
-/
import Derived.Test.YtjicnfkodieaaaaDoorSha6
namespace Go.Proofs.YtjicnfkodieaaaaDoor
set_option linter.unusedVariables false
open Go.RowKit

theorem Blk.rds {w : World} {g : Nat} {t : TypeId} {xs : List Value} (h : Blk w g t xs.toArray) : Rds w (some ⟨g, 0, none⟩) xs.length xs := by
  refine ⟨rfl, fun _ => ⟨_, rfl, fun j u hu => ?_⟩⟩
  rw [addr_add, h.cell]
  simpa using hu

theorem cellsS_one (a : List Nat) (b : List UInt8) (n : Nat) : ∀ u ∈ cellsS a b n, u.oneCell' = true := by
  intro u hu
  rcases List.mem_append.1 hu with h | h
  · exact cellsW_one a u h
  · rcases List.mem_append.1 h with h | h
    · exact cellsB_one b u h
    · simp at h; subst h; rfl

/-- The first k words as bytes, and noughts. -/
def outL (ws : List Nat) (k : Nat) : List UInt8 := (ws.take k).flatMap (be 4) ++ List.replicate (32 - 4 * k) 0
theorem outL_length (ws : List Nat) (k : Nat) (h : ws.length = 8) (hk : k ≤ 8) : (outL ws k).length = 32 := by
  rw [outL, List.length_append, flat4_length, List.length_take, List.length_replicate]
  omega
theorem outL_step (ws : List Nat) (k : Nat) (h : ws.length = 8) (hk : k < 8) : splice (cellsB (outL ws k)) (4 * k) (cellsB (be 4 (ws.getD k 0))) = cellsB (outL ws (k + 1)) := by
  have h1 : outL ws k = (ws.take k).flatMap (be 4) ++ (List.replicate 4 0 ++ List.replicate (32 - 4 * (k + 1)) 0) := by
    rw [outL, List.replicate_append_replicate]
    congr 2
    omega
  rw [h1, cellsB_append, cellsB_append, splice_mid _ _ _ _ _ (by rw [cellsB_length, flat4_length, List.length_take]; omega) (by rw [cellsB_length, cellsB_length, be_length]; rfl), ← cellsB_append, ← cellsB_append]
  congr 1
  have h2 : ws[k]? = some (ws.getD k 0) := by rw [List.getD_eq_getElem?_getD, List.getElem?_eq_getElem (by omega)]; rfl
  rw [outL, List.take_add_one, h2, List.flatMap_append]
  simp
theorem outL_all (ws : List Nat) (h : ws.length = 8) : outL ws 8 = ws.flatMap (be 4) := by
  rw [outL, List.take_of_length_le (by omega)]
  simp

structure SumInv (w : World) (g1 g4 : Nat) (l : List UInt8) (wr : World) : Prop where
  out : Blk wr g4 84 (cellsB l).toArray
  res : Blk wr g1 84 (cellsB (List.replicate 32 0)).toArray
  below : Below w.heap.size w wr

set_option maxHeartbeats 4000000 in
theorem sum_any (g : Nat) (l : List UInt8) (w : World) (hG : Gl w) (hS : St w g l) (hg0 : 2 ≤ w.heap.size) (hl : l.length ≤ 100000000000) :
    Calls Tryd.prog 51 #[.pointer (some ⟨g, 0, none⟩)] w fun e w' => e = .returned (.agg (cellsB (shaL l)).toArray) ∧ Below w.heap.size w w' := by
  have hlt := hS.lt
  have HS : Hid (Blk w g 101 (cellsS (addedN l (l.length / 64)) (leftL l) l.length).toArray) := hS
  have hal := addedN_length l (l.length / 64)
  have hll := leftL_length l
  obtain ⟨cs, hcs⟩ : ∃ cs, cs = cellsS (addedN l (l.length / 64)) (leftL l) l.length := ⟨_, rfl⟩
  rw [← hcs] at HS
  have hcl : cs.length = 73 := by rw [hcs, cellsS_length, hal, hll]
  have h72 : cs[72]? = some (.int .u64 (l.length : Int)) := by rw [hcs]; exact cellsS_last _ _ _ hal hll
  have H1c : Hid (∀ u ∈ cs, u.oneCell' = true) := by rw [hcs]; exact cellsS_one _ _ _
  have HX : Hid ((cs.drop 0).take 73 = cs) := by show _ = _; rw [List.drop_zero, List.take_of_length_le (by omega)]
  have HZS : Hid ((cellsS (List.replicate 8 0) (List.replicate 64 0) 0).toArray.size = 73) := by show _ = _; rw [List.size_toArray, cellsS_length]; rfl
  have HCL := hide hcl
  have H72 := hide h72
  have HCS := hide hcs
  clear hcl h72 hal hll hcs hS
  go_enter Tryd.func51, Tryd.ntmps51
  go_wp2_with (first
    | ((with_reducible refine wpl_alloca (op := ⟨some 2, _, _, _, _, _⟩) rfl _ rfl _ zero32 ?_); intro g1 w1 hB1 hs1 hF1; have hb1 := HS.out.frm hF1 (fun h => h))
    | ((with_reducible refine wpl_loada (op := ⟨some 9, _, _, _, _, _⟩) aggS rfl _ rfl g 0 rfl _ cs cs hb1 HX.out (by rw [HCL.out]; exact Nat.le_refl _) ?_))
    | ((with_reducible refine wpl_alloca (op := ⟨some 3, _, _, _, _, _⟩) rfl _ rfl _ zeroS ?_); intro g3 w3 hB3 hs3 hF3)
    | ((with_reducible refine wpl_storea aggS rfl (.tmp 3) (.tmp 9) rfl g3 cs rfl rfl _ _ hB3 HCL.out HZS.out H1c.out ?_); intro w4 hB4 hF4; have hne : g ≠ g3 := (by have := hb1.lt; omega); have hb4 := (hb1.frm hF3 (fun h => h)).frm hF4 hne; have hc4 : w4.cell? ⟨g, 72, none⟩ = some (.int .u64 (l.length : Int)) := (by rw [hb4.cell, List.getElem?_toArray]; exact H72.out)))
  have hG4 : Gl w4 := ((hG.frm hF1 (fun h => h) (fun h => h)).frm hF3 (fun h => h) (fun h => h)).frm hF4 (by have := hF1.size; omega) (by have := hF1.size; omega)
  have hb14 := (hB1.frm hF3 (fun h => h)).frm hF4 (by have := hB1.lt; omega)
  have hst4 : St w4 g3 l := by show Blk _ _ _ _; rw [← HCS.out]; exact hB4
  have hB04 : Below w.heap.size w w4 := (((hF1.trans hF3 (fun _ _ h => h)).mono (T := fun k => k = g3) (fun _ _ h => h.elim)).trans hF4 (fun _ _ h => h)).below (Nat.le_refl _) (fun k hk => by have := hb1.lt; have := hF1.size; omega)
  have hlt3 := hB4.lt
  have hge3 : w.heap.size ≤ g3 := by have := hF1.size; omega
  have hne13 : g1 ≠ g3 := by have := hB1.lt; omega
  clear hB1 hB3 hF1 hF3 hF4 hb1 hb4 hB4 hc4 hG HS
  refine (end_any l.length w4 (by omega)).mono ?_
  rintro e w5 ⟨ge, rfl, hB5, hge, hbl5⟩
  have hF5 : Frm (fun _ => False) w4 w5 := Frm.of_below hbl5
  have hel := endL_le l.length
  have hse : Src w5 g3 (some ⟨ge, 0, none⟩) (endL l.length).length (endL l.length) := by
    have := hB5.rds
    rw [cellsB_length] at this
    exact ⟨this, fun _ a ha => by injection ha with ha; subst ha; show ge ≠ g3; omega⟩
  have hw := write_any g3 l (endL l.length) (some ⟨ge, 0, none⟩) (endL l.length).length w5 (hG4.frm hF5 (fun h => h) (fun h => h)) (hst4.frm hF5 (fun h => h)) hse (Nat.le_refl _) (by omega) (by omega)
  have HW := hide hw
  clear hw hse
  have hb15 := hb14.frm hF5 (fun h => h)
  have hB05 := below_frm hB04 hF5 hB04.size (fun k hk => hk.elim)
  have hG5 := hG4.frm hF5 (fun h => h) (fun h => h)
  have hs5 := hF5.size
  obtain ⟨ne, hne'⟩ : ∃ ne, ne = (endL l.length).length := ⟨_, rfl⟩
  rw [← hne'] at HW ⊢
  clear hne' hel hF5 hbl5 hB5
  go_wp2_with fail
  refine (HW.out).mono ?_
  rintro e w6 ⟨rfl, hst6, hF6⟩
  have hb16 := hb15.frm hF6 hne13
  have hG6 := hG5.frm hF6 (by omega) (by omega)
  have hB06 := below_frm hB05 hF6 hB05.size (fun k hk => by omega)
  have HSW : Hid ((shaWords (l ++ endL l.length)).length = 8) := shaWords_length _
  have HSL : Hid (shaL l = (shaWords (l ++ endL l.length)).flatMap (be 4)) := rfl
  have HWS : Hid (Ws (shaWords (l ++ endL l.length))) := plus_ws _ _
  have hst6' : Blk w6 g3 101 (cellsS (addedN (l ++ endL l.length) ((l ++ endL l.length).length / 64)) (leftL (l ++ endL l.length)) (l ++ endL l.length).length).toArray := hst6
  have hstate := fun w (hG : Gl w) (hb : Blk w g3 101 (cellsS (addedN (l ++ endL l.length) ((l ++ endL l.length).length / 64)) (leftL (l ++ endL l.length)) (l ++ endL l.length).length).toArray) (h2 : 2 ≤ w.heap.size) => state_any g3 _ _ _ w hG hb (addedN_length _ _) h2
  have hst : ∀ w, Gl w → Frm (fun _ => False) w6 w → 2 ≤ w.heap.size → Calls Tryd.prog 69 #[.pointer (some ⟨g3, 0, none⟩)] w fun e w' => e = .returned (.agg (cellsW (shaWords (l ++ endL l.length))).toArray) ∧ Below w.heap.size w w' := fun w hG hF h2 => hstate w hG (hst6'.frm hF (fun h => h)) h2
  have HST := hide hst
  have hlt6 := hst6'.lt
  clear hst hstate hst6' hst6 hst4 HW
  generalize shaWords (l ++ endL l.length) = ws at *
  go_wp2_with ((with_reducible refine wpl_alloca (op := ⟨some 4, _, _, _, _, _⟩) rfl _ rfl _ zero32 ?_); intro g4 w7 hB7 hs7 hF7)
  refine (HST.out w7 (hG6.frm hF7 (fun h => h) (fun h => h)) hF7 (by have := hF7.size; omega)).mono ?_
  rintro e w8 ⟨rfl, hbl8⟩
  have hF8 : Frm (fun _ => False) w7 w8 := Frm.of_below hbl8
  have hne14 : g1 ≠ g4 := by have := hb16.lt; omega
  have hge4 : w.heap.size ≤ g4 := by have := hB06.size; omega
  have hinv : SumInv w g1 g4 (outL ws 0) w8 := by
    refine ⟨hB7.frm hF8 (fun h => h), (hb16.frm hF7 (fun h => h)).frm hF8 (fun h => h), below_frm (below_frm hB06 hF7 hB06.size (fun k hk => hk.elim)) hF8 ?_ (fun k hk => hk.elim)⟩
    have := hB06.size; have := hF7.size; omega
  have HI := hide hinv
  clear hinv hbl8 hF8 hF7 hB7 HST hG6 hb16 hB06 hb15 hB05 hG5 hG4 hb14 hB04 hF6
  go_wp2_with fail
  go_loopw [17] (fun i wr => ∃ k : Nat, k ≤ 8 ∧ i = .int .i64 k ∧ SumInv w g1 g4 (outL ws k) wr) (fun i _ => 8 - (intOf i).toNat)
  case atStart => exact ⟨0, by omega, rfl, HI.out⟩
  case round =>
    clear HI
    obtain ⟨k, hk, rfl, hi⟩ := hrel
    by_cases hlt8 : k < 8
    · have hidx := index8 ws k hlt8 HSW.out
      have hv := HWS.out.get k
      have hstep := outL_step ws k HSW.out hlt8
      have hsl : ∀ w, Sem.run Tryd.prog (Instr.sliceAt 84 (.pointer (some ⟨g4, 0, none⟩)) (some (.int .i64 (4 * (k : Int)))) none none) w = .ok (.slice (some ⟨g4, 4 * k, none⟩) (32 - 4 * k) (32 - 4 * k)) w := fun w => by
        have := run_slice_arr (P := Tryd.prog) (t := 84) (e := 5) (N := 32) (by kernel_rfl) (by kernel_rfl) g4 0 .i64 (4 * k) (by omega) w
        simpa using this
      have hol : (cellsB (outL ws k)).length = 32 := by rw [cellsB_length, outL_length ws k HSW.out hk]
      have HOL := hide hol
      have HSTP := hide hstep
      clear hol hstep
      generalize ws.getD k 0 = x at *
      go_wp2_with fail
      refine (put_any g4 (4 * k) (32 - 4 * k) (32 - 4 * k) x _ _ wr (by omega) (by omega) hv hi.out (by rw [HOL.out]; omega)).mono ?_
      rintro e w9 ⟨rfl, hB9, hF9⟩
      rw [HSTP.out] at hB9
      have FIN : Hid (SumInv w g1 g4 (outL ws (k + 1)) w9) := ⟨hB9, hi.res.frm hF9 hne14, below_frm hi.below hF9 hi.below.size (fun k hk => by omega)⟩
      go_wp2_with fail
      go_roundw
      case rel => first | exact ⟨k + 1, by omega, by go_num, FIN.out⟩ | ((repeat apply Exists.intro); exact ⟨⟨k + 1, by omega, by go_num, FIN.out⟩, rfl⟩)
      case measure => simp [intOf]; omega
    · obtain rfl : k = 8 := by omega
      have hb := hi.out
      rw [outL_all ws HSW.out, ← HSL.out] at hb
      have HL : Hid ((cellsB (shaL l)).length = 32) := by show _ = _; rw [cellsB_length, shaL_length]
      have HX2 : Hid (((cellsB (shaL l)).drop 0).take 32 = cellsB (shaL l)) := by show _ = _; rw [List.drop_zero, List.take_of_length_le (by rw [HL.out]; exact Nat.le_refl _)]
      have HZ : Hid ((cellsB (List.replicate 32 0)).toArray.size = 32) := rfl
      have hres := hi.res
      have hbel := hi.below
      clear hi
      go_wp2_with (first
        | (with_reducible refine wpl_loada (op := ⟨some 27, _, _, _, _, _⟩) agg32 rfl _ rfl g4 0 rfl _ _ _ hb HX2.out (by rw [HL.out]; exact Nat.le_refl _) ?_)
        | ((with_reducible refine wpl_storea agg32 rfl (.tmp 2) (.tmp 27) rfl g1 (cellsB (shaL l)) rfl rfl _ _ hres HL.out HZ.out (cellsB_one _) ?_); intro w10 hB10 hF10))
      exact ret_agg agg32 rfl rfl g1 _ _ rfl hB10 HL.out ⟨rfl, below_frm hbel hF10 hbel.size (fun i hi => by omega)⟩
end Go.Proofs.YtjicnfkodieaaaaDoor
