/-
  ChachaVectors, walked.
-/
import Derived.Test.YtjdffceeinflcaaDoorCh9
namespace Go.Proofs.YtjdffceeinflcaaDoor
set_option linter.unusedVariables false
open Go.RowKit

def zero32L : List UInt8 := List.replicate 32 0
def zero12L : List UInt8 := List.replicate 12 0
def vec0 : List UInt8 := [118, 184, 224, 173, 160, 241, 61, 144, 64, 93, 106, 229, 83, 134, 189, 40]
def vec1 : List UInt8 := [159, 7, 231, 190, 85, 81, 56, 122, 152, 186, 151, 124, 115, 45, 8, 13]
theorem vec0_is : (chaL zero32L 0 zero12L).take 16 = vec0 := by kernel_rfl
theorem vec1_is : (chaL zero32L 1 zero12L).take 16 = vec1 := by kernel_rfl
theorem stream_two (key nonce : List UInt8) : streamL key nonce 128 = chaL key 0 nonce ++ chaL key 1 nonce := by
  have h : blocksL key nonce ((128 + 63) / 64) = chaL key 0 nonce ++ chaL key 1 nonce := by
    show blocksL key nonce 2 = _
    rw [blocksL, blocksL, blocksL, List.nil_append]
  rw [streamL, h, List.take_of_length_le (by rw [List.length_append, chaL_length, chaL_length]; omega)]
theorem and255 (x : Int) (h0 : 0 ≤ x) (h1 : x < 256) : bits .and .u8 x 255 = x := by
  obtain ⟨n, rfl⟩ := Int.eq_ofNat_of_zero_le h0
  have all : ∀ j : Fin 256, bits .and .u8 (j.val : Int) 255 = (j.val : Int) := by decide +kernel
  exact all ⟨n, by omega⟩
theorem str_add' (p q r : List UInt8) (h : p ++ q = r) : (⟨p.toArray⟩ ++ ⟨q.toArray⟩ : ByteArray) = ⟨r.toArray⟩ := by
  subst h
  apply ByteArray.ext
  simp

set_option maxHeartbeats 4000000 in
theorem cvectors_walk (x : Int) (w : World) (hG : Gc w) (hg0 : 2 ≤ w.heap.size) (hx : 0 ≤ x ∧ x < 256) :
    Calls Tryd.prog 9 #[.int .u8 x] w fun e w' => e = .returned (.bool true) ∧ Below w.heap.size w w' := by
  have hand := and255 x hx.1 hx.2
  obtain ⟨zk, hzk⟩ : ∃ zk, zk = zero32L := ⟨_, rfl⟩
  obtain ⟨a, ha⟩ : ∃ a, a = chaL zero32L 0 zero12L := ⟨_, rfl⟩
  obtain ⟨b, hb⟩ : ∃ b, b = chaL zero32L 1 zero12L := ⟨_, rfl⟩
  obtain ⟨S, hS⟩ : ∃ S, S = streamL zero32L zero12L 128 := ⟨_, rfl⟩
  have HZ : Hid ((Tryd.prog.info? 23).map (fun i => i.zero) = some (some (.agg (cellsB zk).toArray))) := by rw [hzk]; exact zeroK
  have HKL : Hid ((cellsB zk).length = 32) := by rw [hzk]; rfl
  have HA : Hid (∀ w', CRun w w' → Calls Tryd.prog 11 #[.agg (cellsB zk).toArray, .int .u32 0, .agg #[.int .u8 0, .int .u8 0, .int .u8 0, .int .u8 0, .int .u8 0, .int .u8 0, .int .u8 0, .int .u8 0, .int .u8 0, .int .u8 0, .int .u8 0, .int .u8 0]] w' fun e w'' => e = .returned (.agg (cellsB a).toArray) ∧ Frm (fun _ => False) w' w'' ∧ CRun w w'') := by
    rw [hzk, ha]
    exact fun w' hR => block_run w w' zero32L zero12L 0 hR rfl rfl (by omega)
  have HB : Hid (∀ w', CRun w w' → Calls Tryd.prog 11 #[.agg (cellsB zk).toArray, .int .u32 1, .agg #[.int .u8 0, .int .u8 0, .int .u8 0, .int .u8 0, .int .u8 0, .int .u8 0, .int .u8 0, .int .u8 0, .int .u8 0, .int .u8 0, .int .u8 0, .int .u8 0]] w' fun e w'' => e = .returned (.agg (cellsB b).toArray) ∧ Frm (fun _ => False) w' w'' ∧ CRun w w'') := by
    rw [hzk, hb]
    exact fun w' hR => block_run w w' zero32L zero12L 1 hR rfl rfl (by omega)
  have HS : Hid (∀ w', CRun w w' → Calls Tryd.prog 13 #[.agg (cellsB zk).toArray, .agg #[.int .u8 0, .int .u8 0, .int .u8 0, .int .u8 0, .int .u8 0, .int .u8 0, .int .u8 0, .int .u8 0, .int .u8 0, .int .u8 0, .int .u8 0, .int .u8 0], .int .i64 128] w' fun e w'' => ∃ g, e = .returned (.slice (some ⟨g, 0, none⟩) 128 128) ∧ Row w'' g S ∧ w'.heap.size ≤ g ∧ Frm (fun _ => False) w' w'' ∧ CRun w w'') := by
    rw [hzk, hS]
    exact fun w' hR => stream_run w w' zero32L zero12L 128 hR rfl rfl (by omega)
  have HA16 : Hid (a.take 16 = vec0) := by rw [ha]; exact vec0_is
  have HB16 : Hid (b.take 16 = vec1) := by rw [hb]; exact vec1_is
  have HAL : Hid (a.length = 64) := by rw [ha]; exact chaL_length _ _ _
  have HBL : Hid (b.length = 64) := by rw [hb]; exact chaL_length _ _ _
  have HSL : Hid (S.length = 128) := by rw [hS]; exact streamL_length _ _ _
  have HAC : Hid ((cellsB a).length = 64) := by show _ = _; rw [cellsB_length, HAL.out]
  have HBC : Hid ((cellsB b).length = 64) := by show _ = _; rw [cellsB_length, HBL.out]
  have HADD : Hid ((⟨a.toArray⟩ ++ ⟨b.toArray⟩ : ByteArray) = ⟨S.toArray⟩) := str_add' _ _ _ (by rw [ha, hb, hS, stream_two])
  have HZB : Hid ((cellsB (List.replicate 64 0)).toArray.size = 64) := rfl
  have hsl16 : ∀ g w, Sem.run Tryd.prog (Instr.sliceAt 27 (.pointer (some ⟨g, 0, none⟩)) none (some (.int .i64 16)) none) w = .ok (.slice (some ⟨g, 0, none⟩) 16 64) w := fun g w => slice_arr_to under64b g 16 (by omega) w
  have hsl64 : ∀ g w, Sem.run Tryd.prog (Instr.sliceAt 27 (.pointer (some ⟨g, 0, none⟩)) none none none) w = .ok (.slice (some ⟨g, 0, none⟩) 64 64) w := fun g w => run_slice_arr0 (P := Tryd.prog) (t := 27) (e := 5) (N := 64) under64b size8 g 0 (by omega) w
  have HRUN := hide (CRun.start hG hg0)
  clear hzk ha hb hS hG hx
  go_enter Tryd.func9, Tryd.ntmps9
  go_wp2_with fail
  refine (cshown_run w _ HRUN.out).mono ?_
  rintro e w1 ⟨rfl, hF1, hR1⟩
  go_wp2_with (first
    | ((with_reducible refine wpl_alloca (op := ⟨some 4, _, _, _, _, _⟩) rfl _ rfl _ HZ.out ?_); intro g4 w2 hB2 hs2 hF2)
    | (with_reducible refine wpl_loadg (op := ⟨some 9, _, _, _, _, _⟩) aggK _ rfl g4 rfl _ _ hB2 HKL.out rfl ?_))
  refine (HA.out w2 (hR1.frm0 hF2)).mono ?_
  rintro e w3 ⟨rfl, hF3, hR3⟩
  have hB3 := hB2.frm hF3 (fun h => h)
  clear HA hB2 hF3 hR1 hF2
  go_wp2_with (first
    | ((with_reducible refine wpl_alloca (op := ⟨some 5, _, _, _, _, _⟩) rfl _ rfl _ zero64b ?_); intro g5 w4 hB4 hs4 hF4)
    | ((with_reducible refine wpl_storea agg64b rfl (.tmp 5) (.tmp 11) rfl g5 (cellsB a) rfl rfl _ _ hB4 HAC.out HZB.out (cellsB_one _) ?_); intro w5 hB5 hF5; have hB35 := (hB3.frm hF4 (fun h => h)).frm hF5 (by have := hB3.lt; omega))
    | (with_reducible refine wpl_loadg (op := ⟨some 12, _, _, _, _, _⟩) aggK _ rfl g4 rfl _ _ hB35 HKL.out rfl ?_))
  have hR5 := (hR3.frm0 hF4).frm hF5 (fun k hk => by have := hR3.size; omega)
  refine (HB.out w5 hR5).mono ?_
  rintro e w6 ⟨rfl, hF6, hR6⟩
  have hB36 := hB35.frm hF6 (fun h => h)
  have hB56 := hB5.frm hF6 (fun h => h)
  clear HB hB3 hB4 hB5 hB35 hF4 hF5 hF6 hR5 hR3
  go_wp2_with (first
    | ((with_reducible refine wpl_alloca (op := ⟨some 6, _, _, _, _, _⟩) rfl _ rfl _ zero64b ?_); intro g6 w7 hB7 hs7 hF7)
    | ((with_reducible refine wpl_storea agg64b rfl (.tmp 6) (.tmp 14) rfl g6 (cellsB b) rfl rfl _ _ hB7 HBC.out HZB.out (cellsB_one _) ?_); intro w8 hB8 hF8; have hB38 := (hB36.frm hF7 (fun h => h)).frm hF8 (by have := hB36.lt; omega); have hB58 := (hB56.frm hF7 (fun h => h)).frm hF8 (by have := hB56.lt; omega))
    | (with_reducible refine wpl_loadg (op := ⟨some 15, _, _, _, _, _⟩) aggK _ rfl g4 rfl _ _ hB38 HKL.out rfl ?_))
  have hR8 := (hR6.frm0 hF7).frm hF8 (fun k hk => by have := hR6.size; omega)
  refine (HS.out w8 hR8).mono ?_
  rintro e w9 ⟨g7, rfl, hrow, hg7, hF9, hR9⟩
  have hB59 := hB58.frm hF9 (fun h => h)
  have hB89 := hB8.frm hF9 (fun h => h)
  have hD : ∀ q, Frm (fun _ => False) w9 (w9.drewN q) := fun q => (Frm.refl _ _).drewN q
  have c1 : ∀ q, Sem.run Tryd.prog (convert 29 9 (.slice (some ⟨g5, 0, none⟩) 16 64)) (w9.drewN q) = .ok (.string ⟨vec0.toArray⟩) (w9.drewN q) := fun q => by
    have := (hB59.frm (hD q) (fun h => h)).conv 16 64 (by rw [HAL.out]; omega)
    rwa [HA16.out] at this
  have c2 : ∀ q, Sem.run Tryd.prog (convert 29 9 (.slice (some ⟨g6, 0, none⟩) 16 64)) (w9.drewN q) = .ok (.string ⟨vec1.toArray⟩) (w9.drewN q) := fun q => by
    have := (hB89.frm (hD q) (fun h => h)).conv 16 64 (by rw [HBL.out]; omega)
    rwa [HB16.out] at this
  have c3 : ∀ q, Sem.run Tryd.prog (convert 29 9 (.slice (some ⟨g5, 0, none⟩) 64 64)) (w9.drewN q) = .ok (.string ⟨a.toArray⟩) (w9.drewN q) := fun q => by
    have := (hB59.frm (hD q) (fun h => h)).conv 64 64 (by rw [HAL.out]; omega)
    rwa [List.take_of_length_le (by rw [HAL.out]; omega)] at this
  have c4 : ∀ q, Sem.run Tryd.prog (convert 29 9 (.slice (some ⟨g6, 0, none⟩) 64 64)) (w9.drewN q) = .ok (.string ⟨b.toArray⟩) (w9.drewN q) := fun q => by
    have := (hB89.frm (hD q) (fun h => h)).conv 64 64 (by rw [HBL.out]; omega)
    rwa [List.take_of_length_le (by rw [HBL.out]; omega)] at this
  have c5 : ∀ q, Sem.run Tryd.prog (convert 29 9 (.slice (some ⟨g7, 0, none⟩) 128 128)) (w9.drewN q) = .ok (.string ⟨S.toArray⟩) (w9.drewN q) := fun q => by
    have := (hrow.frm0 (hD q)).rds.conv 128
    rwa [HSL.out] at this
  have hadd := HADD.out
  have hsz : (⟨a.toArray⟩ : ByteArray).size + (⟨b.toArray⟩ : ByteArray).size ≤ 1000 := by
    show a.toArray.size + b.toArray.size ≤ 1000
    rw [List.size_toArray, List.size_toArray, HAL.out, HBL.out]
    omega
  unfold vec0 at c1
  unfold vec1 at c2
  have HBEL := hide hR9.below
  clear hB36 hB56 hB7 hB8 hB38 hB58 hF7 hF8 hF9 hR6 hR8 hR9 hB59 hB89 hrow hD HADD HA16 HB16 HS HZ HRUN hF1
  generalize (⟨a.toArray⟩ : ByteArray) = sa at *
  generalize (⟨b.toArray⟩ : ByteArray) = sb at *
  generalize (⟨S.toArray⟩ : ByteArray) = ss at *
  go_wp2_with fail
  go_quiet (fail)
  go_wp2
  go_ret
  exact ⟨rfl, ⟨HBEL.out.os, HBEL.out.tape, HBEL.out.output, HBEL.out.size, HBEL.out.block⟩⟩
end Go.Proofs.YtjdffceeinflcaaDoor
