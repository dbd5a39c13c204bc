/-
  What must be in any case (layer 4).
-/
import Derived.Test.YtbicjcpdcopbhaaDoorHm5
namespace Go.Proofs.YtbicjcpdcopbhaaDoor
set_option linter.unusedVariables false
open Go.RowKit

def jefeL : List UInt8 := [74, 101, 102, 101]
def wantL : List UInt8 := [119, 104, 97, 116, 32, 100, 111, 32, 121, 97, 32, 119, 97, 110, 116, 32]
def nothingL : List UInt8 := [102, 111, 114, 32, 110, 111, 116, 104, 105, 110, 103, 63]
def abL : List UInt8 := [97, 98]
theorem jefe_mac : macL jefeL (wantL ++ nothingL) = [91, 220, 193, 70, 191, 96, 117, 78, 106, 4, 36, 38, 8, 149, 117, 199, 90, 0, 63, 8, 157, 39, 57, 131, 157, 236, 88, 185, 100, 236, 56, 67] := by kernel_rfl

theorem Frm.two {S : Nat → Prop} (w : World) (o o' : Obj) : Frm S w ((w.alloc o).alloc o') := (Frm.alloc _ _ _).trans (Frm.alloc _ _ S) (fun _ _ h => h)

theorem Blk.conv {w : World} {g : Nat} {t : TypeId} {l : List UInt8} (h : Blk w g t (cellsB l).toArray) (n c : Nat) (hn : n ≤ l.length) :
    Sem.run Tryd.prog (convert 24 9 (.slice (some ⟨g, 0, none⟩) n c)) w = .ok (.string ⟨(l.take n).toArray⟩) w := by
  refine conv_rds w 24 9 5 under24 under5 under9 _ n c (l.take n) ?_
  have := h.rds.take n (by rw [cellsB_length]; exact hn)
  rwa [cellsB_take] at this

set_option maxHeartbeats 4000000 in
theorem hshown_any (w : World) (hG : Gl w) (hg0 : 2 ≤ w.heap.size) :
    Calls Tryd.prog 25 #[] w fun e w' => e = .returned (.bool true) ∧ Below w.heap.size w w' := by
  have kc : ∀ (w : World) (C : Array Value) (n c g : Nat), g = w.heap.size → _ := fun (w : World) (C : Array Value) (n c g : Nat) (hg : g = w.heap.size) => hg ▸ Lib.run_convert_bytes_const (P := Tryd.prog) w 24 5 C n c under24 under5
  have hsl32 := sl32
  obtain ⟨w1, hw1⟩ : ∃ w1, w1 = w.alloc (.cells (cellsB jefeL).toArray 5 (4, 5)) := ⟨_, rfl⟩
  obtain ⟨w2, hw2⟩ : ∃ w2, w2 = w1.alloc (.cells (cellsB wantL).toArray 5 (16, 17)) := ⟨_, rfl⟩
  obtain ⟨w3, hw3⟩ : ∃ w3, w3 = w2.alloc (.cells (cellsB nothingL).toArray 5 (12, 13)) := ⟨_, rfl⟩
  have s1 : w1.heap.size = w.heap.size + 1 := by rw [hw1]; simp
  have s2 : w2.heap.size = w.heap.size + 1 + 1 := by rw [hw2]; simp [s1]
  have s3 : w3.heap.size = w.heap.size + 1 + 1 + 1 := by rw [hw3]; simp [s2]
  have f1 : Frm (fun _ => False) w w1 := by rw [hw1]; exact Frm.alloc _ _ _
  have f2 : Frm (fun _ => False) w1 w2 := by rw [hw2]; exact Frm.alloc _ _ _
  have f3 : Frm (fun _ => False) w2 w3 := by rw [hw3]; exact Frm.alloc _ _ _
  have r1 : Rds w3 (some ⟨w.heap.size, 0, none⟩) 4 (cellsB jefeL) := by have := alloc_rds w (cellsB jefeL) 5 (4, 5); rw [← hw1] at this; exact (this.frm f2 (fun _ _ _ h => h)).frm f3 (fun _ _ _ h => h)
  have r2 : Rds w3 (some ⟨w.heap.size + 1, 0, none⟩) 16 (cellsB wantL) := by have := alloc_rds w1 (cellsB wantL) 5 (16, 17); rw [← hw2, s1] at this; exact this.frm f3 (fun _ _ _ h => h)
  have r3 : Rds w3 (some ⟨w.heap.size + 1 + 1, 0, none⟩) 12 (cellsB nothingL) := by have := alloc_rds w2 (cellsB nothingL) 5 (12, 13); rw [← hw3, s2] at this; exact this
  have f03 : Frm (fun _ => False) w w3 := (f1.trans f2 (fun _ _ h => h)).trans f3 (fun _ _ h => h)
  have hA : All2 w3 [.slice (some ⟨w.heap.size + 1, 0, none⟩) 16 16, .slice (some ⟨w.heap.size + 1 + 1, 0, none⟩) 12 12] [wantL, nothingL] := .cons ⟨_, _, rfl, by decide, r2⟩ (.cons ⟨_, _, rfl, by decide, r3⟩ .nil)
  have hP := parts_alloc w3 _ _ 24 hA
  have f4 : Frm (fun _ => False) w3 (w3.alloc (.cells [Value.slice (some ⟨w.heap.size + 1, 0, none⟩) 16 16, .slice (some ⟨w.heap.size + 1 + 1, 0, none⟩) 12 12].toArray 24)) := Frm.alloc _ _ _
  have hm := mac_any (some ⟨w.heap.size, 0, none⟩) 4 4 jefeL (some ⟨w3.heap.size, 0, none⟩) 2 _ [wantL, nothingL] _ (hG.frm (f03.trans f4 (fun _ _ h => h)) (fun h => h) (fun h => h)) (by have := f03.size; have := f4.size; omega) (r1.frm f4 (fun _ _ _ h => h)) (by omega) (by omega) hP (by decide) (by decide)
  have hF4 := f03.trans f4 (fun _ _ h => h)
  rw [s3] at hm
  rw [hw3, hw2, hw1] at hm hF4
  have hfl : [wantL, nothingL].flatten = wantL ++ nothingL := by simp
  rw [hfl] at hm
  have HM := hide hm
  have HF4 := hide hF4
  clear hm hP hA r1 r2 r3 f1 f2 f3 f4 hfl hF4 f03 s1 s2 s3 hw1 hw2 hw3
  go_enter Tryd.func25, Tryd.ntmps25
  go_wp2_with fail
  refine HM.out.mono ?_
  rintro e w5 ⟨rfl, hb5⟩
  have hF5 : Frm (fun _ => False) w w5 := HF4.out.trans (Frm.of_below hb5) (fun _ _ h => h)
  have HL : Hid ((cellsB (macL jefeL (wantL ++ nothingL))).length = 32) := by show _ = _; rw [cellsB_length, macL_length]
  have HE := hide jefe_mac
  clear hb5 HM HF4 hG
  generalize macL jefeL (wantL ++ nothingL) = mc at *
  go_wp2_with (first
    | ((with_reducible refine wpl_alloca (op := ⟨some 1, _, _, _, _, _⟩) rfl _ rfl _ zero32 ?_); intro g5 w6 hB6 hs6 hF6)
    | ((with_reducible refine wpl_storea agg32 rfl (.tmp 1) (.tmp 9) rfl g5 (cellsB mc) rfl rfl _ _ hB6 HL.out zero32_size (cellsB_one _) ?_); intro w7 hB7 hF7; have hcv := hB7.conv 32 32 (by rw [HE.out]; decide); rw [HE.out] at hcv))
  have F7 : Frm (fun k => k = g5) w w7 := ((hF5.trans hF6 (fun _ _ h => h)).mono (T := fun k => k = g5) (fun _ _ h => h.elim)).trans hF7 (fun _ _ h => h)
  have HB7 := hide (F7.below (Nat.le_refl _) (fun k hk => by have := hF5.size; omega))
  have rr1 : Rds ((w7.alloc (.cells (cellsB abL).toArray 5 (2, 3))).alloc (.cells (cellsB abL).toArray 5 (2, 3))) (some ⟨w7.heap.size, 0, none⟩) 2 (cellsB abL) := (alloc_rds w7 (cellsB abL) 5 (2, 3)).frm (S := fun _ => False) (Frm.alloc _ _ _) (fun _ _ _ h => h)
  have rr2 : Rds ((w7.alloc (.cells (cellsB abL).toArray 5 (2, 3))).alloc (.cells (cellsB abL).toArray 5 (2, 3))) (some ⟨w7.heap.size + 1, 0, none⟩) 2 (cellsB abL) := by
    have := alloc_rds (w7.alloc (.cells (cellsB abL).toArray 5 (2, 3))) (cellsB abL) 5 (2, 3)
    rwa [show (w7.alloc (.cells (cellsB abL).toArray 5 (2, 3))).heap.size = w7.heap.size + 1 by simp] at this
  have b7 := (F7.trans (Frm.two (S := fun k => k = g5) w7 (.cells (cellsB abL).toArray 5 (2, 3)) (.cells (cellsB abL).toArray 5 (2, 3))) (fun _ _ h => h)).below (Nat.le_refl _) (fun k hk => by have := hF5.size; omega)
  refine (same_any (some ⟨w7.heap.size, 0, none⟩) (some ⟨w7.heap.size + 1, 0, none⟩) 2 2 2 2 abL abL _ rr1 rr2 (by decide) (by decide)).mono ?_
  rintro e w8 ⟨rfl, q, rfl⟩
  have hd1 : decide (abL = abL) = true := by decide
  rw [hd1]
  have b8 := below_drewN b7 q
  clear rr1 rr2 hd1 b7
  generalize ((w7.alloc (.cells (cellsB abL).toArray 5 (2, 3))).alloc (.cells (cellsB abL).toArray 5 (2, 3))).drewN q = w8 at *
  go_wp2_with fail
  have rr1 : Rds ((w8.alloc (.cells (cellsB abL).toArray 5 (2, 3))).alloc (.cells (cellsB abcL).toArray 5 (3, 4))) (some ⟨w8.heap.size, 0, none⟩) 2 (cellsB abL) := (alloc_rds w8 (cellsB abL) 5 (2, 3)).frm (S := fun _ => False) (Frm.alloc _ _ _) (fun _ _ _ h => h)
  have rr2 : Rds ((w8.alloc (.cells (cellsB abL).toArray 5 (2, 3))).alloc (.cells (cellsB abcL).toArray 5 (3, 4))) (some ⟨w8.heap.size + 1, 0, none⟩) 3 (cellsB abcL) := by
    have := alloc_rds (w8.alloc (.cells (cellsB abL).toArray 5 (2, 3))) (cellsB abcL) 5 (3, 4)
    rwa [show (w8.alloc (.cells (cellsB abL).toArray 5 (2, 3))).heap.size = w8.heap.size + 1 by simp] at this
  have b9 := below_frm b8 (Frm.two (S := fun _ => False) w8 (.cells (cellsB abL).toArray 5 (2, 3)) (.cells (cellsB abcL).toArray 5 (3, 4))) b8.size (fun _ h => h.elim)
  refine (same_any (some ⟨w8.heap.size, 0, none⟩) (some ⟨w8.heap.size + 1, 0, none⟩) 2 3 2 3 abL abcL _ rr1 rr2 (by decide) (by decide)).mono ?_
  rintro e w9 ⟨rfl, q, rfl⟩
  have hd1 : decide (abL = abcL) = false := by decide
  rw [hd1]
  have b10 := below_drewN b9 q
  clear rr1 rr2 hd1 b8 b9
  generalize ((w8.alloc (.cells (cellsB abL).toArray 5 (2, 3))).alloc (.cells (cellsB abcL).toArray 5 (3, 4))).drewN q = w10 at *
  go_wp2_with fail
  go_ret
  exact ⟨rfl, b10⟩
end Go.Proofs.YtbicjcpdcopbhaaDoor
