/-
  A directory in a law's world; what must be in any case.
-/
import Derived.Test.YtjicnfkodieaaaaDoorDr9
namespace Go.Proofs.YtjicnfkodieaaaaDoor
set_option linter.unusedVariables false
set_option linter.unusedSimpArgs false
open Go.RowKit

instance (r : Rec) : Decidable r.in32 := inferInstanceAs (Decidable (_ ∧ _ ∧ _ ∧ _))

theorem bytes_own (D : List Rec) : ownB (bytesL D) = encL D := by
  unfold ownB
  have h := bytesL_length D
  have h2 := encL_length D
  rw [h, Nat.add_sub_cancel]
  unfold bytesL
  rw [List.take_append_of_le_length (by omega), List.take_of_length_le (by omega)]
theorem bytes_rest (D : List Rec) : (bytesL D).drop ((bytesL D).length - 32) = shaL (encL D) := by
  have h := bytesL_length D
  have h2 := encL_length D
  rw [h, Nat.add_sub_cancel]
  unfold bytesL
  rw [List.drop_append_of_le_length (by omega), List.drop_eq_nil_of_le (by omega), List.nil_append]
theorem bytes_recs {D : List Rec} (h : DirOk D) : recsB (bytesL D) = D := by
  unfold recsB
  rw [bytes_own, bytesL_length, Nat.add_sub_cancel, Nat.mul_div_cancel_left _ (by decide)]
  have := recs_enc D [] (fun r hr => (h.ok r hr).in32)
  rwa [List.append_nil] at this
theorem bytes_err0 {D : List Rec} (h : DirOk D) : errB (bytesL D) = 0 := by
  refine errB_ok (by rw [bytesL_length]; omega) (by rw [bytes_own, bytes_rest]) ⟨?_, by rw [bytes_recs h]; exact h⟩
  rw [bytes_own, encL_length]
  omega

/-- A directory that a law itself has made, seen from the law's beginning. -/
structure Liv (w0 w : World) (g bm : Nat) (D : List Rec) : Prop where
  dir : Dir w g bm D
  run : Run w0 w
  low : w0.heap.size ≤ g ∧ w0.heap.size ≤ bm
section
variable {w0 w w' : World} {g bm : Nat} {D : List Rec}
theorem Liv.frm {S : Nat → Prop} (h : Liv w0 w g bm D) (f : Frm S w w') (h1 : ¬ S g) (h2 : ¬ S bm) (hS : ∀ k, S k → w0.heap.size ≤ k) : Liv w0 w' g bm D := ⟨h.dir.frm f h1 h2, h.run.frm f hS, h.low⟩
theorem Liv.frm0 (h : Liv w0 w g bm D) (f : Frm (fun _ => False) w w') : Liv w0 w' g bm D := h.frm f (fun h => h) (fun h => h) (fun _ h => h.elim)
theorem Liv.lt (h : Liv w0 w g bm D) : g < w.heap.size ∧ bm < w.heap.size ∧ g ≠ bm := ⟨h.dir.blk.lt, h.dir.map.lt, fun e => h.dir.map.ne h.dir.blk e.symm⟩
end
theorem run_start (w : World) (hG : Gl w) (h2 : 2 ≤ w.heap.size) : Run w w := ⟨hG, Below.refl _ _, h2⟩
theorem Run.frm0 {w0 w w' : World} (h : Run w0 w) (f : Frm (fun _ => False) w w') : Run w0 w' := h.frm f (fun _ h => h.elim)
theorem lnew (w0 w : World) (h : Run w0 w) : Calls Tryd.prog 14 #[] w fun e w' => ∃ g bm, e = .returned (.pointer (some ⟨g, 0, none⟩)) ∧ Liv w0 w' g bm [] ∧ Frm (fun _ => False) w w' ∧ w.heap.size ≤ g ∧ w.heap.size ≤ bm :=
  (new_any w).mono fun e w' ⟨g, bm, he, hd, hf, h1, h2⟩ => ⟨g, bm, he, ⟨hd, h.frm0 hf, Nat.le_trans h.size h1, Nat.le_trans h.size h2⟩, hf, h1, h2⟩
theorem ladd {w0 w : World} {g bm : Nat} {D : List Rec} (h : Liv w0 w g bm D) (r : Rec) (hr : r.in32) : Calls Tryd.prog 15 #[.pointer (some ⟨g, 0, none⟩), recV r] w fun e w' => e = .returned (.int .i64 (whyL D r : Nat)) ∧ Liv w0 w' g bm (addL D r) ∧ Frm (fun k => k = bm) w w' :=
  (add_any g bm D r w h.dir hr).mono fun e w' ⟨he, hd, hf⟩ => ⟨he, ⟨hd, h.run.frm hf (fun k hk => by rw [hk]; exact h.low.2), h.low⟩, hf⟩
/-- .. with what comes of it told. -/
theorem ladd_is {w0 w : World} {g bm : Nat} {D : List Rec} (h : Liv w0 w g bm D) (r : Rec) (hr : r.in32) (n : Nat) (D' : List Rec) (hn : whyL D r = n) (hD : addL D r = D') : Calls Tryd.prog 15 #[.pointer (some ⟨g, 0, none⟩), recV r] w fun e w' => e = .returned (.int .i64 (n : Int)) ∧ Liv w0 w' g bm D' ∧ Frm (fun k => k = bm) w w' := by
  subst hn hD
  exact ladd h r hr
theorem lfind {w0 w : World} {g bm : Nat} {D : List Rec} (h : Liv w0 w g bm D) (a i : Nat) : Calls Tryd.prog 19 #[.pointer (some ⟨g, 0, none⟩), .int .u16 (a : Int), .int .u32 (i : Int)] w fun e w' => e = .returned (.tuple #[recV (foundR D a i), .bool (foundB D a i)]) ∧ Liv w0 w' g bm D ∧ Frm (fun _ => False) w w' :=
  (find_any g bm a i D w h.dir).mono fun e w' ⟨he, hf⟩ => ⟨he, h.frm0 hf, hf⟩
theorem lfind_is {w0 w : World} {g bm : Nat} {D : List Rec} (h : Liv w0 w g bm D) (a i : Nat) (r : Rec) (b : Bool) (hr : foundR D a i = r) (hb : foundB D a i = b) : Calls Tryd.prog 19 #[.pointer (some ⟨g, 0, none⟩), .int .u16 (a : Int), .int .u32 (i : Int)] w fun e w' => e = .returned (.tuple #[recV r, .bool b]) ∧ Liv w0 w' g bm D ∧ Frm (fun _ => False) w w' := by
  subst hr hb
  exact lfind h a i
theorem lvalid {w0 w : World} {g bm : Nat} {D : List Rec} (h : Liv w0 w g bm D) (i : Nat) : Calls Tryd.prog 22 #[.pointer (some ⟨g, 0, none⟩), .int .u32 (i : Int)] w fun e w' => ∃ A n c, e = .returned (.slice A n c) ∧ ROwn w' w.heap.size A n c (validL D i) ∧ Liv w0 w' g bm D ∧ Frm (fun _ => False) w w' :=
  (valid_any g bm i D w h.dir).mono fun e w' ⟨A, n, c, he, ho, hf⟩ => ⟨A, n, c, he, ho, h.frm0 hf, hf⟩
theorem llen {w0 w : World} {g bm : Nat} {D : List Rec} (h : Liv w0 w g bm D) : Calls Tryd.prog 18 #[.pointer (some ⟨g, 0, none⟩)] w fun e w' => e = .returned (.int .i64 (D.length : Int)) ∧ w' = w := dlen_any g bm D w h.dir
theorem llen_is {w0 w : World} {g bm : Nat} {D : List Rec} (h : Liv w0 w g bm D) (n : Nat) (hn : D.length = n) : Calls Tryd.prog 18 #[.pointer (some ⟨g, 0, none⟩)] w fun e w' => e = .returned (.int .i64 (n : Int)) ∧ w' = w := by
  subst hn
  exact llen h
/-- Its bytes: a row of the law's own. -/
theorem lbytes {w0 w : World} {g bm : Nat} {D : List Rec} (h : Liv w0 w g bm D) : Calls Tryd.prog 24 #[.pointer (some ⟨g, 0, none⟩)] w fun e w' => ∃ A c, e = .returned (.slice A (bytesL D).length c) ∧ w'.ownsRow w.heap.size 5 1 (.slice A (bytesL D).length c) (bytesL D).length (cellsB (bytesL D)) ∧ Liv w0 w' g bm D ∧ Frm (fun _ => False) w w' := by
  refine (dbytes_any g bm D w h.dir h.run.gl (by have := h.run.two; have := h.run.size; omega)).mono ?_
  rintro e w' ⟨A, c, rfl, ho, hb⟩
  rw [cellsB_length] at ho
  have hf : Frm (fun _ => False) w w' := Frm.of_below hb
  exact ⟨A, c, by rw [cellsB_length], ho, h.frm0 hf, hf⟩
theorem lload {w0 w : World} (h : Run w0 w) (A : Option Addr) (n c : Nat) (b : List UInt8) (hr : Rds w A n (cellsB b)) (hn : n ≤ 10000) (hc : n ≤ c) : Calls Tryd.prog 25 #[.slice A n c] w fun e w' =>
    ∃ p, e = .returned (.tuple #[.pointer p, .int .i64 (errB b : Nat)]) ∧ Frm (fun _ => False) w w' ∧ Run w0 w' ∧ (errB b = 0 → ∃ g bm, p = some ⟨g, 0, none⟩ ∧ Liv w0 w' g bm (recsB b) ∧ w.heap.size ≤ g ∧ w.heap.size ≤ bm) ∧ (errB b ≠ 0 → p = none) :=
  (load_any A n c b w hr hn hc h.gl (by have := h.two; have := h.size; omega)).mono fun e w' ⟨p, he, hf, h1, h2⟩ =>
    ⟨p, he, hf, h.frm0 hf, fun e0 => by
      obtain ⟨g, bm, hp, hd, hg, hb⟩ := h1 e0
      exact ⟨g, bm, hp, ⟨hd, h.frm0 hf, Nat.le_trans h.size hg, Nat.le_trans h.size hb⟩, hg, hb⟩, h2⟩
/-- What was written is loaded. -/
theorem lload_back {w0 w : World} (h : Run w0 w) (A : Option Addr) (c : Nat) (D : List Rec) (hD : DirOk D) (hr : Rds w A (bytesL D).length (cellsB (bytesL D))) (hc : (bytesL D).length ≤ c) : Calls Tryd.prog 25 #[.slice A (bytesL D).length c] w fun e w' =>
    ∃ g bm, e = .returned (.tuple #[.pointer (some ⟨g, 0, none⟩), .int .i64 0]) ∧ Frm (fun _ => False) w w' ∧ Liv w0 w' g bm D ∧ w.heap.size ≤ g ∧ w.heap.size ≤ bm := by
  refine (lload h A _ c _ hr (by rw [bytesL_length]; have := hD.len; omega) hc).mono ?_
  rintro e w' ⟨p, rfl, hf, hR, h1, _⟩
  obtain ⟨g, bm, rfl, hl, h2, h3⟩ := h1 (bytes_err0 hD)
  rw [bytes_recs hD] at hl
  exact ⟨g, bm, by rw [bytes_err0 hD]; rfl, hf, hl, h2, h3⟩
theorem own_rds8 {w : World} {B n c : Nat} {A : Option Addr} {l : List UInt8} (h : w.ownsRow B 5 1 (.slice A n c) n (cellsB l)) (hn : l.length = n) : Rds w A n (cellsB l) ∧ n ≤ c := by
  subst hn
  obtain ⟨A', c', hv, hc, hr⟩ := own_prt h
  injection hv with h1 h2 h3
  subst h1 h3
  exact ⟨hr, hc⟩

set_option maxHeartbeats 4000000 in
set_option maxRecDepth 100000 in
theorem shown9 (w0 w : World) (h : Run w0 w) : Calls Tryd.prog 13 #[] w fun e w' => e = .returned (.bool true) ∧ Frm (fun _ => False) w w' := by
  have h2 : w0.heap.size ≤ w.heap.size := h.size
  have hR : Run w w := run_start w h.gl (by have := h.two; omega)
  clear h h2
  go_enter Tryd.func13, Tryd.ntmps13
  go_wp2_with fail
  refine (lnew w w hR).mono ?_
  rintro e w1 ⟨g, bm, rfl, h1, f1, hg1, hb1⟩
  have H1 := hide h1
  clear h1 f1 hR
  go_wp2_with fail
  refine (ladd_is H1.out ⟨3, 5, 7, 9⟩ (by decide) 0 [⟨3, 5, 7, 9⟩] (by decide) (by decide)).mono ?_
  rintro e w2 ⟨rfl, h2, f2⟩
  have H2 := hide h2
  clear h2 f2 H1
  go_wp2_with fail
  refine (ladd_is H2.out ⟨3, 7, 8, 0⟩ (by decide) 12 [⟨3, 5, 7, 9⟩] (by decide) (by decide)).mono ?_
  rintro e w3 ⟨rfl, h3, f3⟩
  have H3 := hide h3
  clear h3 f3 H2
  go_wp2_with fail
  refine (ladd_is H3.out ⟨1, 7, 7, 0⟩ (by decide) 0 [⟨1, 7, 7, 0⟩, ⟨3, 5, 7, 9⟩] (by decide) (by decide)).mono ?_
  rintro e w4 ⟨rfl, h4, f4⟩
  have H4 := hide h4
  clear h4 f4 H3
  go_wp2_with fail
  refine (ladd_is H4.out ⟨16, 0, 0, 0⟩ (by decide) 1 [⟨1, 7, 7, 0⟩, ⟨3, 5, 7, 9⟩] (by decide) (by decide)).mono ?_
  rintro e w5 ⟨rfl, h5, f5⟩
  have H5 := hide h5
  clear h5 f5 H4
  go_wp2_with fail
  refine (lfind_is H5.out 3 6 ⟨3, 5, 7, 9⟩ true (by decide) (by decide)).mono ?_
  rintro e w6 ⟨rfl, h6, f6⟩
  have H6 := hide h6
  clear h6 f6 H5
  simp only [recV, recC]
  go_wp2_with (first
    | ((with_reducible refine wpl_alloca (op := ⟨some 6, _, _, _, _, _⟩) rfl _ rfl _ zeroR ?_); intro g6 w7 hB7 hs7 hF7)
    | ((refine wpl_storea aggR rfl (.tmp 6) (.tmp 31) rfl g6 [.int .u16 3, .int .u32 5, .int .u32 7, .int .u32 9] rfl rfl _ _ hB7 rfl rfl four_r ?_); intro w8 hB8 hF8))
  have hF68 := frm_join w6 hF7 hF8 (fun i hi => by omega)
  have H8 := hide (H6.out.frm0 hF68.out)
  have HB8 := hide hB8
  clear hB7 hB8 hs7 hF7 hF8 hF68 H6
  refine (lfind_is H8.out 3 8 default false (by decide) (by decide)).mono ?_
  rintro e w9 ⟨rfl, h9, f9⟩
  have H9 := hide h9
  have HB9 := hide (HB8.out.frm0a f9)
  clear h9 f9 H8 HB8
  simp only [recV, recC]
  go_wp2_with (first
    | ((with_reducible refine wpl_alloca (op := ⟨some 8, _, _, _, _, _⟩) rfl _ rfl _ zeroR ?_); intro g8 w10 hB10 hs10 hF10)
    | ((refine wpl_storea aggR rfl (.tmp 8) (.tmp 36) rfl g8 (recC default) rfl rfl _ _ hB10 rfl rfl (recC_one _) ?_); intro w11 hB11 hF11))
  have hF911 := frm_join w9 hF10 hF11 (fun i hi => by omega)
  have H11 := hide (H9.out.frm0 hF911.out)
  have HB11 := hide (HB9.out.frm0a hF911.out)
  clear hB10 hB11 hs10 hF10 hF11 hF911 H9 HB9
  have hv := lvalid H11.out 7
  rw [show validL [⟨1, 7, 7, 0⟩, ⟨3, 5, 7, 9⟩] 7 = [⟨1, 7, 7, 0⟩, ⟨3, 5, 7, 9⟩] by decide] at hv
  refine hv.mono ?_
  rintro e w12 ⟨A, n, c, rfl, ho, h12, f12⟩
  have hn := ho.len
  obtain rfl : n = 2 := hn.symm
  have H12 := hide h12
  have HO12 := hide ho
  have HB12 := hide (HB11.out.frm0a f12)
  clear hv ho h12 f12 H11 HB11 hn
  go_wp2_with fail
  refine (lbytes H12.out).mono ?_
  rintro e w13 ⟨A2, c2, rfl, ho2, h13, f13⟩
  have H13 := hide h13
  have HO13 := hide (HO12.out.frm0 f13)
  have HB13 := hide (HB12.out.frm0a f13)
  obtain ⟨hr13, hc13⟩ := own_rds8 ho2 rfl
  have HLO := hide (lload_back H13.out.run A2 c2 _ H13.out.dir.ok hr13 hc13)
  obtain ⟨m, hm⟩ : ∃ m, m = (bytesL [⟨1, 7, 7, 0⟩, ⟨3, 5, 7, 9⟩]).length := ⟨_, rfl⟩
  rw [← hm] at HLO ⊢
  clear ho2 h13 f13 hr13 hc13 H12 HO12 HB12 hm
  go_wp2_with fail
  refine HLO.out.mono ?_
  rintro e w14 ⟨g2, bm2, rfl, f14, h14, hg14, hb14⟩
  have H14 := hide h14
  have HO14 := hide (HO13.out.frm0 f14)
  have HB14 := hide (HB13.out.frm0a f14)
  clear HLO HO13 HB13 H13 hg14 hb14 h14 f14
  have c6 : w14.cell? ⟨g6, 3, none⟩ = some (.int .u32 9) := HB14.out.cell 3
  obtain ⟨gr, rfl, _, _, hcells⟩ := HO14.out.cells (by decide)
  have c0 : w14.cell? ⟨gr, 0, none⟩ = some (.int .u16 1) := hcells 0 0 (by decide) (by decide)
  have HL := hide (llen_is H14.out 2 rfl)
  have HBEL := hide H14.out.run.below
  clear hcells HO14 HB14 H14
  go_wp2_with fail
  refine HL.out.mono ?_
  rintro e w15 ⟨rfl, rfl⟩
  go_wp2_with fail
  go_ret
  exact ⟨rfl, Frm.of_below HBEL.out⟩
end Go.Proofs.YtjicnfkodieaaaaDoor
