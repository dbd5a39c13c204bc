/-
  What comes behind the bytes.
-/
import Derived.Test.YtjicnfkodieaaaaDoorSha4
import Derived.Laws.MakeOwn
namespace Go.Proofs.YtjicnfkodieaaaaDoor
set_option linter.unusedVariables false
open Go.RowKit

theorem info8 : (Tryd.prog.info? 5).map (fun i => (i.zero, i.size, i.bytes)) = some (some (.int .u8 0), 1, 1) := by kernel_rfl
theorem under24 : Tryd.prog.underlying 50 = some (.slice 5) := by kernel_rfl

theorem madeCells1 (v : Value) (c : Nat) : madeCells #[v] c = (List.replicate c v).toArray := by
  apply Array.ext
  · simp [madeCells]
  · intro i h1 h2
    simp [madeCells, Nat.mod_one]

/-- Noughts, made. -/
theorem wpl_make8 {ops : Array Oper} {rest : List Oper} {op : Oper} {a : Act} {w : World} {Q : Exit → Act → World → Prop} (hgd : op.guard = none) (x : Operand) (ho : op.op = .makeSlice 50 x x)
    (k : IntKind) (C : Int) (c : Nat) (hx : a.eval x = .int k C) (hC : C = (c : Int)) (hc : c ≤ 1000000)
    (h : ∀ g w', Blk w' g 5 (cellsB (List.replicate c 0)).toArray → w.heap.size ≤ g → Frm (fun _ => False) w w' → wpList Tryd.prog ops Q rest (a.put op.dst (.slice (some ⟨g, 0, none⟩) c c)) w') : wpList Tryd.prog ops Q (op :: rest) a w := by
  subst hC
  refine wpList_plain hgd fun K hK => ?_
  have hinfo := info8
  cases hq : Tryd.prog.info? 5 with
  | none => rw [hq] at hinfo; cases hinfo
  | some i =>
    rw [hq] at hinfo
    simp at hinfo
    obtain ⟨hz, hs, hb⟩ := hinfo
    have hr := run_make (P := Tryd.prog) w 50 5 i _ under24 hq hz k k (c : Int) (c : Int) (by omega) (by omega) (by rw [hb]; omega) (by omega)
    rw [hs] at hr
    simp only [Int.toNat_natCast, Nat.mul_one, Value.cells, madeCells1] at hr
    have hcell : (List.replicate c (Value.int .u8 0)) = cellsB (List.replicate c 0) := by simp [cellsB]
    rw [hcell] at hr
    unfold Oper.wp execOp
    simp [ho, hx, hr, Oper.upon, Result.andThen]
    exact hK _ _ (h _ _ (Blk.new _ _ _) (Nat.le_refl _) (Frm.alloc _ _ _))

theorem be8_split (n : Nat) : be 8 n = be 4 (n / 4294967296) ++ be 4 n := by
  simp [be, List.range_succ, Nat.div_div_eq_div_mul]

theorem be4_mod (n : Nat) : be 4 (n % 4294967296) = be 4 n := by
  simp [be, List.range_succ]
  refine ⟨?_, ?_, ?_, ?_⟩ <;> (apply UInt8.toNat_inj.1; simp; try omega)
theorem splice_mid {α : Type} (x y z c : List α) (off : Nat) (h1 : x.length = off) (h2 : y.length = c.length) : splice (x ++ (y ++ z)) off c = x ++ (c ++ z) := by
  subst h1
  rw [splice, List.take_left, List.drop_append, List.drop_eq_nil_of_le (by omega), List.nil_append, ← h2, Nat.add_sub_cancel_left, List.drop_left]
theorem two_splices (z v1 v2 : Nat) : splice (splice (cellsB (128 :: List.replicate (z + 8) 0)) (1 + z) (cellsB (be 4 v1))) (1 + z + 4) (cellsB (be 4 v2)) = cellsB (128 :: (List.replicate z 0 ++ (be 4 v1 ++ be 4 v2))) := by
  have h0 : (128 :: List.replicate (z + 8) 0 : List UInt8) = (128 :: List.replicate z 0) ++ (List.replicate 4 0 ++ List.replicate 4 0) := by
    rw [← List.replicate_append_replicate (n := z) (m := 8)]
    rfl
  rw [h0, cellsB_append, cellsB_append, splice_mid _ _ _ _ _ (by rw [cellsB_length]; simp; omega) (by rw [cellsB_length, cellsB_length, be_length]; rfl)]
  have h1 := splice_mid (cellsB (128 :: List.replicate z 0) ++ cellsB (be 4 v1)) (cellsB (List.replicate 4 0)) [] (cellsB (be 4 v2)) (1 + z + 4) (by rw [List.length_append, cellsB_length, cellsB_length, be_length]; simp; omega) (by rw [cellsB_length, cellsB_length, be_length]; rfl)
  simp only [List.append_nil, List.append_assoc] at h1
  rw [h1, ← cellsB_append, ← cellsB_append]
  rfl

set_option maxHeartbeats 1000000 in
theorem end_any (n : Nat) (w : World) (hn : n ≤ 1000000000000) :
    Calls Tryd.prog 68 #[.int .u64 (n : Int)] w fun e w' => ∃ g, e = .returned (.slice (some ⟨g, 0, none⟩) (endL n).length (endL n).length) ∧ Blk w' g 5 (cellsB (endL n)).toArray ∧ w.heap.size ≤ g ∧ Below w.heap.size w w' := by
  obtain ⟨ov, hov⟩ : ∃ ov, ov = (n + 9) % 64 := ⟨_, rfl⟩
  obtain ⟨z, hz⟩ : ∃ z, z = (64 - ov) % 64 := ⟨_, rfl⟩
  have e1 : ((n : Int) + 1 + 8) % 64 = (ov : Int) := by omega
  have e2 : ((64 : Int) - (ov : Int)) % 64 = (z : Int) := by omega
  have hz64 : z < 64 := by omega
  have hov64 : ov < 64 := by omega
  have HE : Hid (endL n = 128 :: (List.replicate z 0 ++ be 8 (8 * n))) := by show _ = _; rw [endL, ← hov, ← hz]
  obtain ⟨v1, hv1⟩ : ∃ v1, v1 = 8 * n / 4294967296 := ⟨_, rfl⟩
  obtain ⟨v2, hv2⟩ : ∃ v2, v2 = 8 * n % 4294967296 := ⟨_, rfl⟩
  have p1 : 8 * (n : Int) / 4294967296 = (v1 : Int) := by omega
  have p2 : 8 * (n : Int) % 4294967296 = (v2 : Int) := by omega
  have lv1 : v1 < 4294967296 := by omega
  have lv2 : v2 < 4294967296 := by omega
  have HB : Hid (be 8 (8 * n) = be 4 v1 ++ be 4 v2) := by
    show _ = _
    rw [be8_split, hv1, hv2, be4_mod]
  clear hv1 hv2
  have HZ := hide hz
  have HO := hide hov
  clear hz hov
  go_enter Tryd.func68, Tryd.ntmps68
  go_wp2_with ((with_reducible refine wpl_make8 (op := ⟨some 17, _, _, _, _, _⟩) rfl _ rfl _ _ (1 + z + 8) rfl (by omega) (by omega) ?_); intro g w1 hB1 hs1 hF1; have hc0 : w1.cell? ⟨g, 0, none⟩ = some (.int .u8 0) := (by rw [hB1.cell, List.getElem?_toArray, cellsB_get, List.getElem?_replicate, if_pos (by omega)]; rfl); have hf0 := hB1.frozen 0)
  have hB2 := hB1.set 0 (.int .u8 128)
  have hF2 : Frm (fun k => k = g) w (w1.setCell ⟨g, 0, none⟩ (.int .u8 128)) := (hF1.mono (T := fun k => k = g) (fun _ _ h => h.elim)).trans (Frm.setCell _ _ _ (fun k => k = g) rfl) (fun _ _ h => h)
  have hcs : (cellsB (List.replicate (1 + z + 8) 0)).toArray.setIfInBounds 0 (.int .u8 128) = (cellsB (128 :: List.replicate (z + 8) 0)).toArray := by
    rw [show 1 + z + 8 = (z + 8) + 1 by omega, List.replicate_succ]
    simp [cellsB]
  rw [hcs] at hB2
  generalize w1.setCell ⟨g, 0, none⟩ (.int .u8 128) = w2 at *
  clear hB1 hF1 hc0 hf0 hcs
  refine (put_any g (1 + z) 8 8 v1 _ _ w2 (by omega) (by omega) lv1 hB2 (by rw [cellsB_length]; simp; omega)).mono ?_
  rintro e w3 ⟨rfl, hB3, hF3⟩
  go_wp2_with fail
  refine (put_any g (1 + z + 4) 4 4 v2 _ _ w3 (by omega) (by omega) lv2 hB3 (by rw [length_splice _ _ _ (by rw [cellsB_length, cellsB_length, be_length]; simp; omega), cellsB_length]; simp; omega)).mono ?_
  rintro e w4 ⟨rfl, hB4, hF4⟩
  have hfin : splice (splice (cellsB (128 :: List.replicate (z + 8) 0)) (1 + z) (cellsB (be 4 v1))) (1 + z + 4) (cellsB (be 4 v2)) = cellsB (endL n) := by
    rw [HE.out, HB.out]
    exact two_splices z v1 v2
  rw [hfin] at hB4
  have hlen : (endL n).length = 1 + z + 8 := by rw [HE.out]; simp [be_length]; omega
  have HL := hide hlen
  clear hlen hfin hB3 hB2
  have hF : Frm (fun k => k = g) w w4 := (hF2.trans hF3 (fun _ _ h => h)).trans hF4 (fun _ _ h => h)
  go_wp2_with fail
  go_ret
  refine ⟨g, ?_, hB4, hs1, hF.below (Nat.le_refl _) (fun k hk => by omega)⟩
  rw [HL.out]
  rfl
end Go.Proofs.YtjicnfkodieaaaaDoor
