import Derived.Test.YtjicnfkodieaaaaDoorShaLaws
import Derived.StillTailTactics
namespace Go.Proofs.YtjicnfkodieaaaaDoor
set_option linter.unusedVariables false
open Go.RowKit

theorem Agg.of {P : Program} {ty : TypeId} {n : Nat} (h : (P.underlying ty).map isAggD = some true) (hi : (P.info? ty).map (·.size) = some n) : Agg P ty n := by
  refine ⟨?_, hi⟩
  cases hq : P.underlying ty with
  | none => rw [hq] at h; cases h
  | some d => rw [hq] at h; exact ⟨d, rfl, by simpa using h⟩
theorem agg8 : Agg Tryd.prog 98 8 := Agg.of (by kernel_rfl) (by kernel_rfl)
theorem agg64 : Agg Tryd.prog 140 64 := Agg.of (by kernel_rfl) (by kernel_rfl)
theorem aggS : Agg Tryd.prog 101 73 := Agg.of (by kernel_rfl) (by kernel_rfl)
theorem agg32 : Agg Tryd.prog 84 32 := Agg.of (by kernel_rfl) (by kernel_rfl)
theorem zero8 : (Tryd.prog.info? 98).map (fun i => i.zero) = some (some (.agg (cellsW (List.replicate 8 0)).toArray)) := by kernel_rfl
theorem zero64 : (Tryd.prog.info? 140).map (fun i => i.zero) = some (some (.agg (cellsW (List.replicate 64 0)).toArray)) := by kernel_rfl
theorem zero32 : (Tryd.prog.info? 84).map (fun i => i.zero) = some (some (.agg (cellsB (List.replicate 32 0)).toArray)) := by kernel_rfl
theorem zeroS : (Tryd.prog.info? 101).map (fun i => i.zero) = some (some (.agg (cellsS (List.replicate 8 0) (List.replicate 64 0) 0).toArray)) := by kernel_rfl

/-- The tables. -/
structure Gl (w : World) : Prop where
  k : ∀ i, i < 64 → w.cell? ⟨0, i, none⟩ = some (.int .u32 (kL.getD i 0 : Nat))
  first : ∀ i, i < 8 → w.cell? ⟨1, i, none⟩ = some (.int .u32 (firstL.getD i 0 : Nat))

theorem number_eq (b0 b1 b2 b3 : UInt8) : bits .or .u32 (bits .or .u32 (bits .or .u32 ((b0.toNat : Int) * 16777216) ((b1.toNat : Int) * 65536)) ((b2.toNat : Int) * 256)) (b3.toNat : Int) = (num [b0, b1, b2, b3] : Nat) := by
  have l0 := b0.toNat_lt
  have l1 := b1.toNat_lt
  have l2 := b2.toNat_lt
  have l3 := b3.toNat_lt
  have e1 := u32_or_nat (b0.toNat * 16777216) (b1.toNat * 65536) (by omega) (by omega)
  rw [nat_join 24 _ _ (by omega) (by omega)] at e1
  have e2 := u32_or_nat (b0.toNat * 16777216 + b1.toNat * 65536) (b2.toNat * 256) (by omega) (by omega)
  rw [nat_join 16 _ _ (by omega) (by omega)] at e2
  have e3 := u32_or_nat (b0.toNat * 16777216 + b1.toNat * 65536 + b2.toNat * 256) b3.toNat (by omega) (by omega)
  rw [nat_join 8 _ _ (by omega) (by omega)] at e3
  simp only [Int.natCast_mul, Int.natCast_add] at e1 e2 e3
  have e4 : num [b0, b1, b2, b3] = b0.toNat * 16777216 + b1.toNat * 65536 + b2.toNat * 256 + b3.toNat := by simp [num]; omega
  rw [e4]
  simp only [Int.natCast_mul, Int.natCast_add]
  refine Eq.trans ?_ e3
  refine congrArg (fun z => bits .or .u32 z (b3.toNat : Int)) ?_
  refine Eq.trans ?_ e2
  exact congrArg (fun z => bits .or .u32 z ((b2.toNat : Int) * 256)) e1

theorem number_any (g off n c : Nat) (b0 b1 b2 b3 : UInt8) (w : World) (h4 : 4 ≤ n) (hn : n ≤ 1000)
    (h0 : w.cell? ⟨g, off, none⟩ = some (.int .u8 (b0.toNat : Int))) (h1 : w.cell? ⟨g, off + 1, none⟩ = some (.int .u8 (b1.toNat : Int)))
    (h2 : w.cell? ⟨g, off + 2, none⟩ = some (.int .u8 (b2.toNat : Int))) (h3 : w.cell? ⟨g, off + 3, none⟩ = some (.int .u8 (b3.toNat : Int))) :
    Calls Tryd.prog 94 #[.slice (some ⟨g, off, none⟩) n c] w fun e w' => e = .returned (.int .u32 (num [b0, b1, b2, b3] : Nat)) ∧ ∃ m, w' = w.drewN m := by
  have l0 := b0.toNat_lt
  have l1 := b1.toNat_lt
  have l2 := b2.toNat_lt
  have l3 := b3.toNat_lt
  go_enter Tryd.func94, Tryd.ntmps94
  go_wp2_with fail
  go_quiet (fail)
  go_wp2
  go_ret
  exact ⟨congrArg (fun z => Ending.returned (.int .u32 z)) (number_eq b0 b1 b2 b3), _, rfl⟩

theorem splice_cons {α : Type} (x : α) (l : List α) (off : Nat) (cs : List α) : splice (x :: l) (off + 1) cs = x :: splice l off cs := by
  simp [splice, Nat.add_right_comm off 1]
theorem set4 {α : Type} (l : List α) (off : Nat) (a b c d : α) (h : off + 4 ≤ l.length) : (((l.set off a).set (off + 1) b).set (off + 2) c).set (off + 3) d = splice l off [a, b, c, d] := by
  induction off generalizing l with
  | zero =>
    match l, h with
    | _ :: _ :: _ :: _ :: r, _ => simp [splice]
  | succ off ih =>
    match l, h with
    | x :: r, h =>
      rw [splice_cons, ← ih r (by simp at h; omega)]
      simp [Nat.add_right_comm off 1]
theorem be4_cells (v : Nat) (h : v < 4294967296) : cellsB (be 4 v) = [.int .u8 ((v : Int) / 16777216), .int .u8 ((v : Int) / 65536 % 256), .int .u8 ((v : Int) / 256 % 256), .int .u8 ((v : Int) % 256)] := by
  simp [cellsB, be, List.range_succ]
  omega

theorem put_any (g off n c : Nat) (v : Nat) (cs : List Value) (t : TypeId) (w : World) (h4 : 4 ≤ n) (hn : n ≤ 1000) (hv : v < 4294967296)
    (hb : Blk w g t cs.toArray) (ho : off + 4 ≤ cs.length) :
    Calls Tryd.prog 70 #[.slice (some ⟨g, off, none⟩) n c, .int .u32 (v : Int)] w fun e w' => e = .returned (.tuple #[]) ∧ Blk w' g t (splice cs off (cellsB (be 4 v))).toArray ∧ Frm (fun k => k = g) w w' := by
  have f0 := hb.frozen off
  have f1 := hb.frozen (off + 1)
  have f2 := hb.frozen (off + 2)
  have f3 := hb.frozen (off + 3)
  have h0 : w.cell? ⟨g, off, none⟩ = some cs[off] := by rw [hb.cell]; simp
  have h1 : w.cell? ⟨g, off + 1, none⟩ = some cs[off + 1] := by rw [hb.cell]; simp
  have h2 : w.cell? ⟨g, off + 2, none⟩ = some cs[off + 2] := by rw [hb.cell]; simp
  have h3 : w.cell? ⟨g, off + 3, none⟩ = some cs[off + 3] := by rw [hb.cell]; simp
  generalize cs[off] = x0 at *
  generalize cs[off + 1] = x1 at *
  generalize cs[off + 2] = x2 at *
  generalize cs[off + 3] = x3 at *
  have HO := hide ho
  clear ho
  go_enter Tryd.func70, Tryd.ntmps70
  go_wp2_with fail
  refine end0 rfl rfl ⟨rfl, ?_, ?_⟩
  · have := ((((hb.set off (.int .u8 ((v : Int) / 16777216))).set (off + 1) (.int .u8 ((v : Int) / 65536 % 256))).set (off + 2) (.int .u8 ((v : Int) / 256 % 256))).set (off + 3) (.int .u8 ((v : Int) % 256)))
    rw [be4_cells v hv, ← set4 _ _ _ _ _ _ HO.out]
    simpa using this
  · exact ((((Frm.setCell _ _ _ (fun k => k = g) rfl).trans (Frm.setCell _ _ _ (fun k => k = g) rfl) (fun _ _ h => h)).trans (Frm.setCell _ _ _ (fun k => k = g) rfl) (fun _ _ h => h)).trans (Frm.setCell _ _ _ (fun k => k = g) rfl) (fun _ _ h => h))
theorem Gl.frm {S : Nat → Prop} {w w' : World} (h : Gl w) (f : Frm S w w') (h0 : ¬ S 0) (h1 : ¬ S 1) : Gl w' := by
  have hc : ∀ (b i : Nat) (v : Value), ¬ S b → w.cell? ⟨b, i, none⟩ = some v → w'.cell? ⟨b, i, none⟩ = some v := by
    intro b i v hb hv
    have := f.block b (World.block_lt_of_cell? w _ hv) hb
    rw [← hv]
    simp only [World.cell?, this]
  exact ⟨fun i hi => hc 0 i _ h0 (h.k i hi), fun i hi => hc 1 i _ h1 (h.first i hi)⟩

/-- The first k are new. -/
def mix {α : Type} (new old : List α) (k : Nat) : List α := new.take k ++ old.drop k
theorem mix_length {α : Type} (new old : List α) (k : Nat) (h : new.length = old.length) : (mix new old k).length = old.length := by simp [mix, h]; omega
theorem mix_at {α : Type} (new old : List α) (k : Nat) (h : new.length = old.length) (hk : k < old.length) : (mix new old k)[k]? = old[k]? := by
  rw [mix, List.getElem?_append_right (by simp; omega), List.length_take, List.getElem?_drop]
  congr 1
  omega
theorem mix_set {α : Type} (new old : List α) (k : Nat) (x : α) (h : new.length = old.length) (hk : k < old.length) (hx : new[k]? = some x) : (mix new old k).set k x = mix new old (k + 1) := by
  rw [mix, mix, List.set_append_right _ _ (by simp; omega), List.length_take, Nat.min_eq_left (by omega), Nat.sub_self, List.drop_eq_getElem_cons (by omega), List.set_cons_zero, List.take_add_one, hx]
  simp
theorem mix_zero {α : Type} (new old : List α) : mix new old 0 = old := by simp [mix]
theorem mix_all {α : Type} (new old : List α) (k : Nat) (h : new.length = old.length) (hk : old.length ≤ k) : mix new old k = new := by
  rw [mix, List.take_of_length_le (by omega), List.drop_eq_nil_of_le hk, List.append_nil]
theorem cellsW_set (l : List Nat) (k x : Nat) : (cellsW l).set k (.int .u32 (x : Int)) = cellsW (l.set k x) := by simp [cellsW, List.map_set]
theorem plus_at (l m : List Nat) (k : Nat) (hl : k < l.length) (hm : k < m.length) : (plus l m)[k]? = some (ad (l.getD k 0) (m.getD k 0)) := by
  simp [plus, List.getElem?_zipWith, List.getD_eq_getElem?_getD, List.getElem?_eq_getElem hl, List.getElem?_eq_getElem hm]

structure StateInv (w : World) (g1 g2 : Nat) (a : List Nat) (k : Nat) (wr : World) : Prop where
  blk : Blk wr g2 98 (cellsW (mix (plus a firstL) a k)).toArray
  res : Blk wr g1 98 (cellsW (List.replicate 8 0)).toArray
  gl : Gl wr
  below : Below w.heap.size w wr

set_option maxHeartbeats 1000000 in
set_option maxRecDepth 100000 in
theorem state_any (g : Nat) (a : List Nat) (b : List UInt8) (n : Nat) (w : World) (hG : Gl w) (hb : Blk w g 101 (cellsS a b n).toArray) (ha : a.length = 8) (hg0 : 2 ≤ w.heap.size) :
    Calls Tryd.prog 69 #[.pointer (some ⟨g, 0, none⟩)] w fun e w' => e = .returned (.agg (cellsW (plus a firstL)).toArray) ∧ Below w.heap.size w w' := by
  have hx : ((cellsS a b n).drop 0).take 8 = cellsW a := by rw [cellsS, List.drop_zero, List.take_append_of_le_length (by rw [cellsW_length, ha]; exact Nat.le_refl _), List.take_of_length_le (by rw [cellsW_length, ha]; exact Nat.le_refl _)]
  have HX := hide hx
  clear hx
  have hn : 0 + 8 ≤ (cellsS a b n).length := by rw [cellsS_length, ha]; omega
  go_enter Tryd.func69, Tryd.ntmps69
  go_wp2_with (first
    | (with_reducible refine wpl_alloca (op := ⟨some 2, _, _, _, _, _⟩) rfl _ rfl _ zero8 ?_; intro g1 w1 hB1 hs1 hF1; have hb1 := hb.frm hF1 (fun h => h))
    | (with_reducible refine wpl_loada (op := ⟨some 8, _, _, _, _, _⟩) agg8 rfl _ rfl g 0 rfl _ _ _ hb1 HX.out hn ?_)
    | (with_reducible refine wpl_alloca (op := ⟨some 3, _, _, _, _, _⟩) rfl _ rfl _ zero8 ?_; intro g2 w2 hB2 hs2 hF2)
    | (with_reducible refine wpl_storea agg8 rfl (.tmp 3) (.tmp 8) rfl g2 (cellsW a) rfl rfl _ _ hB2 (by rw [cellsW_length, ha]) (by simp [cellsW]) (cellsW_one a) ?_; intro w3 hB3 hF3))
  have hp : (plus a firstL).length = a.length := plus_length _ _ (by rw [ha]; rfl)
  have hne : g1 ≠ g2 := by have := hB1.lt; omega
  have hst : StateInv w g1 g2 a 0 w3 := by
    have f12 : Frm (fun _ => False) w w2 := hF1.trans hF2 (fun _ _ h => h)
    have f13 : Frm (fun k => k = g2) w w3 := (f12.mono (T := fun k => k = g2) (fun _ _ h => h.elim)).trans hF3 (fun _ _ h => h)
    have hsz : w.heap.size < w1.heap.size := by have := hB1.lt; omega
    refine ⟨by rw [mix_zero]; exact hB3, (hB1.frm hF2 (fun h => h)).frm hF3 hne, hG.frm f13 (by omega) (by omega), f13.below (Nat.le_refl _) (by intro k hk; omega)⟩
  have hs12 : w.heap.size ≤ g2 := by have := hB1.lt; omega
  clear hb1 hB1 hB2 hB3 hF1 hF2 hF3 hb hn HX hG
  go_loopw [9] (fun i wr => ∃ k : Nat, k ≤ 8 ∧ i = .int .i64 k ∧ StateInv w g1 g2 a k wr) (fun i _ => 8 - (intOf i).toNat)
  case atStart => exact ⟨0, by omega, rfl, hst⟩
  case round =>
    obtain ⟨k, hk, rfl, hi⟩ := hrel
    by_cases hlt : k < 8
    · obtain ⟨x, hx⟩ : ∃ x, x = a.getD k 0 := ⟨_, rfl⟩
      obtain ⟨y, hy⟩ : ∃ y, y = firstL.getD k 0 := ⟨_, rfl⟩
      have hc1 : wr.cell? ⟨g2, k, none⟩ = some (.int .u32 (x : Nat)) := by
        rw [hi.blk.cell, hx]
        simp only [List.getElem?_toArray]
        rw [cellsW_get, mix_at _ _ _ hp (by omega), ← cellsW_get, cellsW_at _ _ (by omega)]
      have hf1 := hi.blk.frozen k
      have hc2 := hi.gl.first k hlt
      rw [← hy] at hc2
      have hadd : IntKind.u32.wrap ((x : Int) + (y : Int)) = (ad x y : Nat) := by rw [IntKind.wrap_u32']; exact ad_int _ _
      have hset := mix_set (plus a firstL) a k _ hp (by omega) (plus_at a firstL k (by omega) (by show k < 8; exact hlt))
      rw [← hx, ← hy] at hset
      have HS := hide hset
      clear hset
      have fin : StateInv w g1 g2 a (k + 1) (wr.drew.setCell ⟨g2, k, none⟩ (.int .u32 (ad x y : Nat))) := by
        have hb := hi.blk.set k (.int .u32 (ad x y : Nat))
        rw [List.setIfInBounds_toArray, cellsW_set, HS.out] at hb
        have fr : Frm (fun i => i = g2) wr (wr.drew.setCell ⟨g2, k, none⟩ (.int .u32 (ad x y : Nat))) := ((Frm.refl _ _).drew).trans (Frm.setCell _ _ _ (fun i => i = g2) rfl) (fun _ _ h => h)
        exact ⟨hb, hi.res.frm fr hne, hi.gl.frm fr (by omega) (by omega), below_frm hi.below fr hi.below.size (by intro i hi; omega)⟩
      have FIN := hide fin
      clear fin hx hy
      go_wp2_with fail
      go_still_tail 8, (by kernel_rfl)
      have hc1' : wr.drew.cell? ⟨g2, k, none⟩ = some (.int .u32 (x : Nat)) := hc1
      have hf1' : wr.drew.frozen? ⟨g2, k, none⟩ = false := hf1
      change wpList _ _ _ _ _ wr.drew
      go_wp2
      go_roundw
      case rel => exact ⟨k + 1, by omega, by go_num, FIN.out⟩
      case measure => simp [intOf]; omega
    · obtain rfl : k = 8 := by omega
      have hb := hi.blk
      rw [mix_all _ _ _ hp (by omega)] at hb
      have hl : (cellsW (plus a firstL)).length = 8 := by rw [cellsW_length, hp, ha]
      have HL := hide hl
      clear hl
      have hx0 : ((cellsW (plus a firstL)).drop 0).take 8 = cellsW (plus a firstL) := by rw [List.drop_zero, List.take_of_length_le (by rw [HL.out]; exact Nat.le_refl _)]
      have HX := hide hx0
      clear hx0
      have hres := hi.res
      have hbel := hi.below
      go_wp2_with (first
        | (with_reducible refine wpl_loada (op := ⟨some 21, _, _, _, _, _⟩) agg8 rfl _ rfl g2 0 rfl _ _ _ hb HX.out (by rw [HL.out]; exact Nat.le_refl _) ?_)
        | (with_reducible refine wpl_storea agg8 rfl (.tmp 2) (.tmp 21) rfl g1 (cellsW (plus a firstL)) rfl rfl _ _ hres HL.out (by simp [cellsW]) (cellsW_one _) ?_; intro w4 hB4 hF4))
      refine ret_agg agg8 rfl rfl g1 _ _ rfl hB4 HL.out ⟨rfl, below_frm hbel hF4 hbel.size (by intro i hi; omega)⟩
end Go.Proofs.YtjicnfkodieaaaaDoor
