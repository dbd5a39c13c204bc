/-
  The schedule of a block.
-/
import Derived.Test.YtjicnfkodieaaaaDoorSha2
import Derived.Deep.RegionHeld3
namespace Go.Proofs.YtjicnfkodieaaaaDoor
set_option linter.unusedVariables false
open Go.RowKit

theorem sch_pre (l : List Nat) (n m j : Nat) (h : n ≤ m) (hj : j < l.length + n) : (sch l m)[j]? = (sch l n)[j]? := by
  induction m with
  | zero => obtain rfl : n = 0 := by omega
            rfl
  | succ m ih =>
    rcases Nat.lt_or_ge m n with h' | h'
    · obtain rfl : n = m + 1 := by omega
      rfl
    · rw [sch, List.getElem?_append_left (by rw [sch_length]; omega), ih h']
theorem wNext_congr (l m : List Nat) (i : Nat) (hi : 16 ≤ i) (h : ∀ j, j < i → l[j]? = m[j]?) : wNext l i = wNext m i := by
  unfold wNext
  simp only [List.getD_eq_getElem?_getD]
  rw [h (i - 2) (by omega), h (i - 7) (by omega), h (i - 15) (by omega), h (i - 16) (by omega)]
theorem sch_at (l : List Nat) (N n : Nat) (hl : l.length = 16) (h : n < N) : (sch l N)[16 + n]? = some (wNext (sch l N) (16 + n)) := by
  rw [sch_pre l (n + 1) N (16 + n) (by omega) (by omega), sch, List.getElem?_append_right (by rw [sch_length]; omega), sch_length, hl, Nat.sub_self, List.getElem?_cons_zero]
  exact congrArg some (wNext_congr _ _ _ (by omega) (fun j hj => (sch_pre l n N j (by omega) (by omega)).symm))
theorem schedN_at (b : List UInt8) (i : Nat) (h1 : 16 ≤ i) (h2 : i < 64) : (schedN b)[i]? = some (wNext (schedN b) i) := by
  obtain ⟨n, rfl⟩ : ∃ n, i = 16 + n := ⟨i - 16, by omega⟩
  exact sch_at (words b) 48 n (words_length b) (by omega)
theorem schedN_low (b : List UInt8) (i : Nat) (h : i < 16) : (schedN b)[i]? = (words b)[i]? := sch_pre (words b) 0 48 i (by omega) (by rw [words_length]; omega)

/-- The first sixteen words, and noughts. -/
def low16 (b : List UInt8) : List Nat := words b ++ List.replicate 48 0
theorem low16_length (b : List UInt8) : (low16 b).length = 64 := by simp [low16, words_length]
theorem low16_mix (b : List UInt8) : mix (low16 b) (List.replicate 64 0) 16 = mix (schedN b) (low16 b) 16 := by
  have h1 : (low16 b).take 16 = words b := by rw [low16, List.take_append_of_le_length (by rw [words_length]; exact Nat.le_refl _), List.take_of_length_le (by rw [words_length]; exact Nat.le_refl _)]
  have h2 : (schedN b).take 16 = words b := by
    apply List.ext_getElem?
    intro i
    rw [List.getElem?_take]
    split
    · exact schedN_low b i (by assumption)
    · rw [List.getElem?_eq_none (by rw [words_length]; omega)]
  have h3 : (low16 b).drop 16 = List.replicate 48 0 := by rw [low16, List.drop_append_of_le_length (by rw [words_length]; exact Nat.le_refl _), List.drop_eq_nil_of_le (by rw [words_length]; exact Nat.le_refl _), List.nil_append]
  rw [mix, mix, h1, h2, h3]
  rfl
theorem low16_at (b : List UInt8) (k : Nat) (h : k < 16) : (low16 b)[k]? = some (num ((b.drop (4 * k)).take 4)) := by
  rw [low16, List.getElem?_append_left (by rw [words_length]; exact h)]
  simp [words, h]
theorem mix_low {α : Type} (new old : List α) (k j : Nat) (h : new.length = old.length) (hj : j < k) (hk : j < old.length) : (mix new old k)[j]? = new[j]? := by
  rw [mix, List.getElem?_append_left (by simp; omega), List.getElem?_take, if_pos hj]
theorem drop_take4 (b : List UInt8) (i : Nat) (h : i + 4 ≤ b.length) : (b.drop i).take 4 = [b.getD i 0, b.getD (i + 1) 0, b.getD (i + 2) 0, b.getD (i + 3) 0] := by
  apply List.ext_getElem?
  intro j
  rw [List.getElem?_take]
  split
  · rename_i hj
    rw [List.getElem?_drop]
    have : j = 0 ∨ j = 1 ∨ j = 2 ∨ j = 3 := by omega
    have e0 := List.getElem?_eq_getElem (l := b) (i := i) (by omega)
    have e1 := List.getElem?_eq_getElem (l := b) (i := i + 1) (by omega)
    have e2 := List.getElem?_eq_getElem (l := b) (i := i + 2) (by omega)
    have e3 := List.getElem?_eq_getElem (l := b) (i := i + 3) (by omega)
    rcases this with rfl | rfl | rfl | rfl <;> simp [List.getD_eq_getElem?_getD, e0, e1, e2, e3]
  · rename_i hj
    rw [List.getElem?_eq_none (by simp; omega)]

/-- A byte of a stream's block. -/
theorem cellsS_left (a : List Nat) (b : List UInt8) (n i : Nat) (ha : a.length = 8) (hi : i < b.length) : (cellsS a b n)[8 + i]? = some (.int .u8 ((b.getD i 0).toNat : Int)) := by
  rw [cellsS, List.getElem?_append_right (by rw [cellsW_length]; omega), cellsW_length, ha, List.getElem?_append_left (by rw [cellsB_length]; omega), cellsB_get]
  rw [show 8 + i - 8 = i by omega, List.getElem?_eq_getElem hi]
  simp [List.getD_eq_getElem?_getD, List.getElem?_eq_getElem hi]

theorem cell_set_ne (w : World) (g i j : Nat) (v : Value) (h : i ≠ j) : (w.setCell ⟨g, i, none⟩ v).cell? ⟨g, j, none⟩ = w.cell? ⟨g, j, none⟩ := by
  simp only [World.setCell, World.cell?, Array.getElem?_modify]
  cases hq : w.heap[g]? with
  | none => simp
  | some o => cases o <;> simp [h]

structure SchedInv (w : World) (g g1 g2 : Nat) (cs : List Value) (l : List Nat) (wr : World) : Prop where
  src : Blk wr g 101 cs.toArray
  blk : Blk wr g2 140 (cellsW l).toArray
  res : Blk wr g1 140 (cellsW (List.replicate 64 0)).toArray
  below : Below w.heap.size w wr

theorem SchedInv.set {w : World} {g g1 g2 : Nat} {cs : List Value} {l : List Nat} {wr : World} (h : SchedInv w g g1 g2 cs l wr) (h1 : g ≠ g2) (h2 : g1 ≠ g2) (h3 : w.heap.size ≤ g2) (q k x : Nat) : SchedInv w g g1 g2 cs (l.set k x) ((wr.drewN q).setCell ⟨g2, k, none⟩ (.int .u32 (x : Int))) := by
  have hb := Blk.set (w := wr.drewN q) h.blk k (.int .u32 (x : Int))
  rw [List.setIfInBounds_toArray, cellsW_set] at hb
  have fr : Frm (fun i => i = g2) wr ((wr.drewN q).setCell ⟨g2, k, none⟩ (.int .u32 (x : Int))) := ((Frm.refl _ _).drewN q).trans (Frm.setCell _ _ _ (fun i => i = g2) rfl) (fun _ _ h => h)
  exact ⟨h.src.frm fr h1, hb, h.res.frm fr h2, below_frm h.below fr h.below.size (by intro i hi; omega)⟩

set_option maxHeartbeats 4000000 in
theorem schedule_any (g : Nat) (a : List Nat) (b : List UInt8) (n : Nat) (w : World) (hb : Blk w g 101 (cellsS a b n).toArray) (ha : a.length = 8) (hbl : b.length = 64) :
    Calls Tryd.prog 85 #[.pointer (some ⟨g, 8, none⟩)] w fun e w' => e = .returned (.agg (cellsW (schedN b)).toArray) ∧ Below w.heap.size w w' := by
  have hlt := hb.lt
  go_enter Tryd.func85, Tryd.ntmps85
  go_wp2_with (first
    | (with_reducible refine wpl_alloca (op := ⟨some 2, _, _, _, _, _⟩) rfl _ rfl _ zero64 ?_; intro g1 w1 hB1 hs1 hF1)
    | (with_reducible refine wpl_alloca (op := ⟨some 3, _, _, _, _, _⟩) rfl _ rfl _ zero64 ?_; intro g2 w2 hB2 hs2 hF2))
  have hne1 : g ≠ g2 := by have := hB1.lt; omega
  have hne2 : g1 ≠ g2 := by have := hB1.lt; omega
  have hs3 : w.heap.size ≤ g2 := by have := hB1.lt; omega
  have hs4 : w.heap.size ≤ g1 := hs1
  have hst : SchedInv w g g1 g2 (cellsS a b n) (List.replicate 64 0) w2 := by
    have f12 : Frm (fun _ => False) w w2 := hF1.trans hF2 (fun _ _ h => h)
    exact ⟨hb.frm f12 (fun h => h), hB2, hB1.frm hF2 (fun h => h), f12.below (Nat.le_refl _) (fun _ h => h.elim)⟩
  have Hbl := hide hbl
  have Hal := hide ha
  clear hb hB1 hB2 hF1 hF2 hs1 hs2 ha hbl
  go_loopw [6] (fun i wr => ∃ k : Nat, k ≤ 16 ∧ i = .int .i64 k ∧ SchedInv w g g1 g2 (cellsS a b n) (mix (low16 b) (List.replicate 64 0) k) wr) (fun i _ => 16 - (intOf i).toNat)
  case atStart => exact ⟨0, by omega, rfl, by rw [mix_zero]; exact hst⟩
  case round =>
    obtain ⟨k, hk, rfl, hi⟩ := hrel
    by_cases hlt : k < 16
    · have hc : ∀ j, 4 * k + j < 64 → wr.cell? ⟨g, 8 + (4 * k + j), none⟩ = some (.int .u8 ((b.getD (4 * k + j) 0).toNat : Int)) := by
        intro j hj
        rw [hi.src.cell]
        simp only [List.getElem?_toArray]
        exact cellsS_left a b n _ Hal.out (by rw [Hbl.out]; exact hj)
      have h0 := hc 0 (by omega)
      have h1 := hc 1 (by omega)
      have h2 := hc 2 (by omega)
      have h3 := hc 3 (by omega)
      clear hc
      have hset := mix_set (low16 b) (List.replicate 64 0) k _ (by rw [low16_length]; rfl) (by rw [List.length_replicate]; omega) (low16_at b k hlt)
      rw [drop_take4 b (4 * k) (by rw [Hbl.out]; omega)] at hset
      simp only [Nat.add_zero, ← Nat.add_assoc] at h0 h1 h2 h3
      generalize b.getD (4 * k) 0 = b0 at *
      generalize b.getD (4 * k + 1) 0 = b1 at *
      generalize b.getD (4 * k + 2) 0 = b2 at *
      generalize b.getD (4 * k + 3) 0 = b3 at *
      have fin : ∀ q, SchedInv w g g1 g2 (cellsS a b n) (mix (low16 b) (List.replicate 64 0) (k + 1)) ((wr.drewN q).setCell ⟨g2, k, none⟩ (.int .u32 (num [b0, b1, b2, b3] : Nat))) := by
        intro q
        have := hi.set hne1 hne2 hs3 q k (num [b0, b1, b2, b3])
        rwa [hset] at this
      have FIN := hide fin
      have hcell : (wr.cell? ⟨g2, k, none⟩).isSome = true := by
        rw [hi.blk.cell]
        have h64 : (cellsW (mix (low16 b) (List.replicate 64 0) k)).length = 64 := by rw [cellsW_length, mix_length _ _ _ (by rw [low16_length]; rfl)]; rfl
        rw [List.getElem?_toArray, List.getElem?_eq_getElem (by rw [h64]; omega)]
        rfl
      obtain ⟨vo, hvo⟩ := Option.isSome_iff_exists.1 hcell
      have hfr := hi.blk.frozen k
      have Q1 : Hid (∀ q, (wr.drewN q).cell? ⟨g2, k, none⟩ = some vo ∧ (wr.drewN q).frozen? ⟨g2, k, none⟩ = false) := fun q => ⟨hvo, hfr⟩
      have H0 := hide h0
      have H1 := hide h1
      have H2 := hide h2
      have H3 := hide h3
      clear fin hset hcell hvo hfr h0 h1 h2 h3
      have hsl : ∀ w, Sem.run Tryd.prog (Instr.sliceAt 99 (.pointer (some ⟨g, 8, none⟩)) (some (.int .i64 (4 * (k : Int)))) none none) w = .ok (.slice (some ⟨g, 8 + 4 * k, none⟩) (64 - 4 * k) (64 - 4 * k)) w := fun w => by
        have := run_slice_arr (P := Tryd.prog) (t := 99) (e := 5) (N := 64) (by kernel_rfl) (by kernel_rfl) g 8 .i64 (4 * k) (by omega) w
        simpa using this
      go_wp2_with fail
      refine (number_any g (8 + 4 * k) (64 - 4 * k) (64 - 4 * k) b0 b1 b2 b3 wr (by omega) (by omega) H0.out H1.out H2.out H3.out).mono ?_
      rintro e w4 ⟨rfl, q, rfl⟩
      obtain ⟨q1, q2⟩ := Q1.out q
      have FQ := hide (FIN.out q)
      generalize num [b0, b1, b2, b3] = nn at *
      go_wp2_with fail
      go_roundw
      case rel => exact ⟨k + 1, by omega, by go_num, FQ.out⟩
      case measure => simp [intOf]; omega
    · obtain rfl : k = 16 := by omega
      rw [low16_mix] at hi
      go_wp2_with fail
      go_loopw [5] (fun i wr => ∃ k : Nat, 16 ≤ k ∧ k ≤ 64 ∧ i = .int .i64 k ∧ SchedInv w g g1 g2 (cellsS a b n) (mix (schedN b) (low16 b) k) wr) (fun i _ => 64 - (intOf i).toNat)
      case atStart => exact ⟨16, by omega, by omega, rfl, hi⟩
      case round =>
        clear hi
        obtain ⟨k, hk1, hk2, rfl, hi⟩ := hrel
        have hlen : (schedN b).length = (low16 b).length := by rw [schedN_length, low16_length]
        by_cases hlt : k < 64
        · have hc : ∀ j, j < k → wr.cell? ⟨g2, j, none⟩ = some (.int .u32 ((schedN b).getD j 0 : Nat)) := by
            intro j hj
            rw [hi.blk.cell, List.getElem?_toArray, cellsW_get, mix_low _ _ _ _ hlen hj (by rw [low16_length]; omega), ← cellsW_get, cellsW_at _ _ (by rw [schedN_length]; omega)]
          have h2 := hc (k - 2) (by omega)
          have h7 := hc (k - 7) (by omega)
          have h15 := hc (k - 15) (by omega)
          have h16 := hc (k - 16) (by omega)
          clear hc
          have hset := mix_set (schedN b) (low16 b) k _ hlen (by rw [low16_length]; omega) (schedN_at b k hk1 hlt)
          unfold wNext at hset
          have l2 := (schedN_ws b).get (k - 2)
          have l15 := (schedN_ws b).get (k - 15)
          generalize (schedN b).getD (k - 2) 0 = x2 at *
          generalize (schedN b).getD (k - 7) 0 = x7 at *
          generalize (schedN b).getD (k - 15) 0 = x15 at *
          generalize (schedN b).getD (k - 16) 0 = x16 at *
          have hcell : (wr.cell? ⟨g2, k, none⟩).isSome = true := by
            have h64 : (cellsW (mix (schedN b) (low16 b) k)).length = 64 := by rw [cellsW_length, mix_length _ _ _ hlen, low16_length]
            rw [hi.blk.cell, List.getElem?_toArray, List.getElem?_eq_getElem (by rw [h64]; omega)]
            rfl
          obtain ⟨vo, hvo⟩ := Option.isSome_iff_exists.1 hcell
          have hfr := hi.blk.frozen k
          have e1 : IntKind.u32.wrap (((tasN x2 17 19 10 : Nat) : Int) + (x7 : Int)) = (ad (tasN x2 17 19 10) x7 : Nat) := by rw [IntKind.wrap_u32']; exact ad_int _ _
          have e2 : IntKind.u32.wrap (((ad (tasN x2 17 19 10) x7 : Nat) : Int) + ((tasN x15 7 18 3 : Nat) : Int)) = (ad (ad (tasN x2 17 19 10) x7) (tasN x15 7 18 3) : Nat) := by rw [IntKind.wrap_u32']; exact ad_int _ _
          have e3 : IntKind.u32.wrap (((ad (ad (tasN x2 17 19 10) x7) (tasN x15 7 18 3) : Nat) : Int) + (x16 : Int)) = (ad (ad (ad (tasN x2 17 19 10) x7) (tasN x15 7 18 3)) x16 : Nat) := by rw [IntKind.wrap_u32']; exact ad_int _ _
          have fin : ∀ q, SchedInv w g g1 g2 (cellsS a b n) (mix (schedN b) (low16 b) (k + 1)) ((wr.drewN q).setCell ⟨g2, k, none⟩ (.int .u32 (ad (ad (ad (tasN x2 17 19 10) x7) (tasN x15 7 18 3)) x16 : Nat))) := by
            intro q
            have := hi.set hne1 hne2 hs3 q k (ad (ad (ad (tasN x2 17 19 10) x7) (tasN x15 7 18 3)) x16)
            rwa [hset] at this
          have FIN := hide fin
          have HE := hide hset
          have HD := hide (show (wr.cell? ⟨g2, k - 2, none⟩ = some (.int .u32 (x2 : Nat)) ∧ wr.cell? ⟨g2, k - 7, none⟩ = some (.int .u32 (x7 : Nat)) ∧ wr.cell? ⟨g2, k - 15, none⟩ = some (.int .u32 (x15 : Nat)) ∧ wr.cell? ⟨g2, k - 16, none⟩ = some (.int .u32 (x16 : Nat))) from ⟨h2, h7, h15, h16⟩)
          have HF := hide (show wr.cell? ⟨g2, k, none⟩ = some vo ∧ wr.frozen? ⟨g2, k, none⟩ = false from ⟨hvo, hfr⟩)
          have hL := hlen
          clear fin hset hcell hvo hfr h2 h7 h15 h16 hlen hL
          have i2 : IntKind.i64.wrap ((k : Int) - 2) = (k : Int) - 2 := IntWalk.i64_in _ (by omega)
          have i7 : IntKind.i64.wrap ((k : Int) - 7) = (k : Int) - 7 := IntWalk.i64_in _ (by omega)
          have i15 : IntKind.i64.wrap ((k : Int) - 15) = (k : Int) - 15 := IntWalk.i64_in _ (by omega)
          have i16 : IntKind.i64.wrap ((k : Int) - 16) = (k : Int) - 16 := IntWalk.i64_in _ (by omega)
          have j2 : ((k : Int) - 2).toNat = k - 2 := by omega
          have j7 : ((k : Int) - 7).toNat = k - 7 := by omega
          have j15 : ((k : Int) - 15).toNat = k - 15 := by omega
          have j16 : ((k : Int) - 16).toNat = k - 16 := by omega
          have a2 : (0 : Int) ≤ (k : Int) - 2 := by omega
          have a7 : (0 : Int) ≤ (k : Int) - 7 := by omega
          have a15 : (0 : Int) ≤ (k : Int) - 15 := by omega
          have a16 : (0 : Int) ≤ (k : Int) - 16 := by omega
          have c2 : (2 : Int) ≤ (k : Int) := by omega
          have c7 : (7 : Int) ≤ (k : Int) := by omega
          have c15 : (15 : Int) ≤ (k : Int) := by omega
          have c16 : (16 : Int) ≤ (k : Int) := by omega
          have b2 : (k : Int) - 2 < 64 := by omega
          have b7 : (k : Int) - 7 < 64 := by omega
          have b15 : (k : Int) - 15 < 64 := by omega
          have b16 : (k : Int) - 16 < 64 := by omega
          go_wp2_with fail
          refine wp_region_held_drew (S := fun W => W.cell? ⟨g2, k - 2, none⟩ = some (.int .u32 (x2 : Nat)) ∧ W.cell? ⟨g2, k - 7, none⟩ = some (.int .u32 (x7 : Nat)) ∧ W.cell? ⟨g2, k - 15, none⟩ = some (.int .u32 (x15 : Nat)) ∧ W.cell? ⟨g2, k - 16, none⟩ = some (.int .u32 (x16 : Nat))) (by kernel_rfl) (HD.out) ?_
          intro hHeld
          refine wpAnyH_take (i := 0) (v := ?v1) rfl (by kernel_rfl) (by kernel_rfl) (by kernel_rfl) (fun _ _ _ h => h) (Or.inl ⟨by rfl, ?hy1⟩) (by assumption) ?rest1
          case hy1 => (intro w hSw; (try dsimp only at hSw); go_simp; try with_reducible rfl)
          try simp only [Act.put, List.getElem_toArray, List.getElem_cons_zero, List.setIfInBounds_toArray, List.set_cons_zero, List.set_cons_succ]
          refine wpAnyH_take (i := 1) (v := ?v2) rfl (by kernel_rfl) (by kernel_rfl) (by kernel_rfl) (fun _ _ _ h => h) (Or.inl ⟨by rfl, ?hy2⟩) (by assumption) ?rest2
          case hy2 => (intro w hSw; (try dsimp only at hSw); go_simp; try with_reducible rfl)
          try simp only [Act.put, List.getElem_toArray, List.getElem_cons_zero, List.getElem_cons_succ, List.setIfInBounds_toArray, List.set_cons_zero, List.set_cons_succ]
          refine wpAnyH_take (i := 2) (v := ?v3) rfl (by kernel_rfl) (by kernel_rfl) (by kernel_rfl) (fun _ _ _ h => h) (Or.inl ⟨by rfl, ?hy3⟩) (by assumption) ?rest3
          case hy3 => (intro w hSw; (try dsimp only at hSw); go_simp; try with_reducible rfl)
          try simp only [Act.put, List.getElem_toArray, List.getElem_cons_zero, List.getElem_cons_succ, List.setIfInBounds_toArray, List.set_cons_zero, List.set_cons_succ]
          refine wpAnyH_take (i := 3) (v := ?v4) rfl (by kernel_rfl) (by kernel_rfl) (by kernel_rfl) (fun _ _ _ h => h) (Or.inl ⟨by rfl, ?hy4⟩) (by assumption) ?rest4
          case hy4 => (intro w hSw; (try dsimp only at hSw); go_simp; try with_reducible rfl)
          try simp only [Act.put, List.getElem_toArray, List.getElem_cons_zero, List.getElem_cons_succ, List.setIfInBounds_toArray, List.set_cons_zero, List.set_cons_succ]
          refine wpAnyH_take (i := 4) (v := ?v5) rfl (by kernel_rfl) (by kernel_rfl) (by kernel_rfl) (fun _ _ _ h => h) (Or.inl ⟨by rfl, ?hy5⟩) (by assumption) ?rest5
          case hy5 => (intro w hSw; (try dsimp only at hSw); go_simp; try with_reducible rfl)
          try simp only [Act.put, List.getElem_toArray, List.getElem_cons_zero, List.getElem_cons_succ, List.setIfInBounds_toArray, List.set_cons_zero, List.set_cons_succ]
          refine wpAnyH_take (i := 6) (v := ?v6) rfl (by kernel_rfl) (by kernel_rfl) (by kernel_rfl) (fun _ _ _ h => h) (Or.inl ⟨by rfl, ?hy6⟩) (by assumption) ?rest6
          case hy6 => (intro w hSw; (try dsimp only at hSw); go_simp; try with_reducible rfl)
          try simp only [Act.put, List.getElem_toArray, List.getElem_cons_zero, List.getElem_cons_succ, List.setIfInBounds_toArray, List.set_cons_zero, List.set_cons_succ]
          refine wpAnyH_take (i := 7) (v := ?v7) rfl (by kernel_rfl) (by kernel_rfl) (by kernel_rfl) (fun _ _ _ h => h) (Or.inl ⟨by rfl, ?hy7⟩) (by assumption) ?rest7
          case hy7 => (intro w hSw; (try dsimp only at hSw); go_simp; try with_reducible rfl)
          try simp only [Act.put, List.getElem_toArray, List.getElem_cons_zero, List.getElem_cons_succ, List.setIfInBounds_toArray, List.set_cons_zero, List.set_cons_succ]
          refine wpAnyH_take (i := 8) (v := ?v8) rfl (by kernel_rfl) (by kernel_rfl) (by kernel_rfl) (fun _ _ _ h => h) (Or.inl ⟨by rfl, ?hy8⟩) (by assumption) ?rest8
          case hy8 => (intro w hSw; (try dsimp only at hSw); go_simp; try with_reducible rfl)
          try simp only [Act.put, List.getElem_toArray, List.getElem_cons_zero, List.getElem_cons_succ, List.setIfInBounds_toArray, List.set_cons_zero, List.set_cons_succ]
          refine wpAnyH_take (i := 9) (v := ?v9) rfl (by kernel_rfl) (by kernel_rfl) (by kernel_rfl) (fun _ _ _ h => h) (Or.inl ⟨by rfl, ?hy9⟩) (by assumption) ?rest9
          case hy9 => (intro w hSw; (try dsimp only at hSw); go_simp; try with_reducible rfl)
          try simp only [Act.put, List.getElem_toArray, List.getElem_cons_zero, List.getElem_cons_succ, List.setIfInBounds_toArray, List.set_cons_zero, List.set_cons_succ]
          refine wpAnyH_take (i := 11) (v := ?v10) rfl (by kernel_rfl) (by kernel_rfl) (by kernel_rfl) (fun _ _ _ h => h) (Or.inl ⟨by rfl, ?hy10⟩) (by assumption) ?rest10
          case hy10 => (intro w hSw; (try dsimp only at hSw); go_simp; try with_reducible rfl)
          try simp only [Act.put, List.getElem_toArray, List.getElem_cons_zero, List.getElem_cons_succ, List.setIfInBounds_toArray, List.set_cons_zero, List.set_cons_succ]
          refine wpAnyH_take (i := 12) (v := ?v11) rfl (by kernel_rfl) (by kernel_rfl) (by kernel_rfl) (fun _ _ _ h => h) (Or.inl ⟨by rfl, ?hy11⟩) (by assumption) ?rest11
          case hy11 => (intro w hSw; (try dsimp only at hSw); go_simp; try with_reducible rfl)
          try simp only [Act.put, List.getElem_toArray, List.getElem_cons_zero, List.getElem_cons_succ, List.setIfInBounds_toArray, List.set_cons_zero, List.set_cons_succ]
          refine wpAnyH_take (i := 13) (v := ?v12) rfl (by kernel_rfl) (by kernel_rfl) (by kernel_rfl) (fun _ _ _ h => h) (Or.inl ⟨by rfl, ?hy12⟩) (by assumption) ?rest12
          case hy12 => (intro w hSw; (try dsimp only at hSw); go_simp; try with_reducible rfl)
          try simp only [Act.put, List.getElem_toArray, List.getElem_cons_zero, List.getElem_cons_succ, List.setIfInBounds_toArray, List.set_cons_zero, List.set_cons_succ]
          refine wpAnyH_take (i := 14) (v := ?v13) rfl (by kernel_rfl) (by kernel_rfl) (by kernel_rfl) (fun _ _ _ h => h) (Or.inl ⟨by rfl, ?hy13⟩) (by assumption) ?rest13
          case hy13 => (intro w hSw; (try dsimp only at hSw); go_simp; try with_reducible rfl)
          try simp only [Act.put, List.getElem_toArray, List.getElem_cons_zero, List.getElem_cons_succ, List.setIfInBounds_toArray, List.set_cons_zero, List.set_cons_succ]
          refine wpAnyH_take (i := 17) (v := ?v14) rfl (by kernel_rfl) (by kernel_rfl) (by kernel_rfl) (fun _ _ _ h => h) (Or.inl ⟨by rfl, ?hy14⟩) (by assumption) ?rest14
          case hy14 => (intro w hSw; (try dsimp only at hSw); go_simp; try with_reducible rfl)
          try simp only [Act.put, List.getElem_toArray, List.getElem_cons_zero, List.getElem_cons_succ, List.setIfInBounds_toArray, List.set_cons_zero, List.set_cons_succ]
          refine wpAnyH_take (i := 18) (v := ?v15) rfl (by kernel_rfl) (by kernel_rfl) (by kernel_rfl) (fun _ _ _ h => h) (Or.inl ⟨by rfl, ?hy15⟩) (by assumption) ?rest15
          case hy15 => (intro w hSw; (try dsimp only at hSw); go_simp; try with_reducible rfl)
          try simp only [Act.put, List.getElem_toArray, List.getElem_cons_zero, List.getElem_cons_succ, List.setIfInBounds_toArray, List.set_cons_zero, List.set_cons_succ]
          refine wpAnyH_take (i := 19) (v := ?v16) rfl (by kernel_rfl) (by kernel_rfl) (by kernel_rfl) (fun _ _ _ h => h) (Or.inl ⟨by rfl, ?hy16⟩) (by assumption) ?rest16
          case hy16 => (intro w hSw; (try dsimp only at hSw); go_simp; try with_reducible rfl)
          try simp only [Act.put, List.getElem_toArray, List.getElem_cons_zero, List.getElem_cons_succ, List.setIfInBounds_toArray, List.set_cons_zero, List.set_cons_succ]
          refine wpAnyH_take (i := 20) (v := ?v17) rfl (by kernel_rfl) (by kernel_rfl) (by kernel_rfl) (fun _ _ _ h => h) (Or.inl ⟨by rfl, ?hy17⟩) (by assumption) ?rest17
          case hy17 => (intro w hSw; (try dsimp only at hSw); go_simp; try with_reducible rfl)
          try simp only [Act.put, List.getElem_toArray, List.getElem_cons_zero, List.getElem_cons_succ, List.setIfInBounds_toArray, List.set_cons_zero, List.set_cons_succ]
          refine wpAnyH_ready (rs := [5]) (by kernel_rfl) (by simp) ?_
          refine AllReadyH.cons rfl (fun K hK => ?_) AllReadyH.nil
          go_simp
          refine (tas_any x2 17 19 10 _ l2 (by decide) (by decide) (by decide) (by decide) (by decide) (by decide)).mono ?_
          rintro e w5 ⟨rfl, qw5, rfl⟩
          refine hK.out _ _ (HD.out) (fun hHeld => ?_)
          clear hK K
          refine wpAnyH_take (i := 10) (v := ?v18) rfl (by kernel_rfl) (by kernel_rfl) (by kernel_rfl) (fun _ _ _ h => h) (Or.inl ⟨by rfl, ?hy18⟩) (by assumption) ?rest18
          case hy18 => (intro w hSw; (try dsimp only at hSw); go_simp; try with_reducible rfl)
          try simp only [Act.put, List.getElem_toArray, List.getElem_cons_zero, List.getElem_cons_succ, List.setIfInBounds_toArray, List.set_cons_zero, List.set_cons_succ]
          refine wpAnyH_ready (rs := [15]) (by kernel_rfl) (by simp) ?_
          refine AllReadyH.cons rfl (fun K hK => ?_) AllReadyH.nil
          go_simp
          refine (tas_any x15 7 18 3 _ l15 (by decide) (by decide) (by decide) (by decide) (by decide) (by decide)).mono ?_
          rintro e w6 ⟨rfl, qw6, rfl⟩
          refine hK.out _ _ (HD.out) (fun hHeld => ?_)
          clear hK K
          refine wpAnyH_take (i := 16) (v := ?v19) rfl (by kernel_rfl) (by kernel_rfl) (by kernel_rfl) (fun _ _ _ h => h) (Or.inl ⟨by rfl, ?hy19⟩) (by assumption) ?rest19
          case hy19 => (intro w hSw; (try dsimp only at hSw); go_simp; try with_reducible rfl)
          try simp only [Act.put, List.getElem_toArray, List.getElem_cons_zero, List.getElem_cons_succ, List.setIfInBounds_toArray, List.set_cons_zero, List.set_cons_succ]
          refine wpAnyH_take (i := 21) (v := ?v20) rfl (by kernel_rfl) (by kernel_rfl) (by kernel_rfl) (fun _ _ _ h => h) (Or.inl ⟨by rfl, ?hy20⟩) (by assumption) ?rest20
          case hy20 => (intro w hSw; (try dsimp only at hSw); go_simp; try with_reducible rfl)
          try simp only [Act.put, List.getElem_toArray, List.getElem_cons_zero, List.getElem_cons_succ, List.setIfInBounds_toArray, List.set_cons_zero, List.set_cons_succ]
          refine wpAnyH_take (i := 22) (v := ?v21) rfl (by kernel_rfl) (by kernel_rfl) (by kernel_rfl) (fun _ _ _ h => h) (Or.inl ⟨by rfl, ?hy21⟩) (by assumption) ?rest21
          case hy21 => (intro w hSw; (try dsimp only at hSw); go_simp; try with_reducible rfl)
          try simp only [Act.put, List.getElem_toArray, List.getElem_cons_zero, List.getElem_cons_succ, List.setIfInBounds_toArray, List.set_cons_zero, List.set_cons_succ]
          obtain ⟨hvo, hfr⟩ := HF.out
          refine wpAnyH_ready (rs := [23]) (by kernel_rfl) (by simp) ?_
          refine AllReadyH.cons rfl (fun K hK => ?_) AllReadyH.nil
          go_simp
          refine hK.out _ _ (⟨(cell_set_ne _ _ _ _ _ (by omega)).trans HD.out.1, (cell_set_ne _ _ _ _ _ (by omega)).trans HD.out.2.1, (cell_set_ne _ _ _ _ _ (by omega)).trans HD.out.2.2.1, (cell_set_ne _ _ _ _ _ (by omega)).trans HD.out.2.2.2⟩) (fun hHeld => ?_)
          clear hK K
          refine wpAnyH_done (by kernel_rfl) ?_ _
          have FQ := hide (FIN.out (1 + qw5 + qw6))
          go_wp2
          go_roundw
          case rel => first | exact ⟨k + 1, by omega, by omega, by go_num, FQ.out⟩ | ((repeat apply Exists.intro); exact ⟨⟨k + 1, by omega, by omega, by go_num, FQ.out⟩, rfl⟩)
          case measure => simp [intOf]; omega
        · obtain rfl : k = 64 := by omega
          have hb := hi.blk
          rw [mix_all _ _ _ hlen (by rw [low16_length]; omega)] at hb
          have hl : (cellsW (schedN b)).length = 64 := by rw [cellsW_length, schedN_length]
          have HL := hide hl
          clear hl hlen
          have hx0 : ((cellsW (schedN b)).drop 0).take 64 = cellsW (schedN b) := by rw [List.drop_zero, List.take_of_length_le (by rw [HL.out]; exact Nat.le_refl _)]
          have HX := hide hx0
          clear hx0
          have hres := hi.res
          have hbel := hi.below
          go_wp2_with (first
            | (with_reducible refine wpl_loada (op := ⟨some 45, _, _, _, _, _⟩) agg64 rfl _ rfl g2 0 rfl _ _ _ hb HX.out (by rw [HL.out]; exact Nat.le_refl _) ?_)
            | (with_reducible refine wpl_storea agg64 rfl (.tmp 2) (.tmp 45) rfl g1 (cellsW (schedN b)) rfl rfl _ _ hres HL.out (by simp [cellsW]) (cellsW_one _) ?_; intro w4 hB4 hF4))
          refine ret_agg agg64 rfl rfl g1 _ _ rfl hB4 HL.out ⟨rfl, below_frm hbel hF4 hbel.size (by intro i hi; omega)⟩
end Go.Proofs.YtjicnfkodieaaaaDoor
