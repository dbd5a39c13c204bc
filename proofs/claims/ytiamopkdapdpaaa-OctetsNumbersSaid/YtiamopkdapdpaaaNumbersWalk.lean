/-
  OctetsNumbers: the walk.
-/
import Derived.Test.YtiamopkdapdpaaaMore
import Derived.Deep.RegionHeld3
namespace Go.Proofs.Ytiamopkdapdpaaa
set_option linter.unusedVariables false
open Go.RowKit

theorem step_num (X : List UInt8) (s p : Nat) (B : Int) (hX : X.length = 8) (h : p + s ≤ 8) (hB : B = ((256 ^ s : Nat) : Int)) :
    IntKind.u64.wrap (IntKind.u64.wrap (((num (List.take p X) : Nat) : Int) * B) + IntKind.u64.wrap ((num (List.take s (List.drop p X)) : Nat) : Int)) = ((num (List.take (p + s) X) : Nat) : Int) := by
  have h1 : num (X.take (p + s)) = num (X.take p) * 256 ^ s + num (List.take s (List.drop p X)) := by
    rw [List.take_add, num_append, List.length_take, List.length_drop, hX, Nat.min_eq_left (by omega)]
  have h2 : num (X.take (p + s)) < 18446744073709551616 := Nat.lt_of_lt_of_le (num_take_lt X (p + s) 8 h) (by decide)
  simp only [IntKind.wrap_u64]
  rw [hB, ← Int.natCast_mul]
  omega
theorem step_num4 (X : List UInt8) (p : Nat) (hX : X.length = 8) (h : p + 4 ≤ 8) :
    IntKind.u64.wrap (IntKind.u64.wrap (((num (List.take p X) : Nat) : Int) * 4294967296) + IntKind.u64.wrap ((num (List.take 4 (List.drop p X)) : Nat) : Int)) = ((num (List.take (p + 4) X) : Nat) : Int) := step_num X 4 p 4294967296 hX h (by decide)
theorem step_num2 (X : List UInt8) (p : Nat) (hX : X.length = 8) (h : p + 2 ≤ 8) :
    IntKind.u64.wrap (IntKind.u64.wrap (((num (List.take p X) : Nat) : Int) * 65536) + IntKind.u64.wrap ((num (List.take 2 (List.drop p X)) : Nat) : Int)) = ((num (List.take (p + 2) X) : Nat) : Int) := step_num X 2 p 65536 hX h (by decide)
theorem step_num1 (X : List UInt8) (p : Nat) (hX : X.length = 8) (h : p + 1 ≤ 8) :
    IntKind.u64.wrap (IntKind.u64.wrap (((num (List.take p X) : Nat) : Int) * 256) + IntKind.u64.wrap ((num (List.take 1 (List.drop p X)) : Nat) : Int)) = ((num (List.take (p + 1) X) : Nat) : Int) := step_num X 1 p 256 hX h (by decide)

theorem num_one (X : List UInt8) (k : Nat) (h : k < X.length) : num (List.take 1 (List.drop k X)) = (X[k]'h).toNat := by
  rw [List.drop_eq_getElem_cons h, List.take_succ_cons, List.take_zero]
  show 0 * 256 + _ = _
  omega

theorem num4_lt (l : List UInt8) : num (List.take 4 l) < 4294967296 := Nat.lt_of_lt_of_le (num_take_lt l 4 4 (by omega)) (by decide)

/-- How many bytes are taken behind k rounds, s a round. -/
def upTo (s k : Nat) : Nat := min (s * k) 8

/-- What the loop keeps. -/
structure NumInv (X : List UInt8) (w : World) (ga gc gd gx gb : Nat) (da dc dd : Option Nat) (cb N k : Nat) (wr : World) : Prop where
  a : Rd wr ga da (X.drop (upTo 4 k))
  c : Rd wr gc dc (X.drop (upTo 2 k))
  d : Rd wr gd dd (X.drop k)
  x : ∃ dx, Wr wr gx dx (X.take (upTo 4 k)) ∧ ∀ j, dx = some j → N ≤ j
  b : wr.ownsRow 0 5 1 (.slice (some ⟨gb, 0, none⟩) 8 cb) 8 (cellsB X)
  bel : Below w.heap.size w wr
  size : N ≤ wr.heap.size

set_option maxHeartbeats 8000000 in
set_option maxRecDepth 100000 in
theorem numbers_walk (n : Int) (w : World) (hn0 : 0 ≤ n) (hn1 : n < 18446744073709551616) :
    Calls Try.prog 7 #[.int .u64 n] w fun e w' => e = .returned (.bool true) ∧ Below w.heap.size w w' := by
  have HX : Hid ((be 8 n.toNat).length = 8) := be_length _ _
  have HNUM : Hid (((num (be 8 n.toNat) : Nat) : Int) = n) := by rw [num_be 8 n.toNat (by omega)]; exact Int.toNat_of_nonneg hn0
  generalize hX : be 8 n.toNat = X at *
  have HXE := hide hX
  clear hX
  go_enter Try.func7, Try.ntmps7
  go_wp2_with fail
  refine (shown_any _).mono ?_
  rintro e w1 ⟨rfl, hb1⟩
  go_wp2_with fail
  have hsz := hb1.size
  have hwr1 := Wr.new w1
  have hbW := hb1.alloc hb1.size (.cells #[.slice none 0 0] 48)
  have hsz1 : w1.heap.size < (w1.alloc (.cells #[.slice none 0 0] 48)).heap.size := by simp
  generalize w1.alloc (.cells #[.slice none 0 0] 48) = W1 at *
  generalize w1.heap.size = gw at *
  refine (wu64_any gw none [] n _ hwr1 (by decide) hn0 hn1).mono ?_
  rintro e w2 ⟨rfl, d2, hwr2, hd2, hf2⟩
  rw [List.nil_append, HXE.out] at hwr2
  have hb2 := below_frm hbW hf2 hbW.size (fun k hk => by rcases hk with rfl | hk <;> first | omega | cases hk)
  clear hd2 hf2 hwr1 hbW hb1
  go_wp2_with fail
  refine (wdone_any gw d2 X _ hwr2 (by have := HX.out; omega)).mono ?_
  rintro e w3 ⟨Ab, cb, rfl, hownb, hb3⟩
  rw [cellsB_length, HX.out] at hownb ⊢
  obtain ⟨gb, cb', hv, hgb, hgb2⟩ := hownb.form (by omega)
  injection hv with hA _ hc
  subst hA hc
  have hb3' := hb2.trans (hb3.mono hb2.size)
  have hown3 : w3.ownsRow 0 5 1 (.slice (some ⟨gb, 0, none⟩) 8 cb) 8 (cellsB X) := ⟨hownb.1, hownb.2.imp id (fun ⟨g, cap, cur, h1, _, h2⟩ => ⟨g, cap, cur, h1, Nat.zero_le _, h2⟩)⟩
  have hrb : Rds w3 (some ⟨gb, 0, none⟩) 8 (cellsB X) := (Seg.of_own hown3).rds
  have hgbw : w.heap.size ≤ gb := Nat.le_trans hb2.size hgb
  clear hwr2 hownb hgb hb2 hb3
  go_wp2_with fail
  refine (read_any2 _ 8 cb X _ hrb (by omega)).mono ?_
  rintro e w4 ⟨ga, da, rfl, hra, hb4, hga, hda⟩
  have hb4' := hb3'.trans (hb4.mono hb3'.size)
  have Hda : Hid (∀ k, da = some k → gb < k ∧ k < ga) := fun k hk => ⟨by have := (hda k hk).1; omega, (hda k hk).2⟩
  have hrb4 := hrb.below hb4
  have hown4 := own_frm hown3 (Frm.of_below (S := fun _ => False) hb4) (fun _ _ h => h)
  have hga1 : gb < ga := by omega
  have hga2 := hra.lt
  clear hda hb4 hga hb3' hrb hown3 hgb2
  go_wp2_with fail
  refine (read_any2 _ 8 cb X _ hrb4 (by omega)).mono ?_
  rintro e w5 ⟨gc, dc, rfl, hrc, hb5, hgc, hdc⟩
  have hb5' := hb4'.trans (hb5.mono hb4'.size)
  have Hdc : Hid (∀ k, dc = some k → ga < k ∧ k < gc) := fun k hk => ⟨by have := (hdc k hk).1; omega, (hdc k hk).2⟩
  have hrb5 := hrb4.below hb5
  have hown5 := own_frm hown4 (Frm.of_below (S := fun _ => False) hb5) (fun _ _ h => h)
  have hra5 := hra.frm (Frm.of_below (S := fun _ => False) hb5) (fun h => h) (fun _ _ h => h)
  have hgc1 : ga < gc := by omega
  have hgc2 := hrc.lt
  clear hdc hb5 hgc hb4' hrb4 hown4 hra hga2
  go_wp2_with fail
  refine (read_any2 _ 8 cb X _ hrb5 (by omega)).mono ?_
  rintro e w6 ⟨gd, dd, rfl, hrd, hb6, hgd, hdd⟩
  have hb6' := hb5'.trans (hb6.mono hb5'.size)
  have Hdd : Hid (∀ k, dd = some k → gc < k ∧ k < gd) := fun k hk => ⟨by have := (hdd k hk).1; omega, (hdd k hk).2⟩
  have hown6 := own_frm hown5 (Frm.of_below (S := fun _ => False) hb6) (fun _ _ h => h)
  have hra6 := hra5.frm (Frm.of_below (S := fun _ => False) hb6) (fun h => h) (fun _ _ h => h)
  have hrc6 := hrc.frm (Frm.of_below (S := fun _ => False) hb6) (fun h => h) (fun _ _ h => h)
  have hgd1 : gc < gd := by omega
  have hgd2 := hrd.lt
  clear hdd hb6 hgd hb5' hrb5 hown5 hra5 hrc hgc2
  go_wp2_with fail
  have F : Frm (fun _ => False) w6 (w6.alloc (.cells #[.slice none 0 0] 48)) := Frm.alloc _ _ _
  have hinv : NumInv X w ga gc gd w6.heap.size gb da dc dd cb (w6.heap.size + 1) 0 (w6.alloc (.cells #[.slice none 0 0] 48)) :=
    ⟨hra6.frm F (fun h => h) (fun _ _ h => h), hrc6.frm F (fun h => h) (fun _ _ h => h), hrd.frm F (fun h => h) (fun _ _ h => h), ⟨none, Wr.new w6, fun j hj => by cases hj⟩, own_frm hown6 F (fun _ _ h => h), hb6'.alloc hb6'.size _, by simp⟩
  have hgx : gd < w6.heap.size := hgd2
  clear F hra6 hrc6 hrd hown6 hgd2
  generalize w6.alloc (.cells #[.slice none 0 0] 48) = W6 at *
  generalize w6.heap.size = gx at *
  have hb6w := hb6'.size
  go_loopw [10, 11, 12, 13] (fun x4 x2 x1 i wr => ∃ k : Nat, k ≤ 8 ∧ i = .int .i64 k ∧ x4 = .int .u64 (num (X.take (upTo 4 k))) ∧ x2 = .int .u64 (num (X.take (upTo 2 k))) ∧ x1 = .int .u64 (num (X.take k)) ∧ NumInv X w ga gc gd gx gb da dc dd cb (gx + 1) k wr) (fun _ _ _ i _ => 8 - (intOf i).toNat)
  case atStart => exact ⟨0, by omega, rfl, rfl, rfl, rfl, hinv⟩
  case round =>
    obtain ⟨k, hk, rfl, rfl, rfl, rfl, hi⟩ := hrel
    obtain ⟨hA, hC, hD, ⟨dx, hWx, hdx⟩, hB, hbel, hNs⟩ := hi
    have Hdx := hide hdx
    clear hdx
    by_cases h8 : k < 8
    · by_cases h2 : k < 2
      · skip
        have e4 : upTo 4 k = 4 * k := by unfold upTo; omega
        have e4' : upTo 4 (k + 1) = 4 * k + 4 := by unfold upTo; omega
        have E4 := hide e4
        have E4' := hide e4'
        rw [e4] at hA hWx
        simp only [e4]
        clear e4 e4'
        have hl4 : (X.drop (4 * k)).length ≤ 100000 := by rw [List.length_drop, HX.out]; omega
        have hlt4 : (X.take (4 * k)).length ≤ 100000 := by rw [List.length_take, HX.out]; omega
        have HB4 := hide (num4_lt (X.drop (4 * k)))
        go_wp2_with fail
        refine (u32_ok ga da (X.drop (4 * k)) _ hA (by rw [List.length_drop, HX.out]; omega) hl4).mono ?_
        rintro e w7 ⟨rfl, hA7, hf7⟩
        have hC7 := hC.frm hf7 (by omega) (fun k hk => by have := Hdc.out k hk; omega)
        have hD7 := hD.frm hf7 (by omega) (fun k hk => by have := Hdd.out k hk; omega)
        have hW7 := hWx.frm hf7 (by omega) (fun k hk => by have := Hdx.out k hk; omega)
        have hB7 := own_frm hB hf7 (fun k hk => by have : gb = k := Option.some.inj hk; omega)
        have hb7 := below_frm hbel hf7 hbel.size (fun k hk => by omega)
        have hs7 := hf7.size
        go_wp2_with fail
        refine (wu32_any gx dx (X.take (4 * k)) _ _ hW7 hlt4 (by omega) (by have := HB4.out; omega)).mono ?_
        rintro e w8 ⟨rfl, d8, hW8, hd8, hf8⟩
        rw [Int.toNat_natCast, be_num 4 _ (by rw [List.length_take, List.length_drop, HX.out]; omega), ← List.take_add] at hW8
        have HNX : Hid (∀ k, k < gx → ¬ (k = gx ∨ some k = dx)) := by
          intro k hk h
          rcases h with rfl | h
          · omega
          · have := Hdx.out k h.symm; omega
        have hA8 : Rd w8 ga da (X.drop (4 * k + 4)) := by
          have := hA7.frm hf8 (HNX.out ga (by omega)) (fun k hk => HNX.out k (by have := Hda.out k hk; omega))
          rwa [List.drop_drop] at this
        have hC8 := hC7.frm hf8 (HNX.out gc (by omega)) (fun k hk => HNX.out k (by have := Hdc.out k hk; omega))
        have hD8 := hD7.frm hf8 (HNX.out gd (by omega)) (fun k hk => HNX.out k (by have := Hdd.out k hk; omega))
        have hB8 := own_frm hB7 hf8 (fun k hk => HNX.out k (by have : gb = k := Option.some.inj hk; omega))
        have hb8 := below_frm hb7 hf8 hb7.size (fun k hk => by rcases hk with rfl | hk; omega; have := Hdx.out k hk.symm; omega)
        have Hd8 : Hid (∀ j, d8 = some j → gx + 1 ≤ j) := by
          intro j hj
          rcases hd8 with rfl | ⟨i, rfl, hi⟩
          · exact Hdx.out j hj
          · injection hj with hj; omega
        have hs8 := hf8.size
        have E4N := hide (step_num4 X (4 * k) HX.out (by omega))
        clear hA hC hD hWx hB hbel hA7 hC7 hD7 hW7 hB7 hb7 hf7 hf8 hd8
        have e2 : upTo 2 k = 2 * k := by unfold upTo; omega
        have e2' : upTo 2 (k + 1) = 2 * k + 2 := by unfold upTo; omega
        have E2 := hide e2
        have E2' := hide e2'
        rw [e2] at hC8
        simp only [e2]
        clear e2 e2'
        have hl2 : (X.drop (2 * k)).length ≤ 100000 := by rw [List.length_drop, HX.out]; omega
        go_wp2_with fail
        refine (u16_ok gc dc (X.drop (2 * k)) _ hC8 (by rw [List.length_drop, HX.out]; omega) hl2).mono ?_
        rintro e w9 ⟨rfl, hC9, hf9⟩
        rw [List.drop_drop] at hC9
        have hA9 := hA8.frm hf9 (by omega) (fun k hk => by have := Hda.out k hk; omega)
        have hD9 := hD8.frm hf9 (by omega) (fun k hk => by have := Hdd.out k hk; omega)
        have hW9 := hW8.frm hf9 (by omega) (fun k hk => by have := Hd8.out k hk; omega)
        have hB9 := own_frm hB8 hf9 (fun k hk => by have : gb = k := Option.some.inj hk; omega)
        have hb9 := below_frm hb8 hf9 hb8.size (fun k hk => by omega)
        have hs9 := hf9.size
        have E2N := hide (step_num2 X (2 * k) HX.out (by omega))
        clear hA8 hC8 hD8 hW8 hB8 hb8 hf9
        have hl1 : (X.drop k).length ≤ 100000 := by rw [List.length_drop, HX.out]; omega
        go_wp2_with fail
        refine (u8_ok gd dd (X.drop k) _ hD9 (by rw [List.length_drop, HX.out]; omega) hl1).mono ?_
        rintro e w10 ⟨rfl, hD10, hf10⟩
        rw [List.drop_drop] at hD10
        have hA10 := hA9.frm hf10 (by omega) (fun k hk => by have := Hda.out k hk; omega)
        have hC10 := hC9.frm hf10 (by omega) (fun k hk => by have := Hdc.out k hk; omega)
        have hW10 := hW9.frm hf10 (by omega) (fun k hk => by have := Hd8.out k hk; omega)
        have hB10 := own_frm hB9 hf10 (fun k hk => by have : gb = k := Option.some.inj hk; omega)
        have hb10 := below_frm hb9 hf10 hb9.size (fun k hk => by omega)
        have hs10 := hf10.size
        have E1N := hide (step_num1 X k HX.out (by omega))
        have hck : w10.cell? ⟨gb, k, none⟩ = some (.int .u8 ((num (List.take 1 (List.drop k X)) : Nat) : Int)) := by
          have h := hB10.cells (g := gb) rfl k (.int .u8 ((num (List.take 1 (List.drop k X)) : Nat) : Int)) (by
            rw [cellsB_get, List.getElem?_eq_getElem (by have := HX.out; omega), num_one X k (by have := HX.out; omega)]
            rfl)
          have hadd : (⟨gb, 0, none⟩ : Addr).add k = ⟨gb, k, none⟩ := by unfold Addr.add; split <;> simp_all
          rwa [hadd] at h
        go_wp2
        go_roundw
        case rel => exact ⟨k + 1, by omega, by go_num, by rw [E4'.out, E4N.out], by rw [E2'.out, E2N.out], by rw [E1N.out], ⟨by rw [E4'.out]; exact hA10, by rw [E2'.out]; exact hC10, hD10, ⟨_, by rw [E4'.out]; exact hW10, Hd8.out⟩, hB10, hb10, by omega⟩⟩
        case measure => simp [intOf]; omega
      · by_cases h4 : k < 4
        · skip
          have e4 : upTo 4 k = 8 := by unfold upTo; omega
          have e4' : upTo 4 (k + 1) = 8 := by unfold upTo; omega
          have E4 := hide e4
          have E4' := hide e4'
          rw [e4] at hA hWx
          simp only [e4]
          clear e4 e4'
          have hA8 := hA
          have hC8 := hC
          have hD8 := hD
          have hB8 := hB
          have hb8 := hbel
          have hW8 := hWx
          have Hd8 := Hdx
          obtain ⟨w8, hw8⟩ : ∃ w8, w8 = wr := ⟨_, rfl⟩
          subst hw8
          have hs8 : w8.heap.size ≤ w8.heap.size := Nat.le_refl _
          clear hA hC hD hWx hB hbel
          have e2 : upTo 2 k = 2 * k := by unfold upTo; omega
          have e2' : upTo 2 (k + 1) = 2 * k + 2 := by unfold upTo; omega
          have E2 := hide e2
          have E2' := hide e2'
          rw [e2] at hC8
          simp only [e2]
          clear e2 e2'
          have hl2 : (X.drop (2 * k)).length ≤ 100000 := by rw [List.length_drop, HX.out]; omega
          go_wp2_with fail
          refine (u16_ok gc dc (X.drop (2 * k)) _ hC8 (by rw [List.length_drop, HX.out]; omega) hl2).mono ?_
          rintro e w9 ⟨rfl, hC9, hf9⟩
          rw [List.drop_drop] at hC9
          have hA9 := hA8.frm hf9 (by omega) (fun k hk => by have := Hda.out k hk; omega)
          have hD9 := hD8.frm hf9 (by omega) (fun k hk => by have := Hdd.out k hk; omega)
          have hW9 := hW8.frm hf9 (by omega) (fun k hk => by have := Hd8.out k hk; omega)
          have hB9 := own_frm hB8 hf9 (fun k hk => by have : gb = k := Option.some.inj hk; omega)
          have hb9 := below_frm hb8 hf9 hb8.size (fun k hk => by omega)
          have hs9 := hf9.size
          have E2N := hide (step_num2 X (2 * k) HX.out (by omega))
          clear hA8 hC8 hD8 hW8 hB8 hb8 hf9
          have hl1 : (X.drop k).length ≤ 100000 := by rw [List.length_drop, HX.out]; omega
          go_wp2_with fail
          refine (u8_ok gd dd (X.drop k) _ hD9 (by rw [List.length_drop, HX.out]; omega) hl1).mono ?_
          rintro e w10 ⟨rfl, hD10, hf10⟩
          rw [List.drop_drop] at hD10
          have hA10 := hA9.frm hf10 (by omega) (fun k hk => by have := Hda.out k hk; omega)
          have hC10 := hC9.frm hf10 (by omega) (fun k hk => by have := Hdc.out k hk; omega)
          have hW10 := hW9.frm hf10 (by omega) (fun k hk => by have := Hd8.out k hk; omega)
          have hB10 := own_frm hB9 hf10 (fun k hk => by have : gb = k := Option.some.inj hk; omega)
          have hb10 := below_frm hb9 hf10 hb9.size (fun k hk => by omega)
          have hs10 := hf10.size
          have E1N := hide (step_num1 X k HX.out (by omega))
          have hck : w10.cell? ⟨gb, k, none⟩ = some (.int .u8 ((num (List.take 1 (List.drop k X)) : Nat) : Int)) := by
            have h := hB10.cells (g := gb) rfl k (.int .u8 ((num (List.take 1 (List.drop k X)) : Nat) : Int)) (by
              rw [cellsB_get, List.getElem?_eq_getElem (by have := HX.out; omega), num_one X k (by have := HX.out; omega)]
              rfl)
            have hadd : (⟨gb, 0, none⟩ : Addr).add k = ⟨gb, k, none⟩ := by unfold Addr.add; split <;> simp_all
            rwa [hadd] at h
          go_wp2
          go_roundw
          case rel => exact ⟨k + 1, by omega, by go_num, by rw [E4'.out], by rw [E2'.out, E2N.out], by rw [E1N.out], ⟨by rw [E4'.out]; exact hA10, by rw [E2'.out]; exact hC10, hD10, ⟨_, by rw [E4'.out]; exact hW10, Hd8.out⟩, hB10, hb10, by omega⟩⟩
          case measure => simp [intOf]; omega
        · skip
          have e4 : upTo 4 k = 8 := by unfold upTo; omega
          have e4' : upTo 4 (k + 1) = 8 := by unfold upTo; omega
          have E4 := hide e4
          have E4' := hide e4'
          rw [e4] at hA hWx
          simp only [e4]
          clear e4 e4'
          have hA8 := hA
          have hC8 := hC
          have hD8 := hD
          have hB8 := hB
          have hb8 := hbel
          have hW8 := hWx
          have Hd8 := Hdx
          obtain ⟨w8, hw8⟩ : ∃ w8, w8 = wr := ⟨_, rfl⟩
          subst hw8
          have hs8 : w8.heap.size ≤ w8.heap.size := Nat.le_refl _
          clear hA hC hD hWx hB hbel
          have e2 : upTo 2 k = 8 := by unfold upTo; omega
          have e2' : upTo 2 (k + 1) = 8 := by unfold upTo; omega
          have E2 := hide e2
          have E2' := hide e2'
          rw [e2] at hC8
          simp only [e2]
          clear e2 e2'
          have hA9 := hA8
          have hC9 := hC8
          have hD9 := hD8
          have hB9 := hB8
          have hb9 := hb8
          have hW9 := hW8
          have hs9 := hs8
          obtain ⟨w9, hw9⟩ : ∃ w9, w9 = w8 := ⟨_, rfl⟩
          subst hw9
          clear hA8 hC8 hD8 hW8 hB8 hb8
          have hl1 : (X.drop k).length ≤ 100000 := by rw [List.length_drop, HX.out]; omega
          go_wp2_with fail
          refine (u8_ok gd dd (X.drop k) _ hD9 (by rw [List.length_drop, HX.out]; omega) hl1).mono ?_
          rintro e w10 ⟨rfl, hD10, hf10⟩
          rw [List.drop_drop] at hD10
          have hA10 := hA9.frm hf10 (by omega) (fun k hk => by have := Hda.out k hk; omega)
          have hC10 := hC9.frm hf10 (by omega) (fun k hk => by have := Hdc.out k hk; omega)
          have hW10 := hW9.frm hf10 (by omega) (fun k hk => by have := Hd8.out k hk; omega)
          have hB10 := own_frm hB9 hf10 (fun k hk => by have : gb = k := Option.some.inj hk; omega)
          have hb10 := below_frm hb9 hf10 hb9.size (fun k hk => by omega)
          have hs10 := hf10.size
          have E1N := hide (step_num1 X k HX.out (by omega))
          have hck : w10.cell? ⟨gb, k, none⟩ = some (.int .u8 ((num (List.take 1 (List.drop k X)) : Nat) : Int)) := by
            have h := hB10.cells (g := gb) rfl k (.int .u8 ((num (List.take 1 (List.drop k X)) : Nat) : Int)) (by
              rw [cellsB_get, List.getElem?_eq_getElem (by have := HX.out; omega), num_one X k (by have := HX.out; omega)]
              rfl)
            have hadd : (⟨gb, 0, none⟩ : Addr).add k = ⟨gb, k, none⟩ := by unfold Addr.add; split <;> simp_all
            rwa [hadd] at h
          go_wp2
          go_roundw
          case rel => exact ⟨k + 1, by omega, by go_num, by rw [E4'.out], by rw [E2'.out], by rw [E1N.out], ⟨by rw [E4'.out]; exact hA10, by rw [E2'.out]; exact hC10, hD10, ⟨_, by rw [E4'.out]; exact hW10, Hd8.out⟩, hB10, hb10, by omega⟩⟩
          case measure => simp [intOf]; omega
    · obtain rfl : k = 8 := by omega
      have e4 : upTo 4 8 = 8 := rfl
      have e2 : upTo 2 8 = 8 := rfl
      have hT : List.take 8 X = X := List.take_of_length_le (by have := HX.out; omega)
      have hNn := HNUM.out
      rw [e4, hT] at hWx
      have hWD : Wr wr.drew gx dx X := hWx
      have hBD : wr.drew.ownsRow 0 5 1 (.slice (some ⟨gb, 0, none⟩) 8 cb) 8 (cellsB X) := hB
      have hcvb := conv_rds (P := Try.prog) wr.drew 22 9 5 Try.underlying22 Try.underlying5 Try.underlying9 (some ⟨gb, 0, none⟩) 8 cb X (Seg.of_own hBD).rds
      simp only [e4, e2, hT, hNn]
      go_wp2_with fail
      refine wp_region_held_drew (S := fun W => Sem.run Try.prog (convert 22 9 (.slice (some ⟨gb, 0, none⟩) 8 cb)) W = .ok (.string ⟨X.toArray⟩) W) (by kernel_rfl) (hcvb) ?_
      intro hHeld
      refine wpAnyH_take (i := 0) (v := ?v1) rfl (by kernel_rfl) (by kernel_rfl) (by kernel_rfl) (fun _ _ _ h => h) (Or.inl ⟨by rfl, ?hy1⟩) (by assumption) ?rest1
      case hy1 => (intro w hSw; (try dsimp only at hSw); go_simp; try with_reducible rfl)
      try simp only [Act.put, List.getElem_toArray, List.getElem_cons_zero, List.setIfInBounds_toArray, List.set_cons_zero, List.set_cons_succ]
      refine wpAnyH_take (i := 1) (v := ?v2) rfl (by kernel_rfl) (by kernel_rfl) (by kernel_rfl) (fun _ _ _ h => h) (Or.inl ⟨by rfl, ?hy2⟩) (by assumption) ?rest2
      case hy2 => (intro w hSw; (try dsimp only at hSw); go_simp; try with_reducible rfl)
      try simp only [Act.put, List.getElem_toArray, List.getElem_cons_zero, List.getElem_cons_succ, List.setIfInBounds_toArray, List.set_cons_zero, List.set_cons_succ]
      refine wpAnyH_take (i := 2) (v := ?v3) rfl (by kernel_rfl) (by kernel_rfl) (by kernel_rfl) (fun _ _ _ h => h) (Or.inl ⟨by rfl, ?hy3⟩) (by assumption) ?rest3
      case hy3 => (intro w hSw; (try dsimp only at hSw); go_simp; try with_reducible rfl)
      try simp only [Act.put, List.getElem_toArray, List.getElem_cons_zero, List.getElem_cons_succ, List.setIfInBounds_toArray, List.set_cons_zero, List.set_cons_succ]
      refine wpAnyH_take (i := 3) (v := ?v4) rfl (by kernel_rfl) (by kernel_rfl) (by kernel_rfl) (fun _ _ _ h => h) (Or.inl ⟨by rfl, ?hy4⟩) (by assumption) ?rest4
      case hy4 => (intro w hSw; (try dsimp only at hSw); go_simp; try with_reducible rfl)
      try simp only [Act.put, List.getElem_toArray, List.getElem_cons_zero, List.getElem_cons_succ, List.setIfInBounds_toArray, List.set_cons_zero, List.set_cons_succ]
      refine wpAnyH_take (i := 4) (v := ?v5) rfl (by kernel_rfl) (by kernel_rfl) (by kernel_rfl) (fun _ _ _ h => h) (Or.inl ⟨by rfl, ?hy5⟩) (by assumption) ?rest5
      case hy5 => (intro w hSw; (try dsimp only at hSw); go_simp; try with_reducible rfl)
      try simp only [Act.put, List.getElem_toArray, List.getElem_cons_zero, List.getElem_cons_succ, List.setIfInBounds_toArray, List.set_cons_zero, List.set_cons_succ]
      refine wpAnyH_take (i := 5) (v := ?v6) rfl (by kernel_rfl) (by kernel_rfl) (by kernel_rfl) (fun _ _ _ h => h) (Or.inl ⟨by rfl, ?hy6⟩) (by assumption) ?rest6
      case hy6 => (intro w hSw; (try dsimp only at hSw); go_simp; try with_reducible rfl)
      try simp only [Act.put, List.getElem_toArray, List.getElem_cons_zero, List.getElem_cons_succ, List.setIfInBounds_toArray, List.set_cons_zero, List.set_cons_succ]
      refine wpAnyH_take (i := 6) (v := ?v7) rfl (by kernel_rfl) (by kernel_rfl) (by kernel_rfl) (fun _ _ _ h => h) (Or.inl ⟨by rfl, ?hy7⟩) (by assumption) ?rest7
      case hy7 => (intro w hSw; (try dsimp only at hSw); go_simp; try with_reducible rfl)
      try simp only [Act.put, List.getElem_toArray, List.getElem_cons_zero, List.getElem_cons_succ, List.setIfInBounds_toArray, List.set_cons_zero, List.set_cons_succ]
      refine wpAnyH_take (i := 7) (v := ?v8) rfl (by kernel_rfl) (by kernel_rfl) (by kernel_rfl) (fun _ _ _ h => h) (Or.inl ⟨by rfl, ?hy8⟩) (by assumption) ?rest8
      case hy8 => (intro w hSw; (try dsimp only at hSw); go_simp; try with_reducible rfl)
      try simp only [Act.put, List.getElem_toArray, List.getElem_cons_zero, List.getElem_cons_succ, List.setIfInBounds_toArray, List.set_cons_zero, List.set_cons_succ]
      refine wpAnyH_take (i := 8) (v := ?v9) rfl (by kernel_rfl) (by kernel_rfl) (by kernel_rfl) (fun _ _ _ h => h) (Or.inl ⟨by rfl, ?hy9⟩) (by assumption) ?rest9
      case hy9 => (intro w hSw; (try dsimp only at hSw); go_simp; try with_reducible rfl)
      try simp only [Act.put, List.getElem_toArray, List.getElem_cons_zero, List.getElem_cons_succ, List.setIfInBounds_toArray, List.set_cons_zero, List.set_cons_succ]
      refine wpAnyH_take (i := 9) (v := ?v10) rfl (by kernel_rfl) (by kernel_rfl) (by kernel_rfl) (fun _ _ _ h => h) (Or.inl ⟨by rfl, ?hy10⟩) (by assumption) ?rest10
      case hy10 => (intro w hSw; (try dsimp only at hSw); go_simp; try with_reducible rfl)
      try simp only [Act.put, List.getElem_toArray, List.getElem_cons_zero, List.getElem_cons_succ, List.setIfInBounds_toArray, List.set_cons_zero, List.set_cons_succ]
      refine wpAnyH_take (i := 10) (v := ?v11) rfl (by kernel_rfl) (by kernel_rfl) (by kernel_rfl) (fun _ _ _ h => h) (Or.inl ⟨by rfl, ?hy11⟩) (by assumption) ?rest11
      case hy11 => (intro w hSw; (try dsimp only at hSw); go_simp; try with_reducible rfl)
      try simp only [Act.put, List.getElem_toArray, List.getElem_cons_zero, List.getElem_cons_succ, List.setIfInBounds_toArray, List.set_cons_zero, List.set_cons_succ]
      refine wpAnyH_take (i := 11) (v := ?v12) rfl (by kernel_rfl) (by kernel_rfl) (by kernel_rfl) (fun _ _ _ h => h) (Or.inl ⟨by rfl, ?hy12⟩) (by assumption) ?rest12
      case hy12 => (intro w hSw; (try dsimp only at hSw); go_simp; try with_reducible rfl)
      try simp only [Act.put, List.getElem_toArray, List.getElem_cons_zero, List.getElem_cons_succ, List.setIfInBounds_toArray, List.set_cons_zero, List.set_cons_succ]
      refine wpAnyH_take (i := 12) (v := ?v13) rfl (by kernel_rfl) (by kernel_rfl) (by kernel_rfl) (fun _ _ _ h => h) (Or.inl ⟨by rfl, ?hy13⟩) (by assumption) ?rest13
      case hy13 => (intro w hSw; (try dsimp only at hSw); go_simp; try with_reducible rfl)
      try simp only [Act.put, List.getElem_toArray, List.getElem_cons_zero, List.getElem_cons_succ, List.setIfInBounds_toArray, List.set_cons_zero, List.set_cons_succ]
      refine wpAnyH_take (i := 13) (v := ?v14) rfl (by kernel_rfl) (by kernel_rfl) (by kernel_rfl) (fun _ _ _ h => h) (Or.inl ⟨by rfl, ?hy14⟩) (by assumption) ?rest14
      case hy14 => (intro w hSw; (try dsimp only at hSw); go_simp; try with_reducible rfl)
      try simp only [Act.put, List.getElem_toArray, List.getElem_cons_zero, List.getElem_cons_succ, List.setIfInBounds_toArray, List.set_cons_zero, List.set_cons_succ]
      refine wpAnyH_take (i := 14) (v := ?v15) rfl (by kernel_rfl) (by kernel_rfl) (by kernel_rfl) (fun _ _ _ h => h) (Or.inl ⟨by rfl, ?hy15⟩) (by assumption) ?rest15
      case hy15 => (intro w hSw; (try dsimp only at hSw); go_simp; try with_reducible rfl)
      try simp only [Act.put, List.getElem_toArray, List.getElem_cons_zero, List.getElem_cons_succ, List.setIfInBounds_toArray, List.set_cons_zero, List.set_cons_succ]
      refine wpAnyH_take (i := 15) (v := ?v16) rfl (by kernel_rfl) (by kernel_rfl) (by kernel_rfl) (fun _ _ _ h => h) (Or.inl ⟨by rfl, ?hy16⟩) (by assumption) ?rest16
      case hy16 => (intro w hSw; (try dsimp only at hSw); go_simp; try with_reducible rfl)
      try simp only [Act.put, List.getElem_toArray, List.getElem_cons_zero, List.getElem_cons_succ, List.setIfInBounds_toArray, List.set_cons_zero, List.set_cons_succ]
      refine wpAnyH_take (i := 16) (v := ?v17) rfl (by kernel_rfl) (by kernel_rfl) (by kernel_rfl) (fun _ _ _ h => h) (Or.inl ⟨by rfl, ?hy17⟩) (by assumption) ?rest17
      case hy17 => (intro w hSw; (try dsimp only at hSw); go_simp; try with_reducible rfl)
      try simp only [Act.put, List.getElem_toArray, List.getElem_cons_zero, List.getElem_cons_succ, List.setIfInBounds_toArray, List.set_cons_zero, List.set_cons_succ]
      refine wpAnyH_take (i := 17) (v := ?v18) rfl (by kernel_rfl) (by kernel_rfl) (by kernel_rfl) (fun _ _ _ h => h) (Or.inl ⟨by rfl, ?hy18⟩) (by assumption) ?rest18
      case hy18 => (intro w hSw; (try dsimp only at hSw); go_simp; try with_reducible rfl)
      try simp only [Act.put, List.getElem_toArray, List.getElem_cons_zero, List.getElem_cons_succ, List.setIfInBounds_toArray, List.set_cons_zero, List.set_cons_succ]
      refine wpAnyH_take (i := 20) (v := ?v19) rfl (by kernel_rfl) (by kernel_rfl) (by kernel_rfl) (fun _ _ _ h => h) (Or.inl ⟨by rfl, ?hy19⟩) (by assumption) ?rest19
      case hy19 => (intro w hSw; (try dsimp only at hSw); go_simp; try with_reducible rfl)
      try simp only [Act.put, List.getElem_toArray, List.getElem_cons_zero, List.getElem_cons_succ, List.setIfInBounds_toArray, List.set_cons_zero, List.set_cons_succ]
      refine wpAnyH_take (i := 21) (v := ?v20) rfl (by kernel_rfl) (by kernel_rfl) (by kernel_rfl) (fun _ _ _ h => h) (Or.inl ⟨by rfl, ?hy20⟩) (by assumption) ?rest20
      case hy20 => (intro w hSw; (try dsimp only at hSw); go_simp; try with_reducible rfl)
      try simp only [Act.put, List.getElem_toArray, List.getElem_cons_zero, List.getElem_cons_succ, List.setIfInBounds_toArray, List.set_cons_zero, List.set_cons_succ]
      refine wpAnyH_ready (rs := [18]) (by kernel_rfl) (by simp) ?_
      refine AllReadyH.cons rfl (fun K hK => ?_) AllReadyH.nil
      go_simp
      refine (wdone_any gx dx X _ hWD (by have := HX.out; omega)).mono ?_
      rintro e w9 ⟨A9, c9, rfl, hown9, hb9⟩
      have hb9' := hbel.drew.trans (hb9.mono hbel.size)
      have hcv9 := conv_rds (P := Try.prog) w9 22 9 5 Try.underlying22 Try.underlying5 Try.underlying9 A9 _ c9 X (Seg.of_own hown9).rds
      have hcvb9 := conv_rds (P := Try.prog) w9 22 9 5 Try.underlying22 Try.underlying5 Try.underlying9 (some ⟨gb, 0, none⟩) 8 cb X ((Seg.of_own hBD).rds.below hb9)
      refine hK.out _ _ (hcvb9) (fun hHeld => ?_)
      clear hK K
      refine wpAnyH_ready (rs := [19]) (by kernel_rfl) (by simp) ?_
      refine AllReadyH.cons rfl (fun K hK => ?_) AllReadyH.nil
      go_simp
      refine hK.out _ _ (hcvb9) (fun hHeld => ?_)
      clear hK K
      refine wpAnyH_take (i := 22) (v := ?v21) rfl (by kernel_rfl) (by kernel_rfl) (by kernel_rfl) (fun _ _ _ h => h) (Or.inl ⟨by rfl, ?hy21⟩) (by assumption) ?rest21
      case hy21 => (intro w hSw; (try dsimp only at hSw); go_simp; try with_reducible rfl)
      try simp only [Act.put, List.getElem_toArray, List.getElem_cons_zero, List.getElem_cons_succ, List.setIfInBounds_toArray, List.set_cons_zero, List.set_cons_succ]
      refine wpAnyH_take (i := 23) (v := ?v22) rfl (by kernel_rfl) (by kernel_rfl) (by kernel_rfl) (fun _ _ _ h => h) (Or.inl ⟨by rfl, ?hy22⟩) (by assumption) ?rest22
      case hy22 => (intro w hSw; (try dsimp only at hSw); go_simp; try with_reducible rfl)
      try simp only [Act.put, List.getElem_toArray, List.getElem_cons_zero, List.getElem_cons_succ, List.setIfInBounds_toArray, List.set_cons_zero, List.set_cons_succ]
      refine wpAnyH_take (i := 24) (v := ?v23) rfl (by kernel_rfl) (by kernel_rfl) (by kernel_rfl) (fun _ _ _ h => h) (Or.inl ⟨by rfl, ?hy23⟩) (by assumption) ?rest23
      case hy23 => (intro w hSw; (try dsimp only at hSw); go_simp; try with_reducible rfl)
      try simp only [Act.put, List.getElem_toArray, List.getElem_cons_zero, List.getElem_cons_succ, List.setIfInBounds_toArray, List.set_cons_zero, List.set_cons_succ]
      refine wpAnyH_done (by kernel_rfl) ?_ _
      go_wp2
      go_ret
      exact ⟨rfl, hb9'⟩
end Go.Proofs.Ytiamopkdapdpaaa
