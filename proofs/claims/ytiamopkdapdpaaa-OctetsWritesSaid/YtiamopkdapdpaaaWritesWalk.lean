/-
  OctetsWrites: the walk.
-/
import Derived.Test.YtiamopkdapdpaaaPuts
import Derived.LaidEqlPtr
namespace Go.Proofs.Ytiamopkdapdpaaa
set_option linter.unusedVariables false
open Go.RowKit

theorem add_plus (a : Addr) (n j : Nat) (hj : 0 < j) : (⟨(a.add n).block, (a.add n).off + j, none⟩ : Addr) = a.add (n + j) := by
  unfold Addr.add
  by_cases h : n = 0 <;> simp [h, Nat.add_assoc] <;> omega

/-- A slice of puts: a kind, a size, a number, bytes. -/
def Puts4 (w : World) (A : Option Addr) (n : Nat) : Prop :=
  0 < n → ∃ a, A = some a ∧ ∀ i, i < n → ∃ (K Z : Int) (N : Nat) (Ab : Option Addr) (Lb Cb : Nat) (bl : List UInt8),
    w.cell? (a.add (i * 4)) = some (.int .i64 K) ∧ w.cell? (a.add (i * 4 + 1)) = some (.int .i64 Z) ∧ w.cell? (a.add (i * 4 + 2)) = some (.int .u64 (N : Int)) ∧ w.cell? (a.add (i * 4 + 3)) = some (.slice Ab Lb Cb) ∧
    -9223372036854775808 ≤ Z ∧ N < 18446744073709551616 ∧ Rds w Ab Lb (cellsB bl) ∧ Lb ≤ Cb ∧ Cb ≤ 9223372036854775807

theorem Wr.norm {w : World} {g : Nat} {d : Option Nat} {l : List UInt8} (h : Wr w g d l) : ∃ d', Wr w g d' l ∧ (d' = none ∨ d' = d) ∧ ∀ k, d' = some k → k < w.heap.size := by
  obtain ⟨v, h1, h2, h3⟩ := h
  exact ⟨v.ownBlock, ⟨v, h1, h2, .inr rfl⟩, h3, fun k hk => (h2.lt k hk).2⟩

/-- A writer's address is itself. -/
theorem eql_wr (g : Nat) (W : World) : Sem.run Try.prog (binOp .eql 46 (.pointer (some ⟨g, 0, none⟩)) (.pointer (some ⟨g, 0, none⟩))) W = .ok (.bool true) W := by
  obtain ⟨j, hj⟩ : ∃ j, Try.prog.info? 48 = some j := Option.isSome_iff_exists.1 (by kernel_rfl)
  exact run_eql_ptr_same W ⟨g, 0, none⟩ Try.underlying46 hj

/-- What the loop keeps. -/
structure WritesInv (w : World) (g : Nat) (d : Option Nat) (X : List UInt8) (wr : World) : Prop where
  r : Wr wr g d X
  d : ∀ q, d = some q → w.heap.size ≤ q ∧ q < wr.heap.size
  bel : Below w.heap.size w wr

set_option maxHeartbeats 8000000 in
set_option maxRecDepth 100000 in
theorem writes_walk_some (ad : Addr) (len0 cap0 : Nat) (w : World) (h0 : Puts4 w (some ad) len0) (hc0 : len0 ≤ cap0) (hm0 : cap0 ≤ 9223372036854775807) :
    Calls Try.prog 4 #[.slice (some ad) len0 cap0] w fun e w' => e = .returned (.bool true) ∧ Below w.heap.size w w' := by
  have HS := hide h0
  clear h0
  go_enter Try.func4, Try.ntmps4
  go_wp2_with fail
  refine (shown_any _).mono ?_
  rintro e w1 ⟨rfl, hb1⟩
  go_wp2_with fail
  have hWn := Wr.new w1
  have hbn := hb1.alloc hb1.size (.cells #[.slice none 0 0] 48)
  have hgw : w.heap.size ≤ w1.heap.size := hb1.size
  have hinv : WritesInv w w1.heap.size none [] (w1.alloc (.cells #[.slice none 0 0] 48)) := ⟨hWn, fun _ h => (by cases h), hbn⟩
  clear hWn hbn hb1
  generalize w1.alloc (.cells #[.slice none 0 0] 48) = W2 at *
  generalize w1.heap.size = g at *
  go_loopw [5, 6] (fun s i wr => ∃ (k : Nat) (d : Option Nat) (X : List UInt8), k ≤ len0 ∧ k ≤ 50 ∧ i = .int .i64 k ∧ s = .string ⟨X.toArray⟩ ∧ X.length ≤ 100 * k ∧ WritesInv w g d X wr) (fun _ i _ => 50 - (intOf i).toNat)
  case atStart => exact ⟨0, none, [], by omega, by omega, rfl, rfl, by simp, hinv⟩
  case round =>
    obtain ⟨k, d, X, hk1, hk2, rfl, rfl, hXl, ⟨hW, hd, hB⟩⟩ := hrel
    have Hd := hide hd
    clear hd
    have hX5 : X.length ≤ 5000 := by omega
    have hgl := hW.lt
    by_cases hlt : k < len0
    · by_cases hlt2 : k < 50
      · obtain ⟨ad', e1, hcell⟩ := HS.out (by omega)
        injection e1 with e1
        subst e1
        obtain ⟨K, Z, N, Ab, Lb, Cb, bl, c0, c1, c2, c3, hZ, hN, hRb, hLb, hCb⟩ := hcell k hlt
        have hk0 : wr.cell? (ad.add (k * 4)) = some (.int .i64 K) := (hB.cell (World.block_lt_of_cell? _ _ c0)).trans c0
        have hk1' : wr.cell? ⟨(ad.add (k * 4)).block, (ad.add (k * 4)).off + 1, none⟩ = some (.int .i64 Z) := by
          rw [add_plus _ _ _ (by omega)]
          exact (hB.cell (World.block_lt_of_cell? _ _ c1)).trans c1
        have hk2' : wr.cell? ⟨(ad.add (k * 4)).block, (ad.add (k * 4)).off + 2, none⟩ = some (.int .u64 (N : Int)) := by
          rw [add_plus _ _ _ (by omega)]
          exact (hB.cell (World.block_lt_of_cell? _ _ c2)).trans c2
        have hk3' : wr.cell? ⟨(ad.add (k * 4)).block, (ad.add (k * 4)).off + 3, none⟩ = some (.slice Ab Lb Cb) := by
          rw [add_plus _ _ _ (by omega)]
          exact (hB.cell (World.block_lt_of_cell? _ _ c3)).trans c3
        have HN := hide hN
        have HZ := hide hZ
        have HC := hide hCb
        have HRb := hide (hRb.below hB)
        clear c0 c1 c2 c3 hcell hN hZ hCb hRb
        go_wp2_with fail
        refine (puts_any K g d X Z N Ab Lb Cb _ hW (by omega) (fun q h => (Hd.out q h).2) HN.out HZ.out bl HRb.out hLb HC.out).mono ?_
        rintro e w5 ⟨x, hx, rfl, d5, hW5, hd5, hf5⟩
        have hB5 : Below w.heap.size w w5 := below_frm hB hf5 hB.size (fun q hq => by
          rcases hq with rfl | hq
          · omega
          · exact (Hd.out q hq.symm).1)
        have hs5 := hf5.size
        have hBs := hB.size
        obtain ⟨d6, hW6, hd6, hdl⟩ := hW5.norm
        have HD6 : Hid (∀ q, d6 = some q → w.heap.size ≤ q ∧ q < w5.heap.size) := by
          intro q hq
          refine ⟨?_, hdl q hq⟩
          rcases hd6 with h | h
          · rw [h] at hq; cases hq
          · rcases hd5 with h5 | ⟨j, h5, hj⟩
            · exact (Hd.out q (by rw [← h5, ← h]; exact hq)).1
            · rw [h, h5] at hq; injection hq with hq; omega
        clear hW5 hd5 hf5 hd6 hdl hk0 hk1' hk2' hk3' hW hB HRb HC HN HZ
        have hap : ((⟨X.toArray⟩ : ByteArray) ++ ⟨x.toArray⟩) = ⟨(X ++ x).toArray⟩ := txt_append X x
        have hXx : (X ++ x).length ≤ 100 * (k + 1) := by rw [List.length_append]; omega
        have hXx5 : (X ++ x).length ≤ 5000 := by omega
        go_wp2_with fail
        clear hap
        generalize X ++ x = Y at *
        refine (wdone_any g d6 Y _ hW6 (by omega)).mono ?_
        rintro e w6 ⟨A6, c6, rfl, hown6, hb6⟩
        rw [cellsB_length] at hown6 ⊢
        have hcv6 := conv_rds (P := Try.prog) w6 22 9 5 Try.underlying22 Try.underlying5 Try.underlying9 A6 _ c6 Y (Seg.of_own hown6).rds
        have hOA : OwnAny w6 w5.heap.size 5 A6 Y.length c6 := ⟨_, hown6⟩
        have hW7 := hW6.frm (Frm.of_below (S := fun _ => False) hb6) (fun h => h) (fun _ _ h => h)
        have hg6 := hW6.lt
        have hB6 := hB5.trans (hb6.mono hB5.size)
        have hs6 := hb6.size
        have hB5s := hB5.size
        clear hown6 hW6 hB5 hb6
        go_wp2_with fail
        go_loopw [8] (fun i wr3 => ∃ q : Nat, q ≤ Y.length ∧ i = .int .i64 q ∧ OwnAny wr3 w5.heap.size 5 A6 Y.length c6 ∧ Frm (fun x => w5.heap.size ≤ x) w6 wr3) (fun i _ => Y.length - (intOf i).toNat)
        case atStart => exact ⟨0, by omega, rfl, hOA, Frm.refl _ _⟩
        case round =>
          obtain ⟨q, hq, rfl, hOq, hFq⟩ := hrel
          by_cases hlq : q < Y.length
          · obtain ⟨g0, v0, hA0, hb0, hg0, hcq, hfq, hset⟩ := hOq.at hlq
            have HA0 := hide hA0
            have HSET := hide hset
            have hq0 : (0 : Int) ≤ (q : Int) := by omega
            have hqm : (q : Int) < ((Y.length : Nat) : Int) := by omega
            have had : (⟨g0, 0, none⟩ : Addr).add ((q : Int)).toNat = ⟨g0, q, none⟩ := by rw [Int.toNat_natCast]; exact add_zero_off g0 q
            have HAD := hide had
            clear hA0 hset had
            go_wp2_with (refine wpl_idx one_u8 rfl (.tmp 44) (.tmp 45) rfl _ A6 (Y.length) c6 (q : Int) rfl rfl ⟨g0, 0, none⟩ ⟨g0, q, none⟩ HA0.out hq0 hqm HAD.out ?_)
            go_roundw
            case rel => exact ⟨q + 1, by omega, by go_num, HSET.out _, hFq.trans (Frm.setCell _ _ _ (fun x => x = g0) rfl) (fun i _ hi => by omega)⟩
            case measure => simp [intOf]; omega
          · have hW8 := hW7.frm hFq (by omega) (fun k hk => by have := HD6.out k hk; omega)
            have hB8 := below_frm hB6 hFq hB6.size (fun k hk => by omega)
            have hs8 := hFq.size
            have HD8 : Hid (∀ q, d6 = some q → w.heap.size ≤ q ∧ q < wr.heap.size) := fun q hq => by have := HD6.out q hq; omega
            clear hOq hFq
            go_wp2
            go_roundw
            case rel => exact ⟨k + 1, d6, Y, by omega, by omega, by go_num, rfl, hXx, ⟨hW8, HD8.out, hB8⟩⟩
            case measure => simp [intOf]; omega
      · have hq2 : decide ((k : Int) < 50) = false := by simp; omega
        have hq1 : decide ((k : Int) < (len0 : Int)) = true := by simp; omega
        go_wp2_with fail
        refine (wu8_any g d X 1 _ hW (by omega) (by omega) (by omega)).mono ?_
        rintro e w5 ⟨rfl, d5, hW5, hd5, hf5⟩
        have hB5 : Below w.heap.size w w5 := below_frm hB hf5 hB.size (fun q hq => by
          rcases hq with rfl | hq
          · omega
          · exact (Hd.out q hq.symm).1)
        have HD5 : Hid (∀ q, d5 = some q → w.heap.size ≤ q) := by
          intro q hq
          have hBs := hB.size
          rcases hd5 with h5 | ⟨j, h5, hj⟩
          · exact (Hd.out q (by rw [← h5]; exact hq)).1
          · rw [h5] at hq; injection hq with hq; omega
        have e1 : be 1 (Int.toNat 1) = [1] := rfl
        rw [e1] at hW5
        have hap : ((⟨X.toArray⟩ : ByteArray) ++ ⟨#[1]⟩) = ⟨(X ++ [1]).toArray⟩ := txt_append X [1]
        have hY5 : (X ++ [1]).length ≤ 5001 := by rw [List.length_append, List.length_singleton]; omega
        have HAP := hide hap
        clear hap e1 hd5 hf5 hW hB
        go_wp2_with fail
        generalize X ++ [1] = Y at *
        refine (wbytes_any g d5 Y [] none 0 0 _ hW5 (by omega) ⟨rfl, fun h => by omega⟩ (by omega)).mono ?_
        rintro e w6 ⟨rfl, d6, hW6, hd6, hf6⟩
        have hB6 : Below w.heap.size w w6 := below_frm hB5 hf6 hB5.size (fun q hq => by
          rcases hq with rfl | hq
          · omega
          · exact HD5.out q hq.symm)
        have HD6 : Hid (∀ q, d6 = some q → w.heap.size ≤ q) := by
          intro q hq
          have hBs := hB5.size
          rcases hd6 with h5 | ⟨j, h5, hj⟩
          · exact HD5.out q (by rw [← h5]; exact hq)
          · rw [h5] at hq; injection hq with hq; omega
        rw [List.append_nil] at hW6
        have hq6 := eql_wr g w6
        clear hd6 hf6 hW5 hB5
        go_wp2_with fail
        refine (wzeros_any g d6 Y (-1) _ hW6 (by omega) (by omega)).mono ?_
        rintro e w7 ⟨rfl, d7, hW7, hd7, hf7⟩
        have e0 : List.replicate (Int.toNat (-1)) (0 : UInt8) = [] := rfl
        rw [e0, List.append_nil] at hW7
        have hB7 : Below w.heap.size w w7 := below_frm hB6 hf7 hB6.size (fun q hq => by
          rcases hq with rfl | hq
          · omega
          · exact HD6.out q hq.symm)
        have hq7 := eql_wr g w7
        clear hd7 hf7 hW6 hB6 e0 hq6
        go_wp2_with fail
        refine (wdone_any g d7 Y _ hW7 (by omega)).mono ?_
        rintro e w8 ⟨A8, c8, rfl, hown8, hb8⟩
        rw [cellsB_length] at hown8 ⊢
        have hcv8 := conv_rds (P := Try.prog) w8 22 9 5 Try.underlying22 Try.underlying5 Try.underlying9 A8 _ c8 Y (Seg.of_own hown8).rds
        have hB8 := hB7.trans (hb8.mono hB7.size)
        have hap := HAP.out
        go_wp2
        go_ret
        exact ⟨rfl, hB8⟩
    · have hq1 : decide ((k : Int) < (len0 : Int)) = false := by simp; omega
      go_wp2_with fail
      refine (wu8_any g d X 1 _ hW (by omega) (by omega) (by omega)).mono ?_
      rintro e w5 ⟨rfl, d5, hW5, hd5, hf5⟩
      have hB5 : Below w.heap.size w w5 := below_frm hB hf5 hB.size (fun q hq => by
        rcases hq with rfl | hq
        · omega
        · exact (Hd.out q hq.symm).1)
      have HD5 : Hid (∀ q, d5 = some q → w.heap.size ≤ q) := by
        intro q hq
        have hBs := hB.size
        rcases hd5 with h5 | ⟨j, h5, hj⟩
        · exact (Hd.out q (by rw [← h5]; exact hq)).1
        · rw [h5] at hq; injection hq with hq; omega
      have e1 : be 1 (Int.toNat 1) = [1] := rfl
      rw [e1] at hW5
      have hap : ((⟨X.toArray⟩ : ByteArray) ++ ⟨#[1]⟩) = ⟨(X ++ [1]).toArray⟩ := txt_append X [1]
      have hY5 : (X ++ [1]).length ≤ 5001 := by rw [List.length_append, List.length_singleton]; omega
      have HAP := hide hap
      clear hap e1 hd5 hf5 hW hB
      go_wp2_with fail
      generalize X ++ [1] = Y at *
      refine (wbytes_any g d5 Y [] none 0 0 _ hW5 (by omega) ⟨rfl, fun h => by omega⟩ (by omega)).mono ?_
      rintro e w6 ⟨rfl, d6, hW6, hd6, hf6⟩
      have hB6 : Below w.heap.size w w6 := below_frm hB5 hf6 hB5.size (fun q hq => by
        rcases hq with rfl | hq
        · omega
        · exact HD5.out q hq.symm)
      have HD6 : Hid (∀ q, d6 = some q → w.heap.size ≤ q) := by
        intro q hq
        have hBs := hB5.size
        rcases hd6 with h5 | ⟨j, h5, hj⟩
        · exact HD5.out q (by rw [← h5]; exact hq)
        · rw [h5] at hq; injection hq with hq; omega
      rw [List.append_nil] at hW6
      have hq6 := eql_wr g w6
      clear hd6 hf6 hW5 hB5
      go_wp2_with fail
      refine (wzeros_any g d6 Y (-1) _ hW6 (by omega) (by omega)).mono ?_
      rintro e w7 ⟨rfl, d7, hW7, hd7, hf7⟩
      have e0 : List.replicate (Int.toNat (-1)) (0 : UInt8) = [] := rfl
      rw [e0, List.append_nil] at hW7
      have hB7 : Below w.heap.size w w7 := below_frm hB6 hf7 hB6.size (fun q hq => by
        rcases hq with rfl | hq
        · omega
        · exact HD6.out q hq.symm)
      have hq7 := eql_wr g w7
      clear hd7 hf7 hW6 hB6 e0 hq6
      go_wp2_with fail
      refine (wdone_any g d7 Y _ hW7 (by omega)).mono ?_
      rintro e w8 ⟨A8, c8, rfl, hown8, hb8⟩
      rw [cellsB_length] at hown8 ⊢
      have hcv8 := conv_rds (P := Try.prog) w8 22 9 5 Try.underlying22 Try.underlying5 Try.underlying9 A8 _ c8 Y (Seg.of_own hown8).rds
      have hB8 := hB7.trans (hb8.mono hB7.size)
      have hap := HAP.out
      go_wp2
      go_ret
      exact ⟨rfl, hB8⟩
set_option maxHeartbeats 8000000 in
set_option maxRecDepth 100000 in
theorem writes_walk_none (len0 cap0 : Nat) (w : World) (h0 : Puts4 w none len0) (hc0 : len0 ≤ cap0) (hm0 : cap0 ≤ 9223372036854775807) :
    Calls Try.prog 4 #[.slice none len0 cap0] w fun e w' => e = .returned (.bool true) ∧ Below w.heap.size w w' := by
  have HS := hide h0
  clear h0
  go_enter Try.func4, Try.ntmps4
  go_wp2_with fail
  refine (shown_any _).mono ?_
  rintro e w1 ⟨rfl, hb1⟩
  go_wp2_with fail
  have hWn := Wr.new w1
  have hbn := hb1.alloc hb1.size (.cells #[.slice none 0 0] 48)
  have hgw : w.heap.size ≤ w1.heap.size := hb1.size
  have hinv : WritesInv w w1.heap.size none [] (w1.alloc (.cells #[.slice none 0 0] 48)) := ⟨hWn, fun _ h => (by cases h), hbn⟩
  clear hWn hbn hb1
  generalize w1.alloc (.cells #[.slice none 0 0] 48) = W2 at *
  generalize w1.heap.size = g at *
  go_loopw [5, 6] (fun s i wr => ∃ (k : Nat) (d : Option Nat) (X : List UInt8), k ≤ len0 ∧ k ≤ 50 ∧ i = .int .i64 k ∧ s = .string ⟨X.toArray⟩ ∧ X.length ≤ 100 * k ∧ WritesInv w g d X wr) (fun _ i _ => 50 - (intOf i).toNat)
  case atStart => exact ⟨0, none, [], by omega, by omega, rfl, rfl, by simp, hinv⟩
  case round =>
    obtain ⟨k, d, X, hk1, hk2, rfl, rfl, hXl, ⟨hW, hd, hB⟩⟩ := hrel
    have Hd := hide hd
    clear hd
    have hX5 : X.length ≤ 5000 := by omega
    have hgl := hW.lt
    by_cases hlt : k < len0
    · have hl0 : len0 = 0 := by
        rcases Nat.eq_zero_or_pos len0 with h | h
        · exact h
        · obtain ⟨a, h, _⟩ := HS.out h; cases h
      omega
    · have hq1 : decide ((k : Int) < (len0 : Int)) = false := by simp; omega
      go_wp2_with fail
      refine (wu8_any g d X 1 _ hW (by omega) (by omega) (by omega)).mono ?_
      rintro e w5 ⟨rfl, d5, hW5, hd5, hf5⟩
      have hB5 : Below w.heap.size w w5 := below_frm hB hf5 hB.size (fun q hq => by
        rcases hq with rfl | hq
        · omega
        · exact (Hd.out q hq.symm).1)
      have HD5 : Hid (∀ q, d5 = some q → w.heap.size ≤ q) := by
        intro q hq
        have hBs := hB.size
        rcases hd5 with h5 | ⟨j, h5, hj⟩
        · exact (Hd.out q (by rw [← h5]; exact hq)).1
        · rw [h5] at hq; injection hq with hq; omega
      have e1 : be 1 (Int.toNat 1) = [1] := rfl
      rw [e1] at hW5
      have hap : ((⟨X.toArray⟩ : ByteArray) ++ ⟨#[1]⟩) = ⟨(X ++ [1]).toArray⟩ := txt_append X [1]
      have hY5 : (X ++ [1]).length ≤ 5001 := by rw [List.length_append, List.length_singleton]; omega
      have HAP := hide hap
      clear hap e1 hd5 hf5 hW hB
      go_wp2_with fail
      generalize X ++ [1] = Y at *
      refine (wbytes_any g d5 Y [] none 0 0 _ hW5 (by omega) ⟨rfl, fun h => by omega⟩ (by omega)).mono ?_
      rintro e w6 ⟨rfl, d6, hW6, hd6, hf6⟩
      have hB6 : Below w.heap.size w w6 := below_frm hB5 hf6 hB5.size (fun q hq => by
        rcases hq with rfl | hq
        · omega
        · exact HD5.out q hq.symm)
      have HD6 : Hid (∀ q, d6 = some q → w.heap.size ≤ q) := by
        intro q hq
        have hBs := hB5.size
        rcases hd6 with h5 | ⟨j, h5, hj⟩
        · exact HD5.out q (by rw [← h5]; exact hq)
        · rw [h5] at hq; injection hq with hq; omega
      rw [List.append_nil] at hW6
      have hq6 := eql_wr g w6
      clear hd6 hf6 hW5 hB5
      go_wp2_with fail
      refine (wzeros_any g d6 Y (-1) _ hW6 (by omega) (by omega)).mono ?_
      rintro e w7 ⟨rfl, d7, hW7, hd7, hf7⟩
      have e0 : List.replicate (Int.toNat (-1)) (0 : UInt8) = [] := rfl
      rw [e0, List.append_nil] at hW7
      have hB7 : Below w.heap.size w w7 := below_frm hB6 hf7 hB6.size (fun q hq => by
        rcases hq with rfl | hq
        · omega
        · exact HD6.out q hq.symm)
      have hq7 := eql_wr g w7
      clear hd7 hf7 hW6 hB6 e0 hq6
      go_wp2_with fail
      refine (wdone_any g d7 Y _ hW7 (by omega)).mono ?_
      rintro e w8 ⟨A8, c8, rfl, hown8, hb8⟩
      rw [cellsB_length] at hown8 ⊢
      have hcv8 := conv_rds (P := Try.prog) w8 22 9 5 Try.underlying22 Try.underlying5 Try.underlying9 A8 _ c8 Y (Seg.of_own hown8).rds
      have hB8 := hB7.trans (hb8.mono hB7.size)
      have hap := HAP.out
      go_wp2
      go_ret
      exact ⟨rfl, hB8⟩

theorem writes_walk (a0 : Option Addr) (len0 cap0 : Nat) (w : World) (h0 : Puts4 w a0 len0) (hc0 : len0 ≤ cap0) (hm0 : cap0 ≤ 9223372036854775807) :
    Calls Try.prog 4 #[.slice a0 len0 cap0] w fun e w' => e = .returned (.bool true) ∧ Below w.heap.size w w' := by
  rcases a0 with _ | ad
  · exact writes_walk_none len0 cap0 w h0 hc0 hm0
  · exact writes_walk_some ad len0 cap0 w h0 hc0 hm0
end Go.Proofs.Ytiamopkdapdpaaa
