/-
  ShaRoots, walked.
-/
import Derived.Test.YtbicjcpdcopbhaaDoorRo5
import Derived.Test.YtbicjcpdcopbhaaDoorRo6
namespace Go.Proofs.YtbicjcpdcopbhaaDoor
set_option linter.unusedVariables false
set_option linter.unusedSimpArgs false
open Go.RowKit

def longL : List UInt8 := [97, 98, 99, 100, 98, 99, 100, 101, 99, 100, 101, 102, 100, 101, 102, 103, 101, 102, 103, 104, 102, 103, 104, 105, 103, 104, 105, 106, 104, 105, 106, 107, 105, 106, 107, 108, 106, 107, 108, 109, 107, 108, 109, 110, 108, 109, 110, 111, 109, 110, 111, 112, 110, 111, 112, 113]
theorem hex_long : hexB (shaL longL) = ⟨#[50, 52, 56, 100, 54, 97, 54, 49, 100, 50, 48, 54, 51, 56, 98, 56, 101, 53, 99, 48, 50, 54, 57, 51, 48, 99, 51, 101, 54, 48, 51, 57, 97, 51, 51, 99, 101, 52, 53, 57, 54, 52, 102, 102, 50, 49, 54, 55, 102, 54, 101, 99, 101, 100, 100, 52, 49, 57, 100, 98, 48, 54, 99, 49]⟩ := by kernel_rfl
theorem and255 (x : Int) (h0 : 0 ≤ x) (h1 : x < 256) : bits .and .u8 x 255 = x := by
  obtain ⟨n, rfl⟩ := Int.eq_ofNat_of_zero_le h0
  have h : n < 256 := by omega
  have := u8_and_nat n 255 h (by omega)
  have h2 : n &&& 255 = n := by rw [show (255 : Nat) = 2 ^ 8 - 1 from rfl, Nat.and_two_pow_sub_one_eq_mod]; omega
  rw [h2] at this
  exact this

set_option maxHeartbeats 8000000 in
set_option maxRecDepth 100000 in
theorem roots_walk (a0 : Int) (w : World) (hG : Gl w) (hg0 : 2 ≤ w.heap.size) (hb : 0 ≤ a0 ∧ a0 < 256) :
    Calls Tryd.prog 6 #[.int .u8 a0] w fun e w' => e = .returned (.bool true) ∧ Below w.heap.size w w' := by
  have h255 := and255 a0 hb.1 hb.2
  go_enter Tryd.func6, Tryd.ntmps6
  go_wp2_with fail
  refine (shown_run w hG hg0).mono ?_
  rintro e w1 ⟨rfl, hR⟩
  have HR := hide hR
  clear hR hG
  go_wp2_with fail
  go_loopw [4] (fun x wr => ∃ i : Nat, i ≤ 64 ∧ x = .int .i64 i ∧ Run w wr) (fun x _ => 64 - (intOf x).toNat)
  case atStart => exact ⟨0, by omega, rfl, HR.out⟩
  case round =>
    clear HR
    obtain ⟨i, hi, rfl, hr⟩ := hrel
    by_cases hlt : i < 64
    · by_cases h8 : i < 8
      · go_wp2_with fail
        refine (prime_any i wr hlt).mono ?_
        rintro e w2 ⟨⟨q, rfl, hp, hq, hq3⟩, rfl⟩
        obtain ⟨hk1, hk2⟩ := roots q hq3 hp
        rw [hq] at hk1 hk2
        obtain ⟨P, hP⟩ : ∃ P, P = q + 2 := ⟨_, rfl⟩
        rw [← hP] at hk1 hk2 ⊢
        have HK := hide (k_any i w2 hlt)
        have HH := hide (fun W => h_any i W h8)
        rw [hk1] at HK
        rw [hk2 h8] at HH
        have h8' : (i : Int) < 8 := by omega
        clear hP hp hq hq3 hk1 hk2
        go_wp2_with fail
        refine HK.out.mono ?_
        rintro e w3 ⟨rfl, b3⟩
        go_wp2_with fail
        refine (root_true P w3).mono ?_
        rintro e w4 ⟨rfl, b4⟩
        generalize rootL P true = rt at *
        go_wp2_with fail
        refine (HH.out w4).mono ?_
        rintro e w5 ⟨rfl, b5⟩
        go_wp2_with fail
        refine (root_false P w5).mono ?_
        rintro e w6 ⟨rfl, b6⟩
        generalize rootL P false = rf at *
        have R6 := hide ((((hr.frm (Frm.of_below (S := fun _ => False) b3) (fun _ h => h.elim)).frm (Frm.of_below (S := fun _ => False) b4) (fun _ h => h.elim)).frm (Frm.of_below (S := fun _ => False) b5) (fun _ h => h.elim)).frm (Frm.of_below (S := fun _ => False) b6) (fun _ h => h.elim))
        go_wp2_with fail
        go_roundw
        case rel => first | exact ⟨i + 1, by omega, by go_num, R6.out⟩ | ((repeat apply Exists.intro); exact ⟨⟨i + 1, by omega, by go_num, R6.out⟩, rfl⟩)
        case measure => simp [intOf]; omega
      · go_wp2_with fail
        refine (prime_any i wr hlt).mono ?_
        rintro e w2 ⟨⟨q, rfl, hp, hq, hq3⟩, rfl⟩
        obtain ⟨hk1, _⟩ := roots q hq3 hp
        rw [hq] at hk1
        obtain ⟨P, hP⟩ : ∃ P, P = q + 2 := ⟨_, rfl⟩
        rw [← hP] at hk1 ⊢
        have HK := hide (k_any i w2 hlt)
        rw [hk1] at HK
        have h8' : ¬ ((i : Int) < 8) := by omega
        clear hP hp hq hq3 hk1
        go_wp2_with fail
        refine HK.out.mono ?_
        rintro e w3 ⟨rfl, b3⟩
        go_wp2_with fail
        refine (root_true P w3).mono ?_
        rintro e w4 ⟨rfl, b4⟩
        generalize rootL P true = rt at *
        have R4 := hide ((hr.frm (Frm.of_below (S := fun _ => False) b3) (fun _ h => h.elim)).frm (Frm.of_below (S := fun _ => False) b4) (fun _ h => h.elim))
        go_wp2_with fail
        go_roundw
        case rel => first | exact ⟨i + 1, by omega, by go_num, R4.out⟩ | ((repeat apply Exists.intro); exact ⟨⟨i + 1, by omega, by go_num, R4.out⟩, rfl⟩)
        case measure => simp [intOf]; omega
    · obtain rfl : i = 64 := by omega
      have kc : ∀ (w : World) (C : Array Value) (n c g : Nat), g = w.heap.size → _ := fun (w : World) (C : Array Value) (n c g : Nat) (hg : g = w.heap.size) => hg ▸ Lib.run_convert_bytes_const (P := Tryd.prog) w 24 5 C n c under24 under5
      obtain ⟨w2, hw2⟩ : ∃ w2, w2 = wr.alloc (.cells (cellsB longL).toArray 5 (56, 57)) := ⟨_, rfl⟩
      have s2 : w2.heap.size = wr.heap.size + 1 := by rw [hw2]; simp
      have f2 : Frm (fun _ => False) wr w2 := by rw [hw2]; exact Frm.alloc _ _ _
      have r2 : Rds w2 (some ⟨wr.heap.size, 0, none⟩) 56 (cellsB longL) := by rw [hw2]; exact alloc_rds wr (cellsB longL) 5 (56, 57)
      have hsum := sums_run w w2 [.slice (some ⟨wr.heap.size, 0, none⟩) 56 56] [longL] longL (.cons ⟨_, _, rfl, Nat.le_refl _, r2⟩ .nil) (by simp) (hr.frm f2 (fun _ h => h.elim)) (by decide) (by simp)
      rw [s2, hw2] at hsum
      have HS := hide hsum
      clear hsum r2 f2 s2 hw2 hr
      go_wp2_with fail
      refine HS.out.mono ?_
      rintro e w3 ⟨rfl, _, R3⟩
      have HX := hide (hex_any (shaL longL) w3 (shaL_length _))
      rw [hex_long] at HX
      clear HS kc
      generalize (cellsB (shaL longL)).toArray = cc at *
      go_wp2_with fail
      refine HX.out.mono ?_
      rintro e w4 ⟨rfl, b4⟩
      have R4 := hide (R3.frm (Frm.of_below (S := fun _ => False) b4) (fun _ h => h.elim))
      go_wp2_with fail
      go_ret
      exact ⟨rfl, R4.out.below⟩
end Go.Proofs.YtbicjcpdcopbhaaDoor
