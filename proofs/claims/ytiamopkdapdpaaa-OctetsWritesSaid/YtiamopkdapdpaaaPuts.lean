/-
  The law's puts: what each put leaves in the writer, and what it tells.
-/
import Derived.Test.YtiamopkdapdpaaaMore2
namespace Go.Proofs.Ytiamopkdapdpaaa
set_option linter.unusedVariables false
open Go.RowKit

set_option maxHeartbeats 1000000 in
theorem zerosref_any (n : Int) (w : World) (hn : n ≤ 100) (hn0 : -9223372036854775808 ≤ n) :
    Calls Try.prog 32 #[.int .i64 n] w fun e w' => e = .returned (.string ⟨(List.replicate n.toNat (0 : UInt8)).toArray⟩) ∧ w = w' := by
  go_enter Try.func32, Try.ntmps32
  go_wp2_with fail
  go_loop [3, 4] (fun s i => ∃ k : Nat, k ≤ n.toNat ∧ i = .int .i64 k ∧ ∃ X : List UInt8, X = List.replicate k 0 ∧ s = .string ⟨X.toArray⟩) (fun _ i => n.toNat - (intOf i).toNat)
  case atStart => exact ⟨0, by omega, rfl, [], rfl, rfl⟩
  case round =>
    obtain ⟨k, hk, rfl, X, hX, rfl⟩ := hrel
    have HX := hide hX
    have HL : Hid (X.length = k) := by rw [hX, List.length_replicate]; rfl
    clear hX
    by_cases hlt : k < n.toNat
    · have hkn : (k : Int) < n := by omega
      have hap : ((⟨X.toArray⟩ : ByteArray) ++ ⟨#[0]⟩) = ⟨(X ++ [0]).toArray⟩ := txt_append X [0]
      have hxl : X.length ≤ 100 := by have := HL.out; omega
      go_wp2
      go_round
      case rel => exact ⟨k + 1, by omega, by go_num, X ++ [0], by rw [HX.out, List.replicate_succ'], rfl⟩
      case measure => simp [intOf]; omega
    · have hkn : ¬ (k : Int) < n := by omega
      obtain rfl : k = n.toNat := by omega
      go_wp2
      go_ret
      exact ⟨by rw [HX.out]; rfl, rfl⟩

/-- A writer's call between two stretches that leave old memory alone. -/
theorem put_mono {g : Nat} {d : Option Nat} {l : List UInt8} {w W0 w5 w6 : World} (h0 : Below w.heap.size w W0) (h : Put g d l W0 w5) (h6 : Below w5.heap.size w5 w6) : Put g d l w w6 := by
  obtain ⟨d', h1, h2, h3⟩ := h
  refine ⟨d', h1.frm (Frm.of_below (S := fun _ => False) h6) (fun h => h) (fun _ _ h => h), ?_, ?_⟩
  · rcases h2 with h2 | ⟨j, h2, hj⟩
    · exact .inl h2
    · exact .inr ⟨j, h2, Nat.le_trans h0.size hj⟩
  · exact ((Frm.of_below h0).trans h3 (fun _ _ h => h)).trans (Frm.of_below (S := fun _ => False) h6) (fun _ _ h => h.elim)

theorem be_mod (s n : Nat) : be s (n % 256 ^ s) = be s n := by
  apply List.ext_getElem
  · rw [be_length, be_length]
  · intro j h1 h2
    rw [be_length] at h1
    simp only [be, List.getElem_map, List.getElem_range]
    apply UInt8.toNat_inj.1
    rw [UInt8.toNat_ofNat', UInt8.toNat_ofNat']
    have e : 256 ^ s = 256 ^ (s - 1 - j) * 256 ^ (j + 1) := by rw [← Nat.pow_add]; congr 1; omega
    rw [e, Nat.mod_mul_right_div_self, Nat.pow_succ]
    have := Nat.mod_mul_left_mod (n / 256 ^ (s - 1 - j)) (256 ^ j) 256
    exact this

/-- What puts tells, and leaves. -/
def PutsPost (g : Nat) (d : Option Nat) (l : List UInt8) (w : World) (e : Ending) (w' : World) : Prop :=
  ∃ x : List UInt8, x.length ≤ 100 ∧ e = .returned (.string ⟨x.toArray⟩) ∧ Put g d (l ++ x) w w'

set_option maxHeartbeats 2000000 in
theorem puts1 (g : Nat) (d : Option Nat) (l : List UInt8) (z : Int) (n : Nat) (A : Option Addr) (len cap : Nat) (w : World) (hr : Wr w g d l) (hl : l.length ≤ 90000) (hdl : ∀ k, d = some k → k < w.heap.size) (hn : n < 18446744073709551616) :
    Calls Try.prog 18 #[.pointer (some ⟨g, 0, none⟩), .agg #[.int .i64 1, .int .i64 z, .int .u64 (n : Int), .slice A len cap]] w (PutsPost g d l w) := by
  have hX0 : Blk (w.alloc (.cells #[.int .i64 1, .int .i64 z, .int .u64 (n : Int), .slice A len cap] 51)) w.heap.size 51 #[.int .i64 1, .int .i64 z, .int .u64 (n : Int), .slice A len cap] := Blk.new _ _ _
  have hb0 : Below w.heap.size w (w.alloc (.cells #[.int .i64 1, .int .i64 z, .int .u64 (n : Int), .slice A len cap] 51)) := (Below.refl _ _).alloc (Nat.le_refl _) _
  have hW0 := hr.frm (Frm.of_below (S := fun _ => False) hb0) (fun h => h) (fun _ _ h => h)
  have hs0 : w.heap.size < (w.alloc (.cells #[.int .i64 1, .int .i64 z, .int .u64 (n : Int), .slice A len cap] 51)).heap.size := by simp
  have hgl := hr.lt
  have Hdl := hide hdl
  clear hdl
  obtain ⟨y, hy, HYN⟩ : ∃ y : Nat, ((n : Int) % 256) = (y : Int) ∧ Hid (y = n % 256) := ⟨n % 256, by omega, rfl⟩
  have hyl : y < 256 := by have := HYN.out; omega
  have hwr : IntKind.u8.wrap (y : Int) = (y : Int) := by rw [IntKind.wrap_u8]; omega
  have hwr2 : (y : Int) % 256 = (y : Int) := by omega
  go_enter Try.func18, Try.ntmps18
  go_wp2_with fail
  generalize hWg : w.alloc (.cells #[.int .i64 1, .int .i64 z, .int .u64 (n : Int), .slice A len cap] 51) = W0 at *
  generalize hgx : w.heap.size = gx at *
  clear hWg
  have HGX := hide hgx
  clear hgx
  refine (wu8_any g d l y _ hW0 (by omega) (by omega) (by omega)).mono ?_
  rintro e w5 ⟨rfl, hP⟩
  rw [Int.toNat_natCast, HYN.out, show (256 : Nat) = 256 ^ 1 from by decide, be_mod] at hP
  have hf5 := hP
  obtain ⟨d5, hW5, hd5, hf5⟩ := hf5
  have hX5 := hX0.frm hf5 (fun h => by rcases h with rfl | h; omega; have := Hdl.out _ h.symm; omega)
  have hcn : w5.cell? ⟨gx, 2, none⟩ = some (.int .u64 (n : Int)) := by have := hX5.cell 2; simpa using this
  clear hW5 hd5 hf5
  go_wp2_with fail
  refine (text_any n 1 _ (by omega) hn).mono ?_
  rintro e w6 ⟨rfl, hb6⟩
  go_wp2
  go_ret
  refine ⟨be 1 n, by rw [be_length]; omega, rfl, put_mono (W0 := W0) (by rw [HGX.out]; exact hb0) hP hb6⟩

set_option maxHeartbeats 2000000 in
theorem puts2 (g : Nat) (d : Option Nat) (l : List UInt8) (z : Int) (n : Nat) (A : Option Addr) (len cap : Nat) (w : World) (hr : Wr w g d l) (hl : l.length ≤ 90000) (hdl : ∀ k, d = some k → k < w.heap.size) (hn : n < 18446744073709551616) :
    Calls Try.prog 18 #[.pointer (some ⟨g, 0, none⟩), .agg #[.int .i64 2, .int .i64 z, .int .u64 (n : Int), .slice A len cap]] w (PutsPost g d l w) := by
  have hX0 : Blk (w.alloc (.cells #[.int .i64 2, .int .i64 z, .int .u64 (n : Int), .slice A len cap] 51)) w.heap.size 51 #[.int .i64 2, .int .i64 z, .int .u64 (n : Int), .slice A len cap] := Blk.new _ _ _
  have hb0 : Below w.heap.size w (w.alloc (.cells #[.int .i64 2, .int .i64 z, .int .u64 (n : Int), .slice A len cap] 51)) := (Below.refl _ _).alloc (Nat.le_refl _) _
  have hW0 := hr.frm (Frm.of_below (S := fun _ => False) hb0) (fun h => h) (fun _ _ h => h)
  have hs0 : w.heap.size < (w.alloc (.cells #[.int .i64 2, .int .i64 z, .int .u64 (n : Int), .slice A len cap] 51)).heap.size := by simp
  have hgl := hr.lt
  have Hdl := hide hdl
  clear hdl
  obtain ⟨y, hy, HYN⟩ : ∃ y : Nat, ((n : Int) % 65536) = (y : Int) ∧ Hid (y = n % 65536) := ⟨n % 65536, by omega, rfl⟩
  have hyl : y < 65536 := by have := HYN.out; omega
  have hwr : IntKind.u16.wrap (y : Int) = (y : Int) := by rw [IntKind.wrap_u16]; omega
  have hwr2 : (y : Int) % 65536 = (y : Int) := by omega
  go_enter Try.func18, Try.ntmps18
  go_wp2_with fail
  generalize hWg : w.alloc (.cells #[.int .i64 2, .int .i64 z, .int .u64 (n : Int), .slice A len cap] 51) = W0 at *
  generalize hgx : w.heap.size = gx at *
  clear hWg
  have HGX := hide hgx
  clear hgx
  refine (wu16_any g d l y _ hW0 (by omega) (by omega) (by omega)).mono ?_
  rintro e w5 ⟨rfl, hP⟩
  rw [Int.toNat_natCast, HYN.out, show (65536 : Nat) = 256 ^ 2 from by decide, be_mod] at hP
  have hf5 := hP
  obtain ⟨d5, hW5, hd5, hf5⟩ := hf5
  have hX5 := hX0.frm hf5 (fun h => by rcases h with rfl | h; omega; have := Hdl.out _ h.symm; omega)
  have hcn : w5.cell? ⟨gx, 2, none⟩ = some (.int .u64 (n : Int)) := by have := hX5.cell 2; simpa using this
  clear hW5 hd5 hf5
  go_wp2_with fail
  refine (text_any n 2 _ (by omega) hn).mono ?_
  rintro e w6 ⟨rfl, hb6⟩
  go_wp2
  go_ret
  refine ⟨be 2 n, by rw [be_length]; omega, rfl, put_mono (W0 := W0) (by rw [HGX.out]; exact hb0) hP hb6⟩

set_option maxHeartbeats 2000000 in
theorem puts3 (g : Nat) (d : Option Nat) (l : List UInt8) (z : Int) (n : Nat) (A : Option Addr) (len cap : Nat) (w : World) (hr : Wr w g d l) (hl : l.length ≤ 90000) (hdl : ∀ k, d = some k → k < w.heap.size) (hn : n < 18446744073709551616) :
    Calls Try.prog 18 #[.pointer (some ⟨g, 0, none⟩), .agg #[.int .i64 3, .int .i64 z, .int .u64 (n : Int), .slice A len cap]] w (PutsPost g d l w) := by
  have hX0 : Blk (w.alloc (.cells #[.int .i64 3, .int .i64 z, .int .u64 (n : Int), .slice A len cap] 51)) w.heap.size 51 #[.int .i64 3, .int .i64 z, .int .u64 (n : Int), .slice A len cap] := Blk.new _ _ _
  have hb0 : Below w.heap.size w (w.alloc (.cells #[.int .i64 3, .int .i64 z, .int .u64 (n : Int), .slice A len cap] 51)) := (Below.refl _ _).alloc (Nat.le_refl _) _
  have hW0 := hr.frm (Frm.of_below (S := fun _ => False) hb0) (fun h => h) (fun _ _ h => h)
  have hs0 : w.heap.size < (w.alloc (.cells #[.int .i64 3, .int .i64 z, .int .u64 (n : Int), .slice A len cap] 51)).heap.size := by simp
  have hgl := hr.lt
  have Hdl := hide hdl
  clear hdl
  obtain ⟨y, hy, HYN⟩ : ∃ y : Nat, ((n : Int) % 4294967296) = (y : Int) ∧ Hid (y = n % 4294967296) := ⟨n % 4294967296, by omega, rfl⟩
  have hyl : y < 4294967296 := by have := HYN.out; omega
  have hwr : IntKind.u32.wrap (y : Int) = (y : Int) := by rw [IntKind.wrap_u32]; omega
  have hwr2 : (y : Int) % 4294967296 = (y : Int) := by omega
  go_enter Try.func18, Try.ntmps18
  go_wp2_with fail
  generalize hWg : w.alloc (.cells #[.int .i64 3, .int .i64 z, .int .u64 (n : Int), .slice A len cap] 51) = W0 at *
  generalize hgx : w.heap.size = gx at *
  clear hWg
  have HGX := hide hgx
  clear hgx
  refine (wu32_any g d l y _ hW0 (by omega) (by omega) (by omega)).mono ?_
  rintro e w5 ⟨rfl, hP⟩
  rw [Int.toNat_natCast, HYN.out, show (4294967296 : Nat) = 256 ^ 4 from by decide, be_mod] at hP
  have hf5 := hP
  obtain ⟨d5, hW5, hd5, hf5⟩ := hf5
  have hX5 := hX0.frm hf5 (fun h => by rcases h with rfl | h; omega; have := Hdl.out _ h.symm; omega)
  have hcn : w5.cell? ⟨gx, 2, none⟩ = some (.int .u64 (n : Int)) := by have := hX5.cell 2; simpa using this
  clear hW5 hd5 hf5
  go_wp2_with fail
  refine (text_any n 4 _ (by omega) hn).mono ?_
  rintro e w6 ⟨rfl, hb6⟩
  go_wp2
  go_ret
  refine ⟨be 4 n, by rw [be_length]; omega, rfl, put_mono (W0 := W0) (by rw [HGX.out]; exact hb0) hP hb6⟩

set_option maxHeartbeats 2000000 in
theorem puts4 (g : Nat) (d : Option Nat) (l : List UInt8) (z : Int) (n : Nat) (A : Option Addr) (len cap : Nat) (w : World) (hr : Wr w g d l) (hl : l.length ≤ 90000) (hdl : ∀ k, d = some k → k < w.heap.size) (hn : n < 18446744073709551616) :
    Calls Try.prog 18 #[.pointer (some ⟨g, 0, none⟩), .agg #[.int .i64 4, .int .i64 z, .int .u64 (n : Int), .slice A len cap]] w (PutsPost g d l w) := by
  have hX0 : Blk (w.alloc (.cells #[.int .i64 4, .int .i64 z, .int .u64 (n : Int), .slice A len cap] 51)) w.heap.size 51 #[.int .i64 4, .int .i64 z, .int .u64 (n : Int), .slice A len cap] := Blk.new _ _ _
  have hb0 : Below w.heap.size w (w.alloc (.cells #[.int .i64 4, .int .i64 z, .int .u64 (n : Int), .slice A len cap] 51)) := (Below.refl _ _).alloc (Nat.le_refl _) _
  have hW0 := hr.frm (Frm.of_below (S := fun _ => False) hb0) (fun h => h) (fun _ _ h => h)
  have hs0 : w.heap.size < (w.alloc (.cells #[.int .i64 4, .int .i64 z, .int .u64 (n : Int), .slice A len cap] 51)).heap.size := by simp
  have hgl := hr.lt
  have Hdl := hide hdl
  clear hdl
  go_enter Try.func18, Try.ntmps18
  go_wp2_with fail
  generalize hWg : w.alloc (.cells #[.int .i64 4, .int .i64 z, .int .u64 (n : Int), .slice A len cap] 51) = W0 at *
  generalize hgx : w.heap.size = gx at *
  clear hWg
  have HGX := hide hgx
  clear hgx
  refine (wu64_any g d l n _ hW0 (by omega) (by omega) (by omega)).mono ?_
  rintro e w5 ⟨rfl, hP⟩
  rw [Int.toNat_natCast] at hP
  have hf5 := hP
  obtain ⟨d5, hW5, hd5, hf5⟩ := hf5
  have hX5 := hX0.frm hf5 (fun h => by rcases h with rfl | h; omega; have := Hdl.out _ h.symm; omega)
  have hcn : w5.cell? ⟨gx, 2, none⟩ = some (.int .u64 (n : Int)) := by have := hX5.cell 2; simpa using this
  clear hW5 hd5 hf5
  go_wp2_with fail
  refine (text_any n 8 _ (by omega) hn).mono ?_
  rintro e w6 ⟨rfl, hb6⟩
  go_wp2
  go_ret
  refine ⟨be 8 n, by rw [be_length]; omega, rfl, put_mono (W0 := W0) (by rw [HGX.out]; exact hb0) hP hb6⟩

set_option maxHeartbeats 2000000 in
theorem puts6 (g : Nat) (d : Option Nat) (l : List UInt8) (z : Int) (n : Nat) (A : Option Addr) (len cap : Nat) (w : World) (hr : Wr w g d l) (hl : l.length ≤ 90000) (hdl : ∀ k, d = some k → k < w.heap.size) (hn : n < 18446744073709551616) (hz : -9223372036854775808 ≤ z) :
    Calls Try.prog 18 #[.pointer (some ⟨g, 0, none⟩), .agg #[.int .i64 6, .int .i64 z, .int .u64 (n : Int), .slice A len cap]] w (PutsPost g d l w) := by
  have hX0 : Blk (w.alloc (.cells #[.int .i64 6, .int .i64 z, .int .u64 (n : Int), .slice A len cap] 51)) w.heap.size 51 #[.int .i64 6, .int .i64 z, .int .u64 (n : Int), .slice A len cap] := Blk.new _ _ _
  have hb0 : Below w.heap.size w (w.alloc (.cells #[.int .i64 6, .int .i64 z, .int .u64 (n : Int), .slice A len cap] 51)) := (Below.refl _ _).alloc (Nat.le_refl _) _
  have hW0 := hr.frm (Frm.of_below (S := fun _ => False) hb0) (fun h => h) (fun _ _ h => h)
  have hs0 : w.heap.size < (w.alloc (.cells #[.int .i64 6, .int .i64 z, .int .u64 (n : Int), .slice A len cap] 51)).heap.size := by simp
  have hgl := hr.lt
  have Hdl := hide hdl
  clear hdl
  obtain ⟨k, HK, hk1, hk2⟩ : ∃ k : Int, Hid (k = if (100 : Int) < z then 100 else z) ∧ k ≤ 100 ∧ -9223372036854775808 ≤ k := by
    by_cases h : 100 < z
    · exact ⟨100, by unfold Hid; rw [if_pos h], by omega, by omega⟩
    · exact ⟨z, by unfold Hid; rw [if_neg h], by omega, by omega⟩
  go_enter Try.func18, Try.ntmps18
  go_wp2_with (first | (refine wpl_min rfl (.tmp 82) (.const (.int .i64 100)) _ _ rfl _ z 100 k rfl rfl HK.out ?_) | fail)
  generalize hWg : w.alloc (.cells #[.int .i64 6, .int .i64 z, .int .u64 (n : Int), .slice A len cap] 51) = W0 at *
  generalize hgx : w.heap.size = gx at *
  clear hWg
  have HGX := hide hgx
  clear hgx
  refine (wzeros_any g d l k _ hW0 (by omega) (by omega)).mono ?_
  rintro e w5 ⟨rfl, hP⟩
  go_wp2_with fail
  refine (zerosref_any k _ hk1 hk2).mono ?_
  rintro e w6 ⟨rfl, rfl⟩
  go_wp2
  go_ret
  exact ⟨List.replicate k.toNat 0, by rw [List.length_replicate]; omega, rfl, put_mono (W0 := W0) (by rw [HGX.out]; exact hb0) hP (Below.refl _ _)⟩

set_option maxHeartbeats 2000000 in
theorem puts0 (kd : Int) (g : Nat) (d : Option Nat) (l : List UInt8) (z : Int) (n : Nat) (A : Option Addr) (len cap : Nat) (w : World) (hr : Wr w g d l) (hl : l.length ≤ 90000) (hdl : ∀ k, d = some k → k < w.heap.size) (hn : n < 18446744073709551616) (h1 : (kd == 1) = false) (h2 : (kd == 2) = false) (h3 : (kd == 3) = false) (h4 : (kd == 4) = false) (h5 : (kd == 5) = false) (h6 : (kd == 6) = false) :
    Calls Try.prog 18 #[.pointer (some ⟨g, 0, none⟩), .agg #[.int .i64 kd, .int .i64 z, .int .u64 (n : Int), .slice A len cap]] w (PutsPost g d l w) := by
  have hX0 : Blk (w.alloc (.cells #[.int .i64 kd, .int .i64 z, .int .u64 (n : Int), .slice A len cap] 51)) w.heap.size 51 #[.int .i64 kd, .int .i64 z, .int .u64 (n : Int), .slice A len cap] := Blk.new _ _ _
  have hb0 : Below w.heap.size w (w.alloc (.cells #[.int .i64 kd, .int .i64 z, .int .u64 (n : Int), .slice A len cap] 51)) := (Below.refl _ _).alloc (Nat.le_refl _) _
  have hW0 := hr.frm (Frm.of_below (S := fun _ => False) hb0) (fun h => h) (fun _ _ h => h)
  have hs0 : w.heap.size < (w.alloc (.cells #[.int .i64 kd, .int .i64 z, .int .u64 (n : Int), .slice A len cap] 51)).heap.size := by simp
  have hgl := hr.lt
  have Hdl := hide hdl
  clear hdl
  go_enter Try.func18, Try.ntmps18
  go_wp2
  go_ret
  exact ⟨[], by decide, rfl, by rw [List.append_nil]; exact put_mono hb0 (Put.refl hW0) (Below.refl _ _)⟩

set_option maxHeartbeats 4000000 in
theorem puts5 (g : Nat) (d : Option Nat) (l : List UInt8) (z : Int) (n : Nat) (A : Option Addr) (len cap : Nat) (w : World) (hr : Wr w g d l) (hl : l.length ≤ 90000) (hdl : ∀ k, d = some k → k < w.heap.size) (hn : n < 18446744073709551616) (bl : List UInt8) (h1 : Rds w A len (cellsB bl)) (hc : len ≤ cap) (hm : cap ≤ 9223372036854775807) :
    Calls Try.prog 18 #[.pointer (some ⟨g, 0, none⟩), .agg #[.int .i64 5, .int .i64 z, .int .u64 (n : Int), .slice A len cap]] w (PutsPost g d l w) := by
  have hX0 : Blk (w.alloc (.cells #[.int .i64 5, .int .i64 z, .int .u64 (n : Int), .slice A len cap] 51)) w.heap.size 51 #[.int .i64 5, .int .i64 z, .int .u64 (n : Int), .slice A len cap] := Blk.new _ _ _
  have hb0 : Below w.heap.size w (w.alloc (.cells #[.int .i64 5, .int .i64 z, .int .u64 (n : Int), .slice A len cap] 51)) := (Below.refl _ _).alloc (Nat.le_refl _) _
  have hW0 := hr.frm (Frm.of_below (S := fun _ => False) hb0) (fun h => h) (fun _ _ h => h)
  have hs0 : w.heap.size < (w.alloc (.cells #[.int .i64 5, .int .i64 z, .int .u64 (n : Int), .slice A len cap] 51)).heap.size := by simp
  have hgl := hr.lt
  have Hdl := hide hdl
  clear hdl
  obtain ⟨m, HM, hm1, hm2⟩ := nat_min len 100
  have hr0 : Rds (w.alloc (.cells #[.int .i64 5, .int .i64 z, .int .u64 (n : Int), .slice A len cap] 51)) A m (cellsB (bl.take m)) := by rw [← cellsB_take]; exact (h1.below hb0).take m hm1
  have HL : Hid ((bl.take m).length = m) := by have := hr0.1; rwa [cellsB_length] at this
  generalize bl.take m = xb at *
  clear h1
  have hr1 : Rds ((w.alloc (.cells #[.int .i64 5, .int .i64 z, .int .u64 (n : Int), .slice A len cap] 51)).alloc (.cells #[] 5)) A m (cellsB xb) := hr0.below ((Below.refl _ _).alloc (Nat.le_refl _) _)
  have ho1 := World.ownsRow_made (e := 5) (size := 1) (base := (w.alloc (.cells #[.int .i64 5, .int .i64 z, .int .u64 (n : Int), .slice A len cap] 51)).heap.size) (w.alloc (.cells #[.int .i64 5, .int .i64 z, .int .u64 (n : Int), .slice A len cap] 51)) #[] 0 (Nat.le_refl _) (by simp [maxLen]) (by simp)
  have hsz : (w.alloc (.cells #[.int .i64 5, .int .i64 z, .int .u64 (n : Int), .slice A len cap] 51)).heap.size = w.heap.size + 1 := by simp
  rw [hsz] at ho1
  have hsm1 : (0 + m) * 1 ≤ 140737488355328 := by omega
  have hsm2 : 0 + m ≤ 140737488355328 := by omega
  have hsm3 : w.heap.size + 1 ≤ ((w.alloc (.cells #[.int .i64 5, .int .i64 z, .int .u64 (n : Int), .slice A len cap] 51)).alloc (.cells #[] 5)).heap.size := by simp
  go_enter Try.func18, Try.ntmps18
  go_wp2_with (first | (refine wpl_min rfl (.tmp 60) (.const (.int .i64 100)) _ _ rfl _ (len : Int) 100 (m : Int) rfl rfl HM.out ?_) | (at_builtin; refine wpl_app one_u8 rfl (.tmp 55) (.tmp 62) rfl _ (w.heap.size + 1) (.slice (some ⟨w.heap.size + 1, 0, none⟩) 0 0) 0 [] rfl ho1 A m cap (cellsB xb) rfl hr1 (cellsB_one xb) hsm1 hsm2 hsm3 ?_; intro Ao co w2 hown2 hg2 hat2))
  generalize hWg : w.alloc (.cells #[.int .i64 5, .int .i64 z, .int .u64 (n : Int), .slice A len cap] 51) = W0 at *
  generalize hgx : w.heap.size = gx at *
  clear hWg
  have HGX := hide hgx
  clear hgx
  rw [← hsz] at hown2 hg2
  have hb2 : Below W0.heap.size W0 w2 := ((Below.refl _ _).alloc (Nat.le_refl _) _).trans ((Frm.of_grown hg2).below (by simp) (fun k hk => by have hh : k = W0.heap.size := Option.some.inj hk; omega))
  rw [Nat.zero_add, List.nil_append] at hown2
  have hb2s := hb2.size
  have hW2 := hW0.frm (Frm.of_below (S := fun _ => False) hb2) (fun h => h) (fun _ _ h => h)
  clear hr1 ho1 hsm1 hsm2 hsm3 hg2 hat2 hr0
  have HGo : Hid (∀ g0, Ao = some ⟨g0, 0, none⟩ → W0.heap.size ≤ g0 ∧ g0 < w2.heap.size) := fun g0 h => hown2.lt g0 (by rw [h]; rfl)
  have hl9 : l.length ≤ 100000 := by omega
  refine (wbytes_any g d l xb Ao m co _ hW2 hl9 (Seg.of_own hown2).rds (by omega)).mono ?_
  rintro e w3 ⟨rfl, d3, hW3, hd3, hf3⟩
  have hown3 := own_frm hown2 hf3 (fun k hk h => by
    have hh := hown2.lt k hk
    rcases h with rfl | h
    · omega
    · have := Hdl.out k h.symm; omega)
  have hcv3 := conv_rds (P := Try.prog) w3 22 9 5 Try.underlying22 Try.underlying5 Try.underlying9 Ao m co xb (Seg.of_own hown3).rds
  have hOA : OwnAny w3 W0.heap.size 5 Ao m co := ⟨_, hown3⟩
  have hs3 := hf3.size
  clear hown2 hown3
  have HD3 := hide hd3
  clear hd3
  go_wp2_with fail
  go_loopw [7] (fun i wr3 => ∃ q : Nat, q ≤ m ∧ i = .int .i64 q ∧ OwnAny wr3 W0.heap.size 5 Ao m co ∧ Frm (fun x => W0.heap.size ≤ x ∧ x < w2.heap.size) w3 wr3) (fun i _ => m - (intOf i).toNat)
  case atStart => exact ⟨0, by omega, rfl, hOA, Frm.refl _ _⟩
  case round =>
    obtain ⟨q, hq, rfl, hOq, hFq⟩ := hrel
    by_cases hlq : q < m
    · obtain ⟨g0, v0, hA0, hb0', hg0, hcq, hfq, hset⟩ := hOq.at hlq
      have hgo := HGo.out g0 hA0
      have HA0 := hide hA0
      have HSET := hide hset
      have hq0 : (0 : Int) ≤ (q : Int) := by omega
      have hqm : (q : Int) < ((m : Nat) : Int) := by omega
      have had : (⟨g0, 0, none⟩ : Addr).add ((q : Int)).toNat = ⟨g0, q, none⟩ := by rw [Int.toNat_natCast]; exact add_zero_off g0 q
      have HAD := hide had
      clear hA0 hset had
      go_wp2_with (refine wpl_idx one_u8 rfl (.tmp 75) (.tmp 76) rfl _ Ao m co (q : Int) rfl rfl ⟨g0, 0, none⟩ ⟨g0, q, none⟩ HA0.out hq0 hqm HAD.out ?_)
      go_roundw
      case rel => exact ⟨q + 1, by omega, by go_num, HSET.out _, hFq.trans (Frm.setCell _ _ _ (fun x => x = g0) rfl) (fun i _ hi => by omega)⟩
      case measure => simp [intOf]; omega
    · go_wp2
      go_ret
      have hgx := HGX.out
      refine ⟨xb, by have := HL.out; omega, rfl, d3, hW3.frm hFq (by omega) (fun k hk h => ?_), ?_, ?_⟩
      · rcases HD3.out with h3 | ⟨j, h3, hj⟩
        · have := Hdl.out k (h3 ▸ hk); omega
        · rw [h3] at hk; injection hk with hk; omega
      · rcases HD3.out with h3 | ⟨j, h3, hj⟩
        · exact .inl h3
        · exact .inr ⟨j, h3, by omega⟩
      · have F0 : Frm (fun k => k = g ∨ some k = d) w W0 := Frm.of_below (by rw [HGX.out]; exact hb0)
        have F2 : Frm (fun k => k = g ∨ some k = d) w w2 := F0.trans (Frm.of_below (S := fun _ => False) hb2) (fun _ _ h => h.elim)
        exact (F2.trans hf3 (fun _ _ h => h)).trans hFq (fun i hi h => by omega)

theorem puts_any (kd : Int) (g : Nat) (d : Option Nat) (l : List UInt8) (z : Int) (n : Nat) (A : Option Addr) (len cap : Nat) (w : World) (hr : Wr w g d l) (hl : l.length ≤ 90000) (hdl : ∀ k, d = some k → k < w.heap.size) (hn : n < 18446744073709551616) (hz : -9223372036854775808 ≤ z) (bl : List UInt8) (h1 : Rds w A len (cellsB bl)) (hc : len ≤ cap) (hm : cap ≤ 9223372036854775807) :
    Calls Try.prog 18 #[.pointer (some ⟨g, 0, none⟩), .agg #[.int .i64 kd, .int .i64 z, .int .u64 (n : Int), .slice A len cap]] w (PutsPost g d l w) := by
  by_cases k1 : kd = 1
  · subst k1; exact puts1 g d l z n A len cap w hr hl hdl hn
  by_cases k2 : kd = 2
  · subst k2; exact puts2 g d l z n A len cap w hr hl hdl hn
  by_cases k3 : kd = 3
  · subst k3; exact puts3 g d l z n A len cap w hr hl hdl hn
  by_cases k4 : kd = 4
  · subst k4; exact puts4 g d l z n A len cap w hr hl hdl hn
  by_cases k5 : kd = 5
  · subst k5; exact puts5 g d l z n A len cap w hr hl hdl hn bl h1 hc hm
  by_cases k6 : kd = 6
  · subst k6; exact puts6 g d l z n A len cap w hr hl hdl hn hz
  exact puts0 kd g d l z n A len cap w hr hl hdl hn (by simp; omega) (by simp; omega) (by simp; omega) (by simp; omega) (by simp; omega) (by simp; omega)
end Go.Proofs.Ytiamopkdapdpaaa
