/-
  The sum of parts; bytes as text; what must be in any case.
-/
import Derived.Test.YtbicjcpdcopbhaaDoorSha7
import Derived.Lib.SlBytesConst
namespace Go.Proofs.YtbicjcpdcopbhaaDoor
set_option linter.unusedVariables false
open Go.RowKit

/-- A value that is a slice of these bytes. -/
def Prt (w : World) (v : Value) (l : List UInt8) : Prop := ∃ A c, v = .slice A l.length c ∧ l.length ≤ c ∧ Rds w A l.length (cellsB l)
theorem Prt.below {w w' : World} {v : Value} {l : List UInt8} (h : Prt w v l) (hb : Below w.heap.size w w') : Prt w' v l := by
  obtain ⟨A, c, hv, hc, hr⟩ := h
  exact ⟨A, c, hv, hc, hr.below hb⟩
/-- Slices of bytes in a row. -/
def Prts (w : World) (PA : Option Addr) (vs : List Value) (ls : List (List UInt8)) : Prop := Rds w PA ls.length vs ∧ ∀ k, k < ls.length → ∃ v, vs[k]? = some v ∧ Prt w v (ls.getD k [])

theorem flat_take (ls : List (List UInt8)) (k : Nat) (h : k < ls.length) : (ls.take (k + 1)).flatten = (ls.take k).flatten ++ ls.getD k [] := by
  rw [List.take_succ_eq_append_getElem h, List.flatten_append, List.getD_eq_getElem?_getD, List.getElem?_eq_getElem h]
  simp
theorem flat_le (ls : List (List UInt8)) (k : Nat) : (ls.take k).flatten.length ≤ ls.flatten.length := by
  conv => rhs; rw [← List.take_append_drop k ls, List.flatten_append, List.length_append]
  omega

theorem St_nil {w : World} {g : Nat} (h : Blk w g 34 (cellsS (List.replicate 8 0) (List.replicate 64 0) 0).toArray) : St w g [] := h

structure PartsInv (w : World) (g3 : Nat) (l : List UInt8) (wr : World) : Prop where
  st : St wr g3 l
  gl : Gl wr
  below : Below w.heap.size w wr

set_option maxHeartbeats 4000000 in
theorem sums_any (PA : Option Addr) (c : Nat) (vs : List Value) (ls : List (List UInt8)) (w : World) (hG : Gl w) (hP : Prts w PA vs ls) (hg0 : 2 ≤ w.heap.size) (hl : ls.flatten.length ≤ 10000000000) (hn : ls.length ≤ 1000000) :
    Calls Tryd.prog 16 #[.slice PA ls.length c] w fun e w' => e = .returned (.agg (cellsB (shaL ls.flatten)).toArray) ∧ Below w.heap.size w w' := by
  have HP := hide hP
  clear hP
  obtain ⟨n, hnn⟩ : ∃ n, n = ls.length := ⟨_, rfl⟩
  have HN := hide hnn
  rw [← hnn] at hn ⊢
  clear hnn
  go_enter Tryd.func16, Tryd.ntmps16
  go_wp2_with (first
    | ((with_reducible refine wpl_alloca (op := ⟨some 2, _, _, _, _, _⟩) rfl _ rfl _ zero32 ?_); intro g1 w1 hB1 hs1 hF1)
    | ((with_reducible refine wpl_alloca (op := ⟨some 3, _, _, _, _, _⟩) rfl _ rfl _ zeroS ?_); intro g3 w3 hB3 hs3 hF3))
  have hF03 : Frm (fun _ => False) w w3 := hF1.trans hF3 (fun _ _ h => h)
  have hB03 : Below w.heap.size w w3 := hF03.below (Nat.le_refl _) (fun k hk => hk.elim)
  have hst : PartsInv w g3 (ls.take 0).flatten w3 := ⟨St_nil hB3, hG.frm hF03 (fun h => h) (fun h => h), hB03⟩
  have hge3 : w.heap.size ≤ g3 := by have := hF1.size; omega
  have hne : g1 ≠ g3 := by have := hB1.lt; omega
  have hB1' := hB1.frm hF3 (fun h => h)
  have HI := hide (show PartsInv w g3 (ls.take 0).flatten w3 ∧ Blk w3 g1 25 (cellsB (List.replicate 32 0)).toArray from ⟨hst, hB1'⟩)
  clear hst hB1' hB1 hB3 hF1 hF3 hF03 hB03 hG
  go_loopw [8] (fun i wr => ∃ k : Nat, k ≤ n ∧ i = .int .i64 k ∧ PartsInv w g3 (ls.take k).flatten wr ∧ Blk wr g1 25 (cellsB (List.replicate 32 0)).toArray) (fun i _ => n - (intOf i).toNat)
  case atStart => exact ⟨0, by omega, rfl, HI.out⟩
  case round =>
    clear HI
    obtain ⟨k, hk, rfl, hi, hres⟩ := hrel
    by_cases hlt : k < n
    · have hkl : k < ls.length := by rw [← HN.out]; exact hlt
      obtain ⟨v, hv, A, c2, rfl, hc2, hr⟩ := HP.out.2 k hkl
      obtain ⟨pa, rfl, hcell⟩ := HP.out.1.2 (by omega)
      have hc0 := hcell k _ hv
      have hc1 : wr.cell? (pa.add k) = some (.slice A (ls.getD k []).length c2) := by rw [hi.below.cell (World.block_lt_of_cell? w _ hc0)]; exact hc0
      have hsrc : Src wr g3 A (ls.getD k []).length (ls.getD k []) := by
        refine ⟨hr.below hi.below, fun hp a ha => ?_⟩
        obtain ⟨a', ha', hcc⟩ := hr.2 hp
        rw [ha] at ha'
        injection ha' with ha'
        subst ha'
        have h0 : (cellsB (ls.getD k []))[0]? = some _ := List.getElem?_eq_getElem (by rw [cellsB_length]; exact hp)
        have := World.block_lt_of_cell? w _ (hcc 0 _ h0)
        rw [add_block] at this
        omega
      have hfl := flat_take ls k hkl
      have hle := flat_le ls (k + 1)
      have hlen : (ls.take k).flatten.length + (ls.getD k []).length ≤ 1000000000000 := by rw [hfl, List.length_append] at hle; omega
      have hw := write_any g3 (ls.take k).flatten (ls.getD k []) A c2 wr hi.gl hi.st hsrc hc2 (by omega) hlen
      rw [← hfl] at hw
      have HW := hide hw
      have HG := hide hi.gl
      have HB := hide hi.below
      have HR := hide hres
      clear hw hsrc hfl hle hlen hr hv hcell hc0 hi hres hkl
      generalize (ls.getD k []).length = m at *
      go_wp2_with fail
      refine HW.out.mono ?_
      rintro e w5 ⟨rfl, hst5, hF5⟩
      have FIN : Hid (PartsInv w g3 (ls.take (k + 1)).flatten w5 ∧ Blk w5 g1 25 (cellsB (List.replicate 32 0)).toArray) := ⟨⟨hst5, HG.out.frm hF5 (by omega) (by omega), below_frm HB.out hF5 HB.out.size (fun k hk => by omega)⟩, HR.out.frm hF5 hne⟩
      go_wp2_with fail
      go_roundw
      case rel => first | exact ⟨k + 1, by omega, by go_num, FIN.out⟩ | ((repeat apply Exists.intro); exact ⟨⟨k + 1, by omega, by go_num, FIN.out⟩, rfl⟩)
      case measure => simp [intOf]; omega
    · obtain rfl : k = n := by omega
      have hall : ls.take k = ls := List.take_of_length_le (by rw [← HN.out]; exact Nat.le_refl _)
      rw [hall] at hi
      have HB := hide hi.below
      have HS := hide (sum_any g3 ls.flatten wr hi.gl hi.st (by have := hi.below.size; omega) (by omega))
      have HL : Hid ((cellsB (shaL ls.flatten)).length = 32) := by show _ = _; rw [cellsB_length, shaL_length]
      have HZ : Hid ((cellsB (List.replicate 32 0)).toArray.size = 32) := rfl
      clear hi hall
      go_wp2_with fail
      refine HS.out.mono ?_
      rintro e w6 ⟨rfl, hb6⟩
      have hres6 := hres.frm (Frm.of_below (S := fun _ => False) hb6) (fun h => h)
      go_wp2_with ((with_reducible refine wpl_storea agg32 rfl (.tmp 2) (.tmp 15) rfl g1 (cellsB (shaL ls.flatten)) rfl rfl _ _ hres6 HL.out HZ.out (cellsB_one _) ?_); intro w10 hB10 hF10)
      exact ret_agg agg32 rfl rfl g1 _ _ rfl hB10 HL.out ⟨rfl, below_frm (HB.out.trans (hb6.mono HB.out.size)) hF10 (by have := HB.out.size; have := hb6.size; omega) (fun i hi => by omega)⟩

/-- Bytes as text. -/
def digs : ByteArray := ⟨#[48, 49, 50, 51, 52, 53, 54, 55, 56, 57, 97, 98, 99, 100, 101, 102]⟩
def hexB (l : List UInt8) : ByteArray := l.foldl (fun s b => s ++ digs.extract (b.toNat / 16) (b.toNat / 16 + 1) ++ digs.extract (b.toNat % 16) (b.toNat % 16 + 1)) ByteArray.empty
theorem hexB_take (l : List UInt8) (k : Nat) (h : k < l.length) : hexB (l.take (k + 1)) = hexB (l.take k) ++ digs.extract ((l.getD k 0).toNat / 16) ((l.getD k 0).toNat / 16 + 1) ++ digs.extract ((l.getD k 0).toNat % 16) ((l.getD k 0).toNat % 16 + 1) := by
  rw [List.take_succ_eq_append_getElem h, hexB, List.foldl_append, List.getD_eq_getElem?_getD, List.getElem?_eq_getElem h]
  rfl

theorem digs_size (i j : Nat) : (digs.extract i j).size ≤ 16 := by
  rw [ByteArray.size_extract]
  have : digs.size = 16 := rfl
  omega
theorem hexB_size_aux (l : List UInt8) (s : ByteArray) : (l.foldl (fun s b => s ++ digs.extract (b.toNat / 16) (b.toNat / 16 + 1) ++ digs.extract (b.toNat % 16) (b.toNat % 16 + 1)) s).size ≤ s.size + 32 * l.length := by
  induction l generalizing s with
  | nil => simp
  | cons b l ih =>
    rw [List.foldl_cons]
    refine Nat.le_trans (ih _) ?_
    rw [ByteArray.size_append, ByteArray.size_append, List.length_cons]
    have h1 := digs_size (b.toNat / 16) (b.toNat / 16 + 1)
    have h2 := digs_size (b.toNat % 16) (b.toNat % 16 + 1)
    omega
theorem hexB_size (l : List UInt8) : (hexB l).size ≤ 32 * l.length := by
  have h := hexB_size_aux l ByteArray.empty
  have h0 : ByteArray.empty.size = 0 := rfl
  rw [h0, Nat.zero_add] at h
  exact h
theorem below_drewN {B : Nat} {w w' : World} (h : Below B w w') (n : Nat) : Below B w (w'.drewN n) := ⟨h.os, h.tape, h.output, h.size, h.block⟩
theorem under9 : Tryd.prog.underlying 9 = some .string := by kernel_rfl
theorem slice_digs (h : Nat) (hh : h < 16) (w : World) : Sem.run Tryd.prog (Instr.sliceAt 9 (.string ⟨#[48, 49, 50, 51, 52, 53, 54, 55, 56, 57, 97, 98, 99, 100, 101, 102]⟩) (some (.int .u8 (h : Int))) (some (.int .u8 ((h : Int) + 1))) none) w = .ok (.string (digs.extract h (h + 1))) w := by
  have h1 : (0 : Int) ≤ (h : Int) + 1 := by omega
  have h2 : (h : Int) + 1 ≤ 16 := by omega
  have h3 : ((h : Int) + 1).toNat = h + 1 := by omega
  have h4 : (⟨#[48, 49, 50, 51, 52, 53, 54, 55, 56, 57, 97, 98, 99, 100, 101, 102]⟩ : ByteArray).size = 16 := rfl
  simp only [Instr.sliceAt, Instr.slice, run_underlying under9, Sem.run_bind, Result.andThen_ok, Instr.sliceBounds, Instr.sliceBound, asIntOf, h4]
  simp [h1, h2, h3, digs]

set_option maxHeartbeats 4000000 in
theorem hex_any (l : List UInt8) (w : World) (hl : l.length = 32) :
    Calls Tryd.prog 24 #[.agg (cellsB l).toArray] w fun e w' => e = .returned (.string (hexB l)) ∧ Below w.heap.size w w' := by
  have HL := hide hl
  clear hl
  go_enter Tryd.func24, Tryd.ntmps24
  go_wp2_with fail
  have hB0 : Blk (w.alloc (.cells (cellsB l).toArray 25)) w.heap.size 25 (cellsB l).toArray := Blk.new _ _ _
  have hF0 : Frm (fun _ => False) w (w.alloc (.cells (cellsB l).toArray 25)) := Frm.alloc _ _ _
  have HI := hide (show Blk (w.alloc (.cells (cellsB l).toArray 25)) w.heap.size 25 (cellsB l).toArray ∧ Below w.heap.size w (w.alloc (.cells (cellsB l).toArray 25)) from ⟨hB0, hF0.below (Nat.le_refl _) (fun k hk => hk.elim)⟩)
  clear hB0 hF0
  generalize hgw : w.heap.size = g at *
  have HGW := hide hgw
  clear hgw
  generalize w.alloc (.cells (cellsB l).toArray 25) = w1 at *
  go_loopw [3, 4] (fun s i wr => ∃ k : Nat, k ≤ 32 ∧ i = .int .i64 k ∧ s = .string (hexB (l.take k)) ∧ Blk wr g 25 (cellsB l).toArray ∧ Below g w wr) (fun _ i _ => 32 - (intOf i).toNat)
  case atStart => exact ⟨0, by omega, rfl, rfl, HI.out⟩
  case round =>
    clear HI
    obtain ⟨k, hk, rfl, rfl, hb, hbel⟩ := hrel
    by_cases hlt : k < 32
    · have hc : wr.cell? ⟨g, k, none⟩ = some (.int .u8 ((l.getD k 0).toNat : Int)) := by
        rw [hb.cell, List.getElem?_toArray, cellsB_get, List.getD_eq_getElem?_getD, List.getElem?_eq_getElem (by rw [HL.out]; exact hlt)]
        rfl
      have HT := hide (hexB_take l k (by rw [HL.out]; exact hlt))
      have hx := (l.getD k 0).toNat_lt
      obtain ⟨h, hh⟩ : ∃ h, h = (l.getD k 0).toNat / 16 := ⟨_, rfl⟩
      obtain ⟨lo, hlo⟩ : ∃ lo, lo = (l.getD k 0).toNat % 16 := ⟨_, rfl⟩
      rw [← hh, ← hlo] at HT
      generalize (l.getD k 0).toNat = x at *
      have e1 : Int.tdiv (x : Int) 16 = (h : Int) := by rw [Int.tdiv_eq_ediv_of_nonneg (by omega)]; omega
      have e2 : Int.tmod (x : Int) 16 = (lo : Int) := by rw [Int.tmod_eq_emod_of_nonneg (by omega)]; omega
      have e1' : (x : Int) / 16 = (h : Int) := by omega
      have e2' : (x : Int) % 16 = (lo : Int) := by omega
      have hh16 : h < 16 := by omega
      have hl16 : lo < 16 := by omega
      have e3 : IntKind.u8.wrap ((h : Int) + 1) = (h : Int) + 1 := by rw [IntKind.wrap_u8]; omega
      have e4 : IntKind.u8.wrap ((lo : Int) + 1) = (lo : Int) + 1 := by rw [IntKind.wrap_u8]; omega
      have e5 : IntKind.u8.wrap (h : Int) = (h : Int) := by rw [IntKind.wrap_u8]; omega
      have e6 : IntKind.u8.wrap (lo : Int) = (lo : Int) := by rw [IntKind.wrap_u8]; omega
      have hs1 := slice_digs h hh16
      have hs2 := slice_digs lo hl16
      clear hh hlo
      have d1 : ∃ d1, d1 = digs.extract h (h + 1) := ⟨_, rfl⟩
      have d2 : ∃ d2, d2 = digs.extract lo (lo + 1) := ⟨_, rfl⟩
      obtain ⟨d1, hd1⟩ := d1
      obtain ⟨d2, hd2⟩ := d2
      have z1 := digs_size h (h + 1)
      have z2 := digs_size lo (lo + 1)
      have z3 := hexB_size (l.take k)
      have z4 : (l.take k).length ≤ k := List.length_take_le _ _
      rw [← hd1] at hs1 HT z1
      rw [← hd2] at hs2 HT z2
      clear hd1 hd2
      generalize hexB (l.take k) = s at *
      have y1 : ∀ w, Sem.run Tryd.prog (Op.stringOp .add s d1) w = .ok (.string (s ++ d1)) w := fun w => run_string_add_sum w s d1 (by omega)
      have y2 : ∀ w, Sem.run Tryd.prog (Op.stringOp .add (s ++ d1) d2) w = .ok (.string (s ++ d1 ++ d2)) w := fun w => run_string_add_sum w _ _ (by rw [ByteArray.size_append]; omega)
      have y3 : s.size + d1.size ≤ 9223372036854775807 := by omega
      have y4 : s.size + d1.size + d2.size ≤ 9223372036854775807 := by omega
      clear z1 z2 z3 z4
      go_wp2_with fail
      go_quiet (fail)
      go_wp2
      go_roundw
      case rel => exact ⟨k + 1, by omega, by go_num, by rw [HT.out], hb, below_drewN hbel nq⟩
      case measure => simp [intOf]; omega
    · obtain rfl : k = 32 := by omega
      have hall : l.take 32 = l := List.take_of_length_le (by rw [HL.out]; exact Nat.le_refl _)
      rw [hall]
      clear hall
      go_wp2_with fail
      go_ret
      exact ⟨rfl, by rw [HGW.out]; exact hbel⟩

theorem hex_abc : hexB (shaL abcL) = ⟨#[98, 97, 55, 56, 49, 54, 98, 102, 56, 102, 48, 49, 99, 102, 101, 97, 52, 49, 52, 49, 52, 48, 100, 101, 53, 100, 97, 101, 50, 50, 50, 51, 98, 48, 48, 51, 54, 49, 97, 51, 57, 54, 49, 55, 55, 97, 57, 99, 98, 52, 49, 48, 102, 102, 54, 49, 102, 50, 48, 48, 49, 53, 97, 100]⟩ := by kernel_rfl
theorem hex_none : hexB (shaL []) = ⟨#[101, 51, 98, 48, 99, 52, 52, 50, 57, 56, 102, 99, 49, 99, 49, 52, 57, 97, 102, 98, 102, 52, 99, 56, 57, 57, 54, 102, 98, 57, 50, 52, 50, 55, 97, 101, 52, 49, 101, 52, 54, 52, 57, 98, 57, 51, 52, 99, 97, 52, 57, 53, 57, 57, 49, 98, 55, 56, 53, 50, 98, 56, 53, 53]⟩ := by kernel_rfl

theorem under5 : Tryd.prog.underlying 5 = some (.int .u8) := by kernel_rfl
theorem alloc_rds (w : World) (C : List Value) (e : TypeId) (fr : Nat × Nat) : Rds (w.alloc (.cells C.toArray e fr)) (some ⟨w.heap.size, 0, none⟩) C.length C := by
  refine ⟨rfl, fun _ => ⟨_, rfl, fun j u hu => ?_⟩⟩
  rw [addr_add, cell_of_row _ _ _ C.toArray e fr (heap_alloc_new w _)]
  simpa using hu
theorem one_part (w : World) (v : Value) (l : List UInt8) (e : TypeId) (h : Prt w v l) : Prts (w.alloc (.cells #[v] e)) (some ⟨w.heap.size, 0, none⟩) [v] [l] := by
  refine ⟨alloc_rds w [v] e (0, 0), fun k hk => ⟨v, ?_, ?_⟩⟩
  · obtain rfl : k = 0 := by simpa using hk
    rfl
  · obtain rfl : k = 0 := by simpa using hk
    exact h.below ((Frm.alloc w _ (fun _ => False)).below (Nat.le_refl _) (fun _ h => h.elim))

set_option maxHeartbeats 4000000 in
theorem shown_any (w : World) (hG : Gl w) (hg0 : 2 ≤ w.heap.size) :
    Calls Tryd.prog 15 #[] w fun e w' => e = .returned (.bool true) ∧ Below w.heap.size w w' := by
  have kc := fun (w : World) (C : Array Value) (n c : Nat) => Lib.run_convert_bytes_const (P := Tryd.prog) w 24 5 C n c under24 under5
  go_enter Tryd.func15, Tryd.ntmps15
  go_wp2_with fail
  have hF1 : Frm (fun _ => False) w (w.alloc (.cells #[.int .u8 97, .int .u8 98, .int .u8 99] 5 (3, 4))) := Frm.alloc _ _ _
  have hp1 : Prt (w.alloc (.cells #[.int .u8 97, .int .u8 98, .int .u8 99] 5 (3, 4))) (.slice (some ⟨w.heap.size, 0, none⟩) 3 3) abcL := ⟨_, _, rfl, Nat.le_refl _, alloc_rds w (cellsB abcL) 5 (3, 4)⟩
  have hsz : (w.alloc (.cells #[.int .u8 97, .int .u8 98, .int .u8 99] 5 (3, 4))).heap.size = w.heap.size + 1 := by simp
  generalize w.alloc (.cells #[.int .u8 97, .int .u8 98, .int .u8 99] 5 (3, 4)) = w1 at *
  rw [← hsz]
  have hps := one_part w1 _ abcL 24 hp1
  have hF2 : Frm (fun _ => False) w (w1.alloc (.cells #[.slice (some ⟨w.heap.size, 0, none⟩) 3 3] 24)) := hF1.trans (Frm.alloc _ _ _) (fun _ _ h => h)
  generalize w1.alloc (.cells #[.slice (some ⟨w.heap.size, 0, none⟩) 3 3] 24) = w2 at *
  clear hsz hp1 hF1 kc
  refine (sums_any (some ⟨w1.heap.size, 0, none⟩) 1 _ [abcL] w2 (hG.frm hF2 (fun h => h) (fun h => h)) hps (by have := hF2.size; omega) (by decide) (by decide)).mono ?_
  rintro e w3 ⟨rfl, hb3⟩
  have hF3 : Frm (fun _ => False) w w3 := hF2.trans (Frm.of_below hb3) (fun _ _ h => h)
  have HA : Hid (hexB (shaL [abcL].flatten) = _) := hex_abc
  have HN : Hid (hexB (shaL ([] : List (List UInt8)).flatten) = _) := hex_none
  have h1 := hex_any (shaL [abcL].flatten) w3 (shaL_length _)
  have h2 := fun w4 (hG : Gl w4) (h : 2 ≤ w4.heap.size) => sums_any none 0 [] [] w4 hG ⟨⟨rfl, fun h => absurd h (by decide)⟩, fun k hk => absurd hk (by simp)⟩ h (by decide) (by decide)
  have h3 := fun w5 => hex_any (shaL ([] : List (List UInt8)).flatten) w5 (shaL_length _)
  rw [HA.out] at h1
  have h3' := h3
  simp only [HN.out] at h3'
  have H1 := hide h1
  have H2 := hide h2
  have H3 := hide h3'
  clear h1 h2 h3 h3' HA HN hps hb3 hF2
  generalize (cellsB (shaL [abcL].flatten)).toArray = c1 at *
  generalize (cellsB (shaL ([] : List (List UInt8)).flatten)).toArray = c2 at *
  go_wp2_with fail
  refine H1.out.mono ?_
  rintro e w4 ⟨rfl, hb4⟩
  have hF4 : Frm (fun _ => False) w w4 := hF3.trans (Frm.of_below hb4) (fun _ _ h => h)
  go_wp2_with fail
  refine (H2.out w4 (hG.frm hF4 (fun h => h) (fun h => h)) (by have := hF4.size; omega)).mono ?_
  rintro e w5 ⟨rfl, hb5⟩
  have hF5 : Frm (fun _ => False) w w5 := hF4.trans (Frm.of_below hb5) (fun _ _ h => h)
  go_wp2_with fail
  refine (H3.out w5).mono ?_
  rintro e w6 ⟨rfl, hb6⟩
  have hF6 : Frm (fun _ => False) w w6 := hF5.trans (Frm.of_below hb6) (fun _ _ h => h)
  go_wp2_with fail
  go_ret
  exact ⟨rfl, hF6.below (Nat.le_refl _) (fun _ h => h.elim)⟩
end Go.Proofs.YtbicjcpdcopbhaaDoor
