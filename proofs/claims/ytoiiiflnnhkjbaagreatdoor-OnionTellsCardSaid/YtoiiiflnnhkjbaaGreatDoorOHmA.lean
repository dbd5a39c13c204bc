/-
  What an HMAC is.
-/
import Derived.Test.YtoiiiflnnhkjbaaGreatDoorHp
import Derived.Test.YtoiiiflnnhkjbaaGreatDoorOShB
import Derived.Test.YtoiiiflnnhkjbaaGreatDoorOSlA
import Derived.Deep.RegionLaw
import Derived.IntWalk
namespace Go.Proofs.YtoiiiflnnhkjbaaGreatDoor
set_option linter.unusedVariables false
open Go.RowKit

/-- Slices of bytes that came in, in a slice. -/
def Rows2 (W : World) (A : Option Addr) (len : Nat) (L : Nat → List UInt8) : Prop :=
  0 < len → ∃ a, A = some a ∧ ∀ r, r < len → ∃ Ar cr, W.cell? (a.add r) = some (.slice Ar (L r).length cr) ∧ (L r).length ≤ cr ∧ cr ≤ 9223372036854775807 ∧ Rds W Ar (L r).length (cellsB (L r))
theorem one_sl : One Tryz.prog 111 46 (.slice none 0 0) 24 := One.of (by kernel_rfl) (by kernel_rfl) rfl
inductive OwnAll (w : World) (B : Nat) : List Value → List (List UInt8) → Prop
  | nil : OwnAll w B [] []
  | cons {v : Value} {l : List UInt8} {vs : List Value} {ls : List (List UInt8)} : w.ownsRow B 5 1 v l.length (cellsB l) → OwnAll w B vs ls → OwnAll w B (v :: vs) (l :: ls)
theorem OwnAll.frm {S : Nat → Prop} {w w' : World} {B : Nat} {vs : List Value} {ls : List (List UInt8)} (h : OwnAll w B vs ls) (f : Frm S w w') (hS : ∀ g cur, Blk w g 5 cur → ¬ S g) : OwnAll w' B vs ls := by
  induction h with
  | nil => exact .nil
  | cons ho _ ih =>
    refine .cons (own_frm ho f (fun k hk => ?_)) ih
    rcases ho.2 with ⟨rfl, _⟩ | ⟨g, cap, cur, rfl, _, hg, _⟩
    · cases hk
    · have : g = k := by simpa [Value.ownBlock] using hk
      subst this
      exact hS g cur hg
theorem OwnAll.all2 {w : World} {B : Nat} {vs : List Value} {ls : List (List UInt8)} (h : OwnAll w B vs ls) : All2 w vs ls := by
  induction h with
  | nil => exact .nil
  | cons ho _ ih => exact .cons (prt_own ho) ih
theorem OwnAll.length {w : World} {B : Nat} {vs : List Value} {ls : List (List UInt8)} (h : OwnAll w B vs ls) : vs.length = ls.length := h.all2.length
def xorL (c : UInt8) (l : List UInt8) : List UInt8 := l.map (· ^^^ c)
theorem xorL_length (c : UInt8) (l : List UInt8) : (xorL c l).length = l.length := by simp [xorL]
def keyL (k : List UInt8) : List UInt8 := if 64 < k.length then shaL k else k
theorem keyL_le (k : List UInt8) : (keyL k).length ≤ 64 := by
  unfold keyL
  split
  · rw [shaL_length]; omega
  · omega
def padK (k : List UInt8) : List UInt8 := keyL k ++ List.replicate (64 - (keyL k).length) 0
theorem padK_length (k : List UInt8) : (padK k).length = 64 := by have := keyL_le k; simp [padK]; omega
def macL (k m : List UInt8) : List UInt8 := shaL (xorL 92 (padK k) ++ shaL (xorL 54 (padK k) ++ m))
theorem macL_length (k m : List UInt8) : (macL k m).length = 32 := shaL_length _
set_option maxRecDepth 100000 in
set_option maxHeartbeats 2000000 in
theorem xorEach_any (g : Nat) (c : UInt8) (l : List UInt8) (w : World) (hb : Blk w g 84 (cellsB l).toArray) (hl : l.length = 64) :
    Calls Tryz.prog 79 #[.pointer (some ⟨g, 0, none⟩), .int .u8 (c.toNat : Int)] w fun e w' => e = .returned (.tuple #[]) ∧ Blk w' g 84 (cellsB (xorL c l)).toArray ∧ Frm (fun k => k = g) w w' := by
  have HB := hide hb
  clear hb
  have hp : (xorL c l).length = l.length := xorL_length c l
  go_enter Tryz.func79, Tryz.ntmps79
  go_wp2_with fail
  go_loopw [5] (fun i wr => ∃ k : Nat, k ≤ 64 ∧ i = .int .i64 k ∧ Blk wr g 84 (cellsB (mix (xorL c l) l k)).toArray ∧ Frm (fun k => k = g) w wr) (fun i _ => 64 - (intOf i).toNat)
  case atStart => exact ⟨0, by omega, rfl, by rw [mix_zero]; exact HB.out, Frm.refl _ _⟩
  case round =>
    clear HB
    obtain ⟨k, hk, rfl, hi, hf⟩ := hrel
    by_cases hlt : k < 64
    · have hc1 : wr.cell? ⟨g, k, none⟩ = some (.int .u8 ((l.getD k 0).toNat : Int)) := by
        rw [hi.cell, List.getElem?_toArray, cellsB_get, mix_at _ _ _ hp (by omega), ← cellsB_get, getD_byte _ _ (by omega)]
      have hf1 := hi.frozen k
      have hx := byte_xor (l.getD k 0) c
      have hset := mix_set (xorL c l) l k (l.getD k 0 ^^^ c) hp (by omega) (by
        rw [xorL, List.getElem?_map, List.getD_eq_getElem?_getD, List.getElem?_eq_getElem (by omega)]; rfl)
      have fin : Blk (wr.drew.setCell ⟨g, k, none⟩ (.int .u8 ((l.getD k 0 ^^^ c).toNat : Int))) g 84 (cellsB (mix (xorL c l) l (k + 1))).toArray ∧ Frm (fun k => k = g) w (wr.drew.setCell ⟨g, k, none⟩ (.int .u8 ((l.getD k 0 ^^^ c).toNat : Int))) := by
        have hb := hi.set k (.int .u8 ((l.getD k 0 ^^^ c).toNat : Int))
        rw [List.setIfInBounds_toArray, cellsB_set, hset] at hb
        exact ⟨hb, (hf.drew).trans (Frm.setCell _ _ _ (fun i => i = g) rfl) (fun _ _ h => h)⟩
      have FIN := hide fin
      have HS := hide hi
      clear fin hset hi hf
      generalize (l.getD k 0 ^^^ c).toNat = z at *
      generalize (l.getD k 0).toNat = x at *
      generalize c.toNat = y at *
      go_wp2_with fail
      go_still_tail 9, (by kernel_rfl)
      have hc1' : wr.drew.cell? ⟨g, k, none⟩ = some (.int .u8 (x : Nat)) := hc1
      have hf1' : wr.drew.frozen? ⟨g, k, none⟩ = false := hf1
      change wpList _ _ _ _ _ wr.drew
      go_wp2
      go_roundw
      case rel => exact ⟨k + 1, by omega, by go_num, FIN.out⟩
      case measure => simp [intOf]; omega
    · obtain rfl : k = 64 := by omega
      rw [mix_all _ _ _ hp (by omega)] at hi
      go_wp2_with fail
      exact end0 rfl rfl ⟨rfl, hi, hf⟩
theorem pad_splice (x : List UInt8) (h : x.length ≤ 64) : splice (cellsB (List.replicate 64 0)) 0 (cellsB (x.take x.length)) = cellsB (x ++ List.replicate (64 - x.length) 0) := by
  have h1 : x.take x.length = x := List.take_of_length_le (Nat.le_refl _)
  have h2 : (List.replicate 64 (0 : UInt8)).drop x.length = List.replicate (64 - x.length) 0 := List.drop_replicate ..
  rw [h1, splice, List.take_zero, List.nil_append, Nat.zero_add, cellsB_length, cellsB_drop, h2, cellsB_append]
set_option maxRecDepth 100000 in
set_option maxHeartbeats 4000000 in
theorem padded_any (A : Option Addr) (n c : Nat) (key : List UInt8) (w : World) (hG : Gl w) (hg0 : 4 ≤ w.heap.size) (hr : Rds w A n (cellsB key)) (hc : n ≤ c) (hn : n ≤ 1000000) :
    Calls Tryz.prog 78 #[.slice A n c] w fun e w' => e = .returned (.agg (cellsB (padK key)).toArray) ∧ Below w.heap.size w w' := by
  have hkl : key.length = n := by have := hr.1; rwa [cellsB_length] at this
  have HL : Hid ((cellsB (padK key)).length = 64) := by show _ = _; rw [cellsB_length, padK_length]
  have HX2 : Hid (((cellsB (padK key)).drop 0).take 64 = cellsB (padK key)) := by show _ = _; rw [List.drop_zero, List.take_of_length_le (by rw [HL.out]; exact Nat.le_refl _)]
  have HXl : Hid (0 + 64 ≤ (cellsB (padK key)).length) := by show _ ≤ _; rw [HL.out]; exact Nat.le_refl _
  have hsl : ∀ g w, Sem.run Tryz.prog (Instr.sliceAt 84 (.pointer (some ⟨g, 0, none⟩)) none none none) w = .ok (.slice (some ⟨g, 0, none⟩) 64 64) w := fun g w => run_slice_arr0 (P := Tryz.prog) (t := 84) (e := 5) (N := 64) under64b size8 g 0 (by omega) w
  have hsl3 : ∀ g w, Sem.run Tryz.prog (Instr.sliceAt 25 (.pointer (some ⟨g, 0, none⟩)) none none none) w = .ok (.slice (some ⟨g, 0, none⟩) 32 32) w := fun g w => run_slice_arr0 (P := Tryz.prog) (t := 25) (e := 5) (N := 32) under25 size8 g 0 (by omega) w
  have HK := hide hkl
  have HR := hide hr
  clear hr hkl
  go_enter Tryz.func78, Tryz.ntmps78
  by_cases h64 : 64 < n
  · have hki : (64 : Int) < (n : Int) := by omega
    have Hkey : Hid (keyL key = shaL key) := by show _ = _; unfold keyL; rw [if_pos (by rw [HK.out]; exact h64)]
    go_wp2_with ((with_reducible refine wpl_alloca (op := ⟨some 2, _, _, _, _, _⟩) rfl _ rfl _ zero64b ?_); intro g1 w1 hB1 hs1 hF1)
    have hp1 : Prt w1 (.slice A n c) key := ⟨A, c, by rw [HK.out], by rw [HK.out]; exact hc, by rw [HK.out]; exact HR.out.frm hF1 (fun _ _ _ h => h)⟩
    refine (sums_row w1 [.slice A n c] [key] (.cons hp1 .nil) (hG.frm hF1 (fun h => h) (fun h => h)) (by have := hF1.size; omega) (by simp; have := HK.out; omega) (by simp)).mono ?_
    rintro e w2 ⟨rfl, hb2⟩
    have hfl : [key].flatten = key := by simp
    rw [hfl]
    have hF2 : Frm (fun _ => False) w1 w2 := Frm.of_below hb2
    have HLs : Hid ((cellsB (shaL key)).length = 32) := shaC_length _
    have hb1 := hB1.frm hF2 (fun h => h)
    have hbl2 : Below w.heap.size w w2 := (hF1.trans hF2 (fun _ _ h => h)).below (Nat.le_refl _) (fun _ h => h.elim)
    have HMN : Hid (32 = Nat.min 32 64) := rfl
    have HSP : Hid (splice (cellsB (List.replicate 64 0)) 0 (cellsB ((shaL key).take 32)) = cellsB (padK key)) := by
      show _ = _
      have := pad_splice (shaL key) (by rw [shaL_length]; omega)
      rw [shaL_length] at this
      rw [this, padK, Hkey.out, shaL_length]
    have hg1 : g1 < w2.heap.size := hb1.lt
    clear hp1 hb2 hF2 hB1 hF1 hfl hG HK HR Hkey
    generalize shaL key = x at *
    go_wp2_with (first
      | ((with_reducible refine wpl_alloca (op := ⟨some 3, _, _, _, _, _⟩) rfl _ rfl _ zero32 ?_); intro g3 w3 hB3 hs3 hF3)
      | ((with_reducible refine wpl_storea agg32 rfl (.tmp 3) (.tmp 10) rfl g3 (cellsB x) rfl rfl _ _ hB3 HLs.out zero32_size (cellsB_one _) ?_); intro w4 hB4 hF4; have hne : g1 ≠ g3 := (by omega); have hBr := (hb1.frm hF3 (fun h => h)).frm hF4 hne; have hrd := hB4.rds; rw [HLs.out] at hrd; have hbl := below_frm (below_frm hbl2 hF3 hbl2.size (fun _ h => h.elim)) hF4 (by have := hbl2.size; have := hF3.size; omega) (fun k hk => by have := hbl2.size; omega))
      | ((with_reducible refine wpl_alloca (op := ⟨some 4, _, _, _, _, _⟩) rfl _ rfl _ zero64b ?_); intro g4 w5 hB5 hs5 hF5; have hr5 := hrd.frm hF5 (fun _ _ _ h => h))
      | ((with_reducible refine wpl_copyR rfl (.tmp 12) (.tmp 13) rfl g4 0 64 64 (some ⟨g3, 0, none⟩) 32 32 32 rfl rfl (cellsB (List.replicate 64 0)) _ hB5 x hr5 HMN.out (by decide) ?_); intro w6 hB6 hF6; rw [HSP.out] at hB6; have hb16 := (hBr.frm hF5 (fun h => h)).frm hF6 (by have := hBr.lt; omega))
      | (with_reducible refine wpl_loada (op := ⟨some 15, _, _, _, _, _⟩) agg64b rfl _ rfl g4 0 rfl _ _ _ hB6 HX2.out HXl.out ?_)
      | ((with_reducible refine wpl_storea agg64b rfl (.tmp 2) (.tmp 15) rfl g1 (cellsB (padK key)) rfl rfl _ _ hb16 HL.out rfl (cellsB_one _) ?_); intro w10 hB10 hF10))
    have FF : Frm (fun k => k = g4 ∨ k = g1) w4 w10 := ((hF5.mono (T := fun k => k = g4 ∨ k = g1) (fun _ _ h => h.elim)).trans hF6 (fun _ _ h => .inl h)).trans hF10 (fun _ _ h => .inr h)
    exact ret_agg agg64b rfl rfl g1 _ _ rfl hB10 HL.out ⟨rfl, below_frm hbl FF hbl.size (fun k hk => by have := hbl.size; omega)⟩
  · have hki : ¬ ((64 : Int) < (n : Int)) := by omega
    obtain ⟨x, hx⟩ : ∃ x, x = keyL key := ⟨_, rfl⟩
    have Hkey : Hid (keyL key = key) := by show _ = _; unfold keyL; rw [if_neg (by rw [HK.out]; exact h64)]
    rw [Hkey.out] at hx
    subst hx
    have HMN : Hid (n = Nat.min n 64) := (Nat.min_eq_left (by omega)).symm
    have HSP : Hid (splice (cellsB (List.replicate 64 0)) 0 (cellsB (x.take n)) = cellsB (padK x)) := by
      show _ = _
      have := pad_splice x (by rw [HK.out]; omega)
      rw [HK.out] at this
      rw [this, padK, Hkey.out, HK.out]
    go_wp2_with (first
      | ((with_reducible refine wpl_alloca (op := ⟨some 2, _, _, _, _, _⟩) rfl _ rfl _ zero64b ?_); intro g1 w1 hBr hs1 hF1; have hrd := HR.out.frm hF1 (fun _ _ _ h => h); have hbl := hF1.below (Nat.le_refl _) (fun _ h => h.elim))
      | ((with_reducible refine wpl_alloca (op := ⟨some 4, _, _, _, _, _⟩) rfl _ rfl _ zero64b ?_); intro g4 w5 hB5 hs5 hF5; have hr5 := hrd.frm hF5 (fun _ _ _ h => h))
      | ((with_reducible refine wpl_copyR rfl (.tmp 12) (.tmp 13) rfl g4 0 64 64 A n c n rfl rfl (cellsB (List.replicate 64 0)) _ hB5 x hr5 HMN.out (by decide) ?_); intro w6 hB6 hF6; rw [HSP.out] at hB6; have hb16 := (hBr.frm hF5 (fun h => h)).frm hF6 (by have := hBr.lt; omega))
      | (with_reducible refine wpl_loada (op := ⟨some 15, _, _, _, _, _⟩) agg64b rfl _ rfl g4 0 rfl _ _ _ hB6 HX2.out HXl.out ?_)
      | ((with_reducible refine wpl_storea agg64b rfl (.tmp 2) (.tmp 15) rfl g1 (cellsB (padK x)) rfl rfl _ _ hb16 HL.out rfl (cellsB_one _) ?_); intro w10 hB10 hF10))
    have FF : Frm (fun k => k = g4 ∨ k = g1) w1 w10 := ((hF5.mono (T := fun k => k = g4 ∨ k = g1) (fun _ _ h => h.elim)).trans hF6 (fun _ _ h => .inl h)).trans hF10 (fun _ _ h => .inr h)
    exact ret_agg agg64b rfl rfl g1 _ _ rfl hB10 HL.out ⟨rfl, below_frm hbl FF hbl.size (fun k hk => by have := hbl.size; omega)⟩
theorem pad_src {w : World} {g gs : Nat} {l : List UInt8} (h : Blk w g 84 (cellsB l).toArray) (hl : l.length = 64) (hne : g ≠ gs) : Src w gs (some ⟨g, 0, none⟩) 64 l := by
  have := h.rds
  rw [cellsB_length, hl] at this
  exact ⟨this, fun _ a ha => by injection ha with ha; subst ha; exact hne⟩
structure MacInv (w : World) (g4 g6 g7 : Nat) (o l : List UInt8) (wr : World) : Prop where
  st : St wr g7 l
  gl : Gl wr
  res : Blk wr g4 25 (cellsB (List.replicate 32 0)).toArray
  out : Blk wr g6 84 (cellsB o).toArray
  below : Below w.heap.size w wr
set_option maxHeartbeats 8000000 in
set_option maxRecDepth 100000 in
theorem mac_any (A : Option Addr) (n c : Nat) (key : List UInt8) (PA : Option Addr) (pc : Nat) (vs : List Value) (ls : List (List UInt8)) (w : World) (hG : Gl w) (hg0 : 4 ≤ w.heap.size) (hr : Rds w A n (cellsB key)) (hc : n ≤ c) (hn : n ≤ 1000000)
    (hP : Prts w PA vs ls) (hl : ls.flatten.length ≤ 1000000000) (hln : ls.length ≤ 1000000) :
    Calls Tryz.prog 56 #[.slice A n c, .slice PA ls.length pc] w fun e w' => e = .returned (.agg (cellsB (macL key ls.flatten)).toArray) ∧ Below w.heap.size w w' := by
  have HR := hide hr
  have HP := hide hP
  have HLP : Hid ((cellsB (padK key)).length = 64) := by show _ = _; rw [cellsB_length, padK_length]
  have HX2 : Hid (((cellsB (padK key)).drop 0).take 64 = cellsB (padK key)) := by show _ = _; rw [List.drop_zero, List.take_of_length_le (by rw [HLP.out]; exact Nat.le_refl _)]
  have HXl : Hid (0 + 64 ≤ (cellsB (padK key)).length) := by show _ ≤ _; rw [HLP.out]; exact Nat.le_refl _
  have HPK := hide (padK_length key)
  have HMA : Hid (macL key ls.flatten = shaL (xorL 92 (padK key) ++ shaL (xorL 54 (padK key) ++ ls.flatten))) := rfl
  have HZ : Hid ((cellsB (List.replicate 64 0)).toArray.size = 64) := rfl
  obtain ⟨N, hnn⟩ : ∃ n, n = ls.length := ⟨_, rfl⟩
  have HN := hide hnn
  rw [← hnn] at hln ⊢
  have hsl : ∀ g w, Sem.run Tryz.prog (Instr.sliceAt 84 (.pointer (some ⟨g, 0, none⟩)) none none none) w = .ok (.slice (some ⟨g, 0, none⟩) 64 64) w := fun g w => run_slice_arr0 (P := Tryz.prog) (t := 84) (e := 5) (N := 64) under64b size8 g 0 (by omega) w
  have hsl3 : ∀ g w, Sem.run Tryz.prog (Instr.sliceAt 25 (.pointer (some ⟨g, 0, none⟩)) none none none) w = .ok (.slice (some ⟨g, 0, none⟩) 32 32) w := fun g w => run_slice_arr0 (P := Tryz.prog) (t := 25) (e := 5) (N := 32) under25 size8 g 0 (by omega) w
  clear hr hP hnn
  go_enter Tryz.func56, Tryz.ntmps56
  go_wp2_with ((with_reducible refine wpl_alloca (op := ⟨some 4, _, _, _, _, _⟩) rfl _ rfl _ zero32 ?_); intro g4 w1 hB1 hs1 hF1)
  refine (padded_any A n c key w1 (hG.frm hF1 (fun h => h) (fun h => h)) (by have := hF1.size; omega) (HR.out.frm hF1 (fun _ _ _ h => h)) hc hn).mono ?_
  rintro e w2 ⟨rfl, hb2⟩
  have hF2 : Frm (fun _ => False) w1 w2 := Frm.of_below hb2
  clear HR hb2
  generalize padK key = pk at *
  go_wp2_with (first
    | ((with_reducible refine wpl_alloca (op := ⟨some 5, _, _, _, _, _⟩) rfl _ rfl _ zero64b ?_); intro g5 w3 hB3 hs3 hF3)
    | ((with_reducible refine wpl_storea agg64b rfl (.tmp 5) (.tmp 12) rfl g5 (cellsB pk) rfl rfl _ _ hB3 HLP.out HZ.out (cellsB_one _) ?_); intro w4 hB4 hF4)
    | (with_reducible refine wpl_loada (op := ⟨some 13, _, _, _, _, _⟩) agg64b rfl _ rfl g5 0 rfl _ _ _ hB4 HX2.out HXl.out ?_)
    | ((with_reducible refine wpl_alloca (op := ⟨some 6, _, _, _, _, _⟩) rfl _ rfl _ zero64b ?_); intro g6 w5 hB5 hs5 hF5)
    | ((with_reducible refine wpl_storea agg64b rfl (.tmp 6) (.tmp 13) rfl g6 (cellsB pk) rfl rfl _ _ hB5 HLP.out HZ.out (cellsB_one _) ?_); intro w6 hB6 hF6))
  have hn45 : g4 ≠ g5 := by have := hB1.lt; have := hF2.size; omega
  have hn46 : g4 ≠ g6 := by have := hB1.lt; have := hF2.size; have := hF3.size; have := hF4.size; omega
  have hn56 : g5 ≠ g6 := by have := hB4.lt; omega
  have h4 := ((((hB1.frm hF2 (fun h => h)).frm hF3 (fun h => h)).frm hF4 hn45).frm hF5 (fun h => h)).frm hF6 hn46
  have h5 := (hB4.frm hF5 (fun h => h)).frm hF6 hn56
  have hg5 : w.heap.size ≤ g5 := by have := hF1.size; have := hF2.size; omega
  have hg6 : w.heap.size ≤ g6 := by have := hF1.size; have := hF2.size; have := hF3.size; have := hF4.size; omega
  have F06 : Frm (fun k => k = g5 ∨ k = g6) w w6 := (((((hF1.trans hF2 (fun _ _ h => h)).trans hF3 (fun _ _ h => h)).mono (T := fun k => k = g5 ∨ k = g6) (fun _ _ h => h.elim)).trans hF4 (fun _ _ h => .inl h)).trans hF5 (fun _ _ h => h.elim)).trans hF6 (fun _ _ h => .inr h)
  have hG6 := hG.frm F06 (by omega) (by omega)
  clear hB1 hB3 hB4 hB5 hF1 hF2 hF3 hF4 hF5 hF6 hG
  refine (xorEach_any g5 54 pk w6 h5 HPK.out).mono ?_
  rintro e w7 ⟨rfl, h5, hF7⟩
  have h47 := h4.frm hF7 hn45
  have h67 := hB6.frm hF7 (fun h => hn56 h.symm)
  have hG7 := hG6.frm hF7 (by omega) (by omega)
  have F07 := F06.trans hF7 (fun _ _ h => .inl h)
  clear h4 hB6 hG6 F06 hF7
  go_wp2_with fail
  refine (xorEach_any g6 92 pk w7 h67 HPK.out).mono ?_
  rintro e w8 ⟨rfl, h6, hF8⟩
  have h48 := h47.frm hF8 hn46
  have h58 := h5.frm hF8 hn56
  have hG8 := hG7.frm hF8 (by omega) (by omega)
  have F08 := F07.trans hF8 (fun _ _ h => .inr h)
  clear h47 h67 hG7 F07 hF8
  go_wp2_with ((with_reducible refine wpl_alloca (op := ⟨some 7, _, _, _, _, _⟩) rfl _ rfl _ zeroSt ?_); intro g7 w9 hB9 hs9 hF9)
  have hn47 : g4 ≠ g7 := by have := h48.lt; omega
  have hn57 : g5 ≠ g7 := by have := h58.lt; omega
  have hn67 : g6 ≠ g7 := by have := h6.lt; omega
  have hg7 : w.heap.size ≤ g7 := by have := F08.size; omega
  have HXI : Hid ((xorL 54 pk).length = 64) := by show _ = _; rw [xorL_length, HPK.out]
  have HXO : Hid ((xorL 92 pk).length = 64) := by show _ = _; rw [xorL_length, HPK.out]
  have hw := write_any g7 [] (xorL 54 pk) (some ⟨g5, 0, none⟩) 64 w9 (hG8.frm hF9 (fun h => h) (fun h => h)) (St_nil hB9) (by rw [HXI.out]; exact pad_src (h58.frm hF9 (fun h => h)) HXI.out hn57) (by rw [HXI.out]; omega) (by omega) (by rw [HXI.out, List.length_nil]; omega)
  rw [HXI.out, List.nil_append] at hw
  refine hw.mono ?_
  rintro e w10 ⟨rfl, hS10, hF10⟩
  have F010 : Frm (fun k => k = g5 ∨ k = g6 ∨ k = g7) w w10 := ((F08.mono (T := fun k => k = g5 ∨ k = g6 ∨ k = g7) (fun _ _ h => by omega)).trans hF9 (fun _ _ h => h.elim)).trans hF10 (fun _ _ h => .inr (.inr h))
  have HI : Hid (MacInv w g4 g6 g7 (xorL 92 pk) (xorL 54 pk ++ (ls.take 0).flatten) w10) := by
    refine ⟨by simpa using hS10, (hG8.frm hF9 (fun h => h) (fun h => h)).frm hF10 (by omega) (by omega), (h48.frm hF9 (fun h => h)).frm hF10 hn47, (h6.frm hF9 (fun h => h)).frm hF10 hn67, F010.below (Nat.le_refl _) (fun k hk => by omega)⟩
  clear hw hS10 hF10 F010 hB9 hF9 h48 h58 hG8 F08 h6 h5 HX2 HXl HLP
  generalize xorL 54 pk = ip at *
  generalize xorL 92 pk = op at *
  go_wp2_with fail
  go_loopw [20] (fun i wr => ∃ k : Nat, k ≤ N ∧ i = .int .i64 k ∧ MacInv w g4 g6 g7 op (ip ++ (ls.take k).flatten) wr) (fun i _ => N - (intOf i).toNat)
  case atStart => exact ⟨0, by omega, rfl, HI.out⟩
  case round =>
    clear HI
    obtain ⟨k, hk, rfl, hi⟩ := hrel
    by_cases hlt : k < N
    · have hkl : k < ls.length := by rw [← HN.out]; exact hlt
      obtain ⟨v, hv, A, c2, rfl, hc2, hr⟩ := HP.out.2 k hkl
      obtain ⟨pa, rfl, hcell⟩ := HP.out.1.2 (by omega)
      have hc0 := hcell k _ hv
      have hc1 : wr.cell? (pa.add k) = some (.slice A (ls.getD k []).length c2) := by rw [hi.below.cell (World.block_lt_of_cell? w _ hc0)]; exact hc0
      have hsrc : Src wr g7 A (ls.getD k []).length (ls.getD k []) := src_old hr hi.below g7 hg7
      have hfl := flat_take ls k hkl
      have hle := flat_le ls (k + 1)
      have hlen : (ip ++ (ls.take k).flatten).length + (ls.getD k []).length ≤ 1000000000000 := by rw [hfl, List.length_append] at hle; rw [List.length_append, HXI.out]; omega
      have hw := write_any g7 (ip ++ (ls.take k).flatten) (ls.getD k []) A c2 wr hi.gl hi.st hsrc hc2 (by omega) hlen
      rw [List.append_assoc, ← hfl] at hw
      have HW := hide hw
      have HH := hide hi
      clear hw hsrc hfl hle hlen hr hv hcell hc0 hi hkl
      generalize (ls.getD k []).length = m at *
      go_wp2_with fail
      refine HW.out.mono ?_
      rintro e w5 ⟨rfl, hst5, hF5⟩
      have FIN : Hid (MacInv w g4 g6 g7 op (ip ++ (ls.take (k + 1)).flatten) w5) := ⟨hst5, HH.out.gl.frm hF5 (by omega) (by omega), HH.out.res.frm hF5 hn47, HH.out.out.frm hF5 hn67, below_frm HH.out.below hF5 HH.out.below.size (fun k hk => by omega)⟩
      go_wp2_with fail
      go_roundw
      case rel => first | exact ⟨k + 1, by omega, by go_num, FIN.out⟩ | ((repeat apply Exists.intro); exact ⟨⟨k + 1, by omega, by go_num, FIN.out⟩, rfl⟩)
      case measure => simp [intOf]; omega
    · obtain rfl : k = N := by omega
      have hall : ls.take k = ls := List.take_of_length_le (by rw [← HN.out]; exact Nat.le_refl _)
      rw [hall] at hi
      have hbel := hi.below
      have hsum := sum_any g7 (ip ++ ls.flatten) wr hi.gl hi.st (by have := hi.below.size; omega) (by rw [List.length_append, HXI.out]; omega)
      have h4 := hi.res
      have h6 := hi.out
      have hgl := hi.gl
      clear hi hall
      go_wp2_with fail
      refine hsum.mono ?_
      rintro e w3 ⟨rfl, hb3⟩
      have hF3 : Frm (fun _ => False) wr w3 := Frm.of_below hb3
      have HLS := hide (shaC_length (ip ++ ls.flatten))
      have HSL := hide (shaL_length (ip ++ ls.flatten))
      have hML : Hid ((cellsB (shaL (op ++ shaL (ip ++ ls.flatten)))).length = 32) := shaC_length _
      generalize shaL (ip ++ ls.flatten) = sm at *
      go_wp2_with (first
        | ((with_reducible refine wpl_alloca (op := ⟨some 10, _, _, _, _, _⟩) rfl _ rfl _ zero32 ?_); intro g10 w4 hB4 hs4 hF4)
        | ((with_reducible refine wpl_storea agg32 rfl (.tmp 10) (.tmp 27) rfl g10 (cellsB sm) rfl rfl _ _ hB4 HLS.out zero32_size (cellsB_one _) ?_); intro w5 hB5 hF5))
      have FD : Frm (fun _ => False) w5 w5.drew := (Frm.refl _ _).drew
      have hn410 : g4 ≠ g10 := by have := h4.lt; have := hF3.size; omega
      have hn610 : g6 ≠ g10 := by have := h6.lt; have := hF3.size; omega
      have F05 : Frm (fun k => k = g10) wr w5.drew := (((hF3.trans hF4 (fun _ _ h => h)).mono (T := fun k => k = g10) (fun _ _ h => h.elim)).trans hF5 (fun _ _ h => h)).trans FD (fun _ _ h => h.elim)
      have hg10 : w.heap.size ≤ g10 := by have := hF3.size; have := hbel.size; omega
      have X4 := h4.frm F05 hn410
      have X6 := h6.frm F05 hn610
      have X10 := hB5.frm FD (fun h => h)
      have G0 := hgl.frm F05 (by omega) (by omega)
      have B0 := below_frm hbel F05 hbel.size (fun k hk => by omega)
      clear hB4 hF4 hB5 hF5 hF3 hb3 hsum h4 h6 hgl hbel FD F05
      refine wp_region_held_drew (S := fun _ => True) (by kernel_rfl) (True.intro) ?_
      intro hHeld
      obtain ⟨W0, hW0⟩ : ∃ W0, W0 = w5.drew := ⟨_, rfl⟩
      rw [← hW0] at X4 X6 X10 G0 B0 ⊢
      clear hW0
      refine tkH 0 (v := ?v1) rfl ?hy1 ?rest1
      case hy1 => (intro w hSw; (try dsimp only at hSw); go_simp; try with_reducible rfl)
      try simp only [Act.put, PTs]
      refine tkH 1 (v := ?v2) rfl ?hy2 ?rest2
      case hy2 => (intro w hSw; (try dsimp only at hSw); go_simp; try with_reducible rfl)
      try simp only [Act.put, PTs]
      refine rdH 2 rfl (by kernel_rfl) (fun K hK => ?_)
      go_simp
      have hA : All2 W0 [.slice (some ⟨g6, 0, none⟩) 64 64, .slice (some ⟨g10, 0, none⟩) 32 32] [op, sm] := by
        refine .cons ?_ (.cons ?_ .nil)
        · have := X6.rds
          exact ⟨_, _, by rw [HXO.out], by rw [HXO.out]; omega, by rwa [cellsB_length] at this⟩
        · have := X10.rds
          exact ⟨_, _, by rw [HSL.out], by rw [HSL.out]; omega, by rwa [cellsB_length] at this⟩
      refine hK.out _ _ (True.intro) (fun hHeld => ?_)
      clear hK K
      refine rdH 3 rfl (by kernel_rfl) (fun K hK => ?_)
      go_simp
      refine (sums_row W0 [.slice (some ⟨g6, 0, none⟩) 64 64, .slice (some ⟨g10, 0, none⟩) 32 32] [op, sm] hA G0 (by have := B0.size; omega) (by simp [HXO.out, HSL.out]) (by simp)).mono ?_
      rintro e W2 ⟨rfl, hb2⟩
      rw [show [op, sm].flatten = op ++ sm by simp]
      have F2 : Frm (fun _ => False) W0 W2 := Frm.of_below hb2
      have Y4 := X4.frm F2 (fun h => h)
      refine hK.out _ _ (True.intro) (fun hHeld => ?_)
      clear hK K
      refine rdH 4 rfl (by kernel_rfl) (fun K hK => ?_)
      refine step_storea agg32 rfl (.tmp 4) (.tmp 31) rfl g4 (cellsB (shaL (op ++ sm))) rfl rfl _ _ Y4 hML.out rfl (cellsB_one _) ?_
      intro W3 hB3 hF3
      refine hK.out _ _ (True.intro) (fun hHeld => ?_)
      clear hK K
      refine wpAnyH_done (by kernel_rfl) ?_ _
      go_wp2
      exact ret_agg agg32 rfl rfl g4 _ _ rfl hB3 hML.out ⟨by rw [HMA.out], below_frm (B0.trans (hb2.mono B0.size)) hF3 (by have := B0.size; have := hb2.size; omega) (fun k hk => by have := hn47; omega)⟩
end Go.Proofs.YtoiiiflnnhkjbaaGreatDoor
