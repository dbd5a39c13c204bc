/-
  Short codes and keys of keys.
-/
import Derived.Test.YtoiiiflnnhkjbaaGreatDoorHp
import Derived.Test.YtoiiiflnnhkjbaaGreatDoorOHmA
import Derived.Test.YtoiiiflnnhkjbaaGreatDoorOSlB
import Derived.Lib.ConvBytes
namespace Go.Proofs.YtoiiiflnnhkjbaaGreatDoor
set_option linter.unusedVariables false
open Go.RowKit

theorem aggM16 : Agg Tryz.prog 31 16 := Agg.of (by kernel_rfl) (by kernel_rfl)
theorem zeroM16 : (Tryz.prog.info? 31).map (fun i => i.zero) = some (some (.agg (cellsB (List.replicate 16 0)).toArray)) := by kernel_rfl
theorem under16 : Tryz.prog.underlying 31 = some (.array 16 5) := by kernel_rfl
theorem sl16 (g : Nat) (w : World) : Sem.run Tryz.prog (Instr.sliceAt 31 (.pointer (some ⟨g, 0, none⟩)) none none none) w = .ok (.slice (some ⟨g, 0, none⟩) 16 16) w := run_slice_arr0 (P := Tryz.prog) (t := 31) (e := 5) (N := 16) under16 size8 g 0 (by omega) w
theorem sl32 (g : Nat) (w : World) : Sem.run Tryz.prog (Instr.sliceAt 25 (.pointer (some ⟨g, 0, none⟩)) none none none) w = .ok (.slice (some ⟨g, 0, none⟩) 32 32) w := run_slice_arr0 (P := Tryz.prog) (t := 25) (e := 5) (N := 32) under25 size8 g 0 (by omega) w
theorem Prts.frm0 {w w' : World} {PA : Option Addr} {vs : List Value} {ls : List (List UInt8)} (h : Prts w PA vs ls) (f : Frm (fun _ => False) w w') : Prts w' PA vs ls :=
  ⟨h.1.frm f (fun _ _ _ h => h), fun k hk => by obtain ⟨v, h1, h2⟩ := h.2 k hk; exact ⟨v, h1, h2.frm0 f⟩⟩
set_option maxRecDepth 100000 in
set_option maxHeartbeats 4000000 in
theorem short_any (key : List UInt8) (hk : key.length = 32) (PA : Option Addr) (pc : Nat) (vs : List Value) (ls : List (List UInt8)) (w : World) (hG : Gl w) (hg0 : 4 ≤ w.heap.size)
    (hP : Prts w PA vs ls) (hl : ls.flatten.length ≤ 1000000000) (hln : ls.length ≤ 1000000) :
    Calls Tryz.prog 36 #[.agg (cellsB key).toArray, .slice PA ls.length pc] w fun e w' => e = .returned (.agg (cellsB ((macL key ls.flatten).take 16)).toArray) ∧ Below w.heap.size w w' := by
  have HP := hide hP
  have hslK := slK
  have hsl16 := sl16
  have hsl32 := sl32
  have hF0 : Frm (fun _ => False) w (w.alloc (.cells (cellsB key).toArray 26)) := Frm.alloc _ _ _
  have hBK := Blk.new w 26 (cellsB key).toArray
  have hRK := hBK.rds
  rw [cellsB_length, hk] at hRK
  obtain ⟨N, hnn⟩ : ∃ n, n = ls.length := ⟨_, rfl⟩
  have HN := hide hnn
  rw [← hnn] at ⊢
  have HM := fun w0 hG h2 hr hp => mac_any (some ⟨w.heap.size, 0, none⟩) 32 32 key PA pc vs ls w0 hG h2 hr (Nat.le_refl _) (by omega) hp hl hln
  rw [← hnn] at HM
  have HML := hide (macL_length key ls.flatten)
  have HMC : Hid ((cellsB (macL key ls.flatten)).length = 32) := by show _ = _; rw [cellsB_length]; exact HML.out
  clear hP hnn hl hln hBK
  go_enter Tryz.func36, Tryz.ntmps36
  go_wp2_with ((with_reducible refine wpl_alloca (op := ⟨some 4, _, _, _, _, _⟩) rfl _ rfl _ zeroM16 ?_); intro g4 w1 hB1 hs1 hF1)
  have hF01 := hF0.trans hF1 (fun _ _ h => h)
  refine (HM w1 (hG.frm hF01 (fun h => h) (fun h => h)) (by have := hF01.size; omega) (hRK.frm hF1 (fun _ _ _ h => h)) (HP.out.frm0 hF01)).mono ?_
  rintro e w2 ⟨rfl, hb2⟩
  have hF2 : Frm (fun _ => False) w1 w2 := Frm.of_below hb2
  have hF02 := hF01.trans hF2 (fun _ _ h => h)
  have h4 := hB1.frm hF2 (fun h => h)
  have hg4 : w.heap.size ≤ g4 := by have := hF0.size; omega
  clear HM HP hG hb2 hRK hF0 hF1 hF2 hF01 hB1 hs1
  obtain ⟨mc, hmc⟩ : ∃ mc, mc = macL key ls.flatten := ⟨_, rfl⟩
  have HMCE := hide hmc
  rw [← hmc] at HML HMC ⊢
  clear hmc
  go_wp2_with (first
    | ((with_reducible refine wpl_alloca (op := ⟨some 5, _, _, _, _, _⟩) rfl _ rfl _ zero32 ?_); intro g5 w3 hB3 hs3 hF3)
    | ((with_reducible refine wpl_storea agg32 rfl (.tmp 5) (.tmp 9) rfl g5 (cellsB mc) rfl rfl _ _ hB3 HMC.out zero32_size (cellsB_one _) ?_); intro w4 hB4 hF4)
    | ((with_reducible refine wpl_alloca (op := ⟨some 6, _, _, _, _, _⟩) rfl _ rfl _ zeroM16 ?_); intro g6 w5 hB5 hs5 hF5))
  have hn45 : g4 ≠ g5 := by have := h4.lt; omega
  have hn46 : g4 ≠ g6 := by have := h4.lt; have := hF3.size; have := hF4.size; omega
  have hn56 : g5 ≠ g6 := by have := hB4.lt; omega
  have hg5 : w.heap.size ≤ g5 := by have := hF02.size; omega
  have hg6 : w.heap.size ≤ g6 := by have := hF02.size; have := hF3.size; have := hF4.size; omega
  have FD : Frm (fun _ => False) w5 w5.drew := (Frm.refl _ _).drew
  have F05 : Frm (fun k => k = g5) w w5.drew := ((((hF02.trans hF3 (fun _ _ h => h)).mono (T := fun k => k = g5) (fun _ _ h => h.elim)).trans hF4 (fun _ _ h => h)).trans hF5 (fun _ _ h => h.elim)).trans FD (fun _ _ h => h.elim)
  have X4 := (((h4.frm hF3 (fun h => h)).frm hF4 hn45).frm hF5 (fun h => h)).frm FD (fun h => h)
  have X5 := ((hB4.frm hF5 (fun h => h)).frm FD (fun h => h)).rds
  rw [HMC.out] at X5
  have X6 := hB5.frm FD (fun h => h)
  have HSP : Hid (splice (cellsB (List.replicate 16 0)) 0 (cellsB (mc.take 16)) = cellsB (mc.take 16)) := splice_all _ _ (by rw [cellsB_length, cellsB_length, List.length_take, HML.out]; rfl)
  have HL16 : Hid ((cellsB (mc.take 16)).length = 16) := by show _ = _; rw [cellsB_length, List.length_take, HML.out]; rfl
  have HX2 : Hid (((cellsB (mc.take 16)).drop 0).take 16 = cellsB (mc.take 16)) := by show _ = _; rw [List.drop_zero, List.take_of_length_le (by rw [HL16.out]; exact Nat.le_refl _)]
  clear hB3 hB4 hB5 hF3 hF4 hF5 FD h4 hF02
  refine wp_region_held_drew (S := fun _ => True) (by kernel_rfl) (True.intro) ?_
  intro hHeld
  obtain ⟨W0, hW0⟩ : ∃ W0, W0 = w5.drew := ⟨_, rfl⟩
  rw [← hW0] at X4 X5 X6 F05 ⊢
  clear hW0
  refine tkH 0 (v := ?v1) rfl ?hy1 ?rest1
  case hy1 => (intro w hSw; (try dsimp only at hSw); go_simp; try with_reducible rfl)
  try simp only [Act.put, PTs]
  refine tkH 1 (v := ?v2) rfl ?hy2 ?rest2
  case hy2 => (intro w hSw; (try dsimp only at hSw); go_simp; try with_reducible rfl)
  try simp only [Act.put, PTs]
  refine rdH 2 rfl (by kernel_rfl) (fun K hK => ?_)
  refine step_copyR rfl (.tmp 10) (.tmp 11) rfl g6 16 16 g5 32 32 16 rfl rfl (cellsB (List.replicate 16 0)) _ X6 mc X5 rfl (by decide) ?_
  intro W3 hB3 hF3
  rw [HSP.out] at hB3
  refine hK.out _ _ (True.intro) (fun hHeld => ?_)
  clear hK K
  refine wpAnyH_done (by kernel_rfl) ?_ _
  have Y4 := X4.frm hF3 hn46
  go_wp2_with (first
    | (with_reducible refine wpl_loada (op := ⟨some 13, _, _, _, _, _⟩) aggM16 rfl _ rfl g6 0 rfl _ _ _ hB3 HX2.out (by rw [HL16.out]; exact Nat.le_refl _) ?_)
    | ((with_reducible refine wpl_storea aggM16 rfl (.tmp 4) (.tmp 13) rfl g4 (cellsB (mc.take 16)) rfl rfl _ _ Y4 HL16.out rfl (cellsB_one _) ?_); intro w10 hB10 hF10))
  have FF : Frm (fun k => k = g5 ∨ k = g6 ∨ k = g4) w w10 := ((F05.mono (T := fun k => k = g5 ∨ k = g6 ∨ k = g4) (fun _ _ h => .inl h)).trans hF3 (fun _ _ h => .inr (.inl h))).trans hF10 (fun _ _ h => .inr (.inr h))
  exact ret_agg aggM16 rfl rfl g4 _ _ rfl hB10 HL16.out ⟨by rw [HMCE.out], FF.below (Nat.le_refl _) (fun k hk => by omega)⟩
theorem snoc_iff (p q : List UInt8) (x y : UInt8) : p ++ [x] = q ++ [y] ↔ p = q ∧ x = y :=
  ⟨fun h => by have := List.append_inj' h rfl; exact ⟨this.1, by simpa using this.2⟩, by rintro ⟨rfl, rfl⟩; rfl⟩
set_option maxRecDepth 100000 in
set_option maxHeartbeats 2000000 in
theorem same_any (A B : Option Addr) (n m c d : Nat) (a b : List UInt8) (w : World) (hA : Rds w A n (cellsB a)) (hB : Rds w B m (cellsB b)) (hn : n ≤ 1000000) (hm : m ≤ 1000000) :
    Calls Tryz.prog 26 #[.slice A n c, .slice B m d] w fun e w' => e = .returned (.bool (decide (a = b))) ∧ ∃ q, w' = w.drewN q := by
  have hal : a.length = n := by have := hA.1; rwa [cellsB_length] at this
  have hbl : b.length = m := by have := hB.1; rwa [cellsB_length] at this
  by_cases hnm : n = m
  · subst hnm
    have Hal := hide hal
    have Hbl := hide hbl
    have HA := hide hA
    have HB := hide hB
    clear hA hB hal hbl
    go_enter Tryz.func26, Tryz.ntmps26
    go_wp2_with fail
    go_loopw [5, 14] (fun x i wr => ∃ (k q : Nat) (u : UInt8), k ≤ n ∧ i = .int .i64 k ∧ x = .int .u8 (u.toNat : Int) ∧ (u = 0 ↔ a.take k = b.take k) ∧ wr = w.drewN q) (fun _ i _ => n - (intOf i).toNat)
    case atStart => exact ⟨0, 0, 0, by omega, rfl, rfl, by simp, rfl⟩
    case round =>
      obtain ⟨k, q, u, hk, rfl, rfl, hu, rfl⟩ := hrel
      by_cases hlt : k < n
      · obtain ⟨pa, rfl, hca⟩ := HA.out.2 (by omega)
        obtain ⟨pb, rfl, hcb⟩ := HB.out.2 (by omega)
        have ca := hca k _ (getD_byte a k (by rw [Hal.out]; exact hlt))
        have cb := hcb k _ (getD_byte b k (by rw [Hbl.out]; exact hlt))
        have ca' : ∀ q, (w.drewN q).cell? (pa.add k) = some (.int .u8 ((a.getD k 0).toNat : Int)) := fun _ => ca
        have cb' : ∀ q, (w.drewN q).cell? (pb.add k) = some (.int .u8 ((b.getD k 0).toNat : Int)) := fun _ => cb
        have HU : Hid ((u ||| (a.getD k 0 ^^^ b.getD k 0)) = 0 ↔ a.take (k + 1) = b.take (k + 1)) := by
          show _ ↔ _
          have ta : a.take (k + 1) = a.take k ++ [a.getD k 0] := by rw [List.take_succ_eq_append_getElem (by rw [Hal.out]; exact hlt), List.getD_eq_getElem?_getD, List.getElem?_eq_getElem (by rw [Hal.out]; exact hlt)]; rfl
          have tb : b.take (k + 1) = b.take k ++ [b.getD k 0] := by rw [List.take_succ_eq_append_getElem (by rw [Hbl.out]; exact hlt), List.getD_eq_getElem?_getD, List.getElem?_eq_getElem (by rw [Hbl.out]; exact hlt)]; rfl
          rw [ta, tb, snoc_iff, ← hu]
          constructor
          · intro h
            have h1 : u.toNat ||| (a.getD k 0).toNat ^^^ (b.getD k 0).toNat = 0 := by have := congrArg UInt8.toNat h; simpa [UInt8.toNat_or, UInt8.toNat_xor] using this
            have h2 := Nat.or_eq_zero_iff.1 h1
            exact ⟨UInt8.toNat_inj.1 (by simpa using h2.1), UInt8.toNat_inj.1 (by have h3 : (a.getD k 0).toNat ^^^ ((a.getD k 0).toNat ^^^ (b.getD k 0).toNat) = (b.getD k 0).toNat := (by rw [← Nat.xor_assoc, Nat.xor_self, Nat.zero_xor]); rw [h2.2, Nat.xor_zero] at h3; exact h3)⟩
          · rintro ⟨rfl, h⟩
            rw [h]
            simp
        have x1 := byte_xor (a.getD k 0) (b.getD k 0)
        have x2 := byte_or u (a.getD k 0 ^^^ b.getD k 0)
        generalize (a.getD k 0 ^^^ b.getD k 0) = xy at *
        generalize hz : u ||| xy = z at *
        clear hz hu ca cb hca hcb
        generalize (a.getD k 0).toNat = xa at *
        generalize (b.getD k 0).toNat = xb at *
        generalize xy.toNat = xx at *
        go_wp2_with fail
        go_quiet (fail)
        go_wp2
        go_roundw
        case rel => exact ⟨k + 1, _, z, by omega, by go_num, rfl, HU.out, rfl⟩
        case measure => simp [intOf]; omega
      · obtain rfl : k = n := by omega
        rw [List.take_of_length_le (by rw [Hal.out]; exact Nat.le_refl _), List.take_of_length_le (by rw [Hbl.out]; exact Nat.le_refl _)] at hu
        have hd : ((u.toNat : Int) == 0) = decide (a = b) := by
          show decide ((u.toNat : Int) = 0) = decide (a = b)
          rw [decide_eq_decide, ← hu]
          constructor
          · intro h; exact UInt8.toNat_inj.1 (by simpa using h)
          · rintro rfl; rfl
        have HD := hide hd
        clear hd hu
        generalize u.toNat = ux at *
        go_wp2_with fail
        go_ret
        exact ⟨by rw [← HD.out]; rfl, _, rfl⟩
  · have hd : decide (a = b) = false := by simp; rintro rfl; omega
    have HD := hide hd
    have hni : ¬ ((n : Int) = (m : Int)) := by omega
    clear hd hal hbl hA hB
    go_enter Tryz.func26, Tryz.ntmps26
    go_wp2_with fail
    go_ret
    exact ⟨by rw [HD.out]; rfl, 0, rfl⟩
theorem short_row (w0 w : World) (key : List UInt8) (hk : key.length = 32) (vs : List Value) (ls : List (List UInt8)) (all : List UInt8) (hA : All2 w vs ls) (hall : ls.flatten = all) (hR : Run w0 w) (hl : all.length ≤ 1000000) (hln : ls.length ≤ 1000) :
    Calls Tryz.prog 36 #[.agg (cellsB key).toArray, .slice (some ⟨w.heap.size, 0, none⟩) vs.length vs.length] (w.alloc (.cells vs.toArray 46)) fun e w' => e = .returned (.agg (cellsB ((macL key all).take 16)).toArray) ∧ Frm (fun _ => False) w w' ∧ Run w0 w' := by
  subst hall
  have hF : Frm (fun _ => False) w (w.alloc (.cells vs.toArray 46)) := Frm.alloc _ _ _
  have hm := short_any key hk (some ⟨w.heap.size, 0, none⟩) vs.length vs ls _ (hR.gl.frm hF (fun h => h) (fun h => h)) (by have := hR.two; have := hR.size; have := hF.size; omega) (parts_alloc w vs ls _ hA) (by omega) (by omega)
  rw [← hA.length] at hm
  refine hm.mono fun e w' ⟨he, hb⟩ => ?_
  have hF2 := hF.trans (Frm.of_below (S := fun _ => False) hb) (fun _ _ h => h)
  exact ⟨he, hF2, hR.frm hF2 (fun _ h => h.elim)⟩
def measured (ls : List (List UInt8)) : List (List UInt8) := ls.flatMap fun p => [be 4 p.length, p]
theorem measured_snoc (ls : List (List UInt8)) (p : List UInt8) : measured (ls ++ [p]) = measured ls ++ [be 4 p.length, p] := by simp [measured]
theorem measured_length (ls : List (List UInt8)) : (measured ls).length = 2 * ls.length := by
  induction ls with
  | nil => rfl
  | cons p l ih => rw [show measured (p :: l) = [be 4 p.length, p] ++ measured l from rfl, List.length_append, ih, List.length_cons]; simp; omega
theorem measured_flat (ls : List (List UInt8)) : (measured ls).flatten.length = 4 * ls.length + ls.flatten.length := by
  induction ls with
  | nil => rfl
  | cons p l ih => rw [show measured (p :: l) = [be 4 p.length, p] ++ measured l from rfl, List.flatten_append, List.length_append, ih]; simp [be_length]; omega
def deriveL (key lab : List UInt8) (ls : List (List UInt8)) : List UInt8 := macL key (measured (lab :: ls)).flatten
theorem deriveL_length (key lab : List UInt8) (ls : List (List UInt8)) : (deriveL key lab ls).length = 32 := macL_length _ _
/-- The bytes lie in a block of bytes. -/
def KindU (w : World) (v : Value) : Prop := ∀ A n c, v = .slice A n c → 0 < n → ∀ a, A = some a → ∃ cur fr, w.heap[a.block]? = some (.cells cur 5 fr)
/-- A part: one that was there, or one in a block of bytes. -/
def Pc (w0 w : World) (v : Value) (l : List UInt8) : Prop := Prt w0 v l ∨ (Prt w v l ∧ KindU w v)
theorem Prt.frmU {S : Nat → Prop} {w w' : World} {v : Value} {l : List UInt8} (h : Prt w v l) (k : KindU w v) (f : Frm S w w') (hS : ∀ g cur fr, w.heap[g]? = some (.cells cur 5 fr) → ¬ S g) : Prt w' v l ∧ KindU w' v := by
  obtain ⟨A, c, rfl, hc, hr⟩ := h
  have hb : 0 < l.length → ∀ a, A = some a → ¬ S a.block := fun hp a ha => by
    obtain ⟨cur, fr, hg⟩ := k A _ c rfl hp a ha
    exact hS _ _ _ hg
  refine ⟨⟨A, c, rfl, hc, hr.frm f hb⟩, fun A' n' c' hv hp a ha => ?_⟩
  injection hv with h1 h2 h3
  subst h1 h2 h3
  obtain ⟨cur, fr, hg⟩ := k A _ c rfl hp a ha
  exact ⟨cur, fr, (f.block _ (Array.getElem?_eq_some_iff.1 hg).1 (hS _ _ _ hg)).trans hg⟩
theorem Pc.frm {S : Nat → Prop} {w0 w w' : World} {v : Value} {l : List UInt8} (h : Pc w0 w v l) (f : Frm S w w') (hS : ∀ g cur fr, w.heap[g]? = some (.cells cur 5 fr) → ¬ S g) : Pc w0 w' v l :=
  h.imp id fun ⟨h1, h2⟩ => h1.frmU h2 f hS
theorem Pc.prt {w0 w : World} {v : Value} {l : List UInt8} (h : Pc w0 w v l) (hb : Below w0.heap.size w0 w) : Prt w v l := h.elim (fun h => h.below hb) (fun h => h.1)
inductive AllPc (w0 w : World) : List Value → List (List UInt8) → Prop
  | nil : AllPc w0 w [] []
  | cons {v : Value} {l : List UInt8} {vs : List Value} {ls : List (List UInt8)} : Pc w0 w v l → AllPc w0 w vs ls → AllPc w0 w (v :: vs) (l :: ls)
theorem AllPc.frm {S : Nat → Prop} {w0 w w' : World} {vs : List Value} {ls : List (List UInt8)} (h : AllPc w0 w vs ls) (f : Frm S w w') (hS : ∀ g cur fr, w.heap[g]? = some (.cells cur 5 fr) → ¬ S g) : AllPc w0 w' vs ls := by
  induction h with
  | nil => exact .nil
  | cons h _ ih => exact .cons (h.frm f hS) ih
theorem AllPc.all2 {w0 w : World} {vs : List Value} {ls : List (List UInt8)} (h : AllPc w0 w vs ls) (hb : Below w0.heap.size w0 w) : All2 w vs ls := by
  induction h with
  | nil => exact .nil
  | cons h _ ih => exact .cons (h.prt hb) ih
theorem AllPc.snoc2 {w0 w : World} {vs : List Value} {ls : List (List UInt8)} (h : AllPc w0 w vs ls) {v u : Value} {l m : List UInt8} (k : Pc w0 w v l) (k' : Pc w0 w u m) : AllPc w0 w (vs ++ [v, u]) (ls ++ [l, m]) := by
  induction h with
  | nil => exact .cons k (.cons k' .nil)
  | cons ho _ ih => exact .cons ho ih
theorem kind_own {w : World} {B n : Nat} {v : Value} {xs : List Value} (h : w.ownsRow B 5 1 v n xs) : KindU w v := by
  intro A m c hv hp a ha
  rcases h.2 with ⟨h1, _⟩ | ⟨g, cap, cur, h1, _, hg, _⟩
  · rw [hv] at h1; injection h1 with h1 h2 h3; rw [ha] at h1; cases h1
  · rw [hv] at h1
    injection h1 with h1 h2 h3
    rw [ha] at h1
    injection h1 with h1
    subst h1
    exact ⟨cur, (0, 0), hg⟩
/-- A row of slices lies in no block of bytes. -/
theorem own_kindU {w : World} {B n : Nat} {v : Value} {xs : List Value} (h : w.ownsRow B 46 1 v n xs) : ∀ g cur fr, w.heap[g]? = some (.cells cur 5 fr) → ¬ (some g = v.ownBlock) := by
  intro g cur fr hb he
  rcases h.2 with ⟨rfl, _⟩ | ⟨g', cap, cur', rfl, _, hg, _⟩
  · cases he
  · have : g = g' := by simpa [Value.ownBlock] using he
    subst this
    rw [hb] at hg
    injection hg with hg
    injection hg with _ h2
    exact absurd h2 (by decide)
theorem own_other {w : World} {B n g : Nat} {e t : TypeId} {v : Value} {xs : List Value} {cs : Array Value} (h : w.ownsRow B e 1 v n xs) (hb : Blk w g t cs) (hne : e ≠ t) : ¬ (some g = v.ownBlock) := by
  intro he
  rcases h.2 with ⟨rfl, _⟩ | ⟨g', cap, cur', rfl, _, hg, _⟩
  · cases he
  · have : g = g' := by simpa [Value.ownBlock] using he
    subst this
    exact Blk.ne (t := e) (show Blk w g e cur' from hg) hb hne rfl
def MeasPost (w0 w : World) (v : Value) (n : Nat) (vs : List Value) (ls : List (List UInt8)) (u : Value) (p : List UInt8) (e : Ending) (w' : World) : Prop :=
  ∃ A' c' L, e = .returned (.slice A' (n + 2) c') ∧ w'.ownsRow w0.heap.size 46 1 (.slice A' (n + 2) c') (n + 2) (vs ++ [L, u]) ∧ AllPc w0 w' (vs ++ [L, u]) (ls ++ [be 4 p.length, p]) ∧ Below w0.heap.size w0 w' ∧ Frm (fun k => some k = v.ownBlock) w w'
set_option maxRecDepth 100000 in
set_option maxHeartbeats 4000000 in
theorem withLength_any (w0 w : World) (v : Value) (n : Nat) (vs : List Value) (ls : List (List UInt8)) (A : Option Addr) (m c : Nat) (p : List UInt8) (hown : w.ownsRow w0.heap.size 46 1 v n vs) (hP : AllPc w0 w vs ls) (hp : Pc w0 w (.slice A m c) p) (hpl : p.length = m) (hm : m ≤ 100000) (hn : n ≤ 1000) (hb : Below w0.heap.size w0 w) :
    Calls Tryz.prog 76 #[v, .slice A m c] w (MeasPost w0 w v n vs ls (.slice A m c) p) := by
  have e1 : IntKind.u32.wrap (m : Int) = (m : Int) := by rw [IntKind.wrap_u32']; omega
  have e1' : (m : Int) % 4294967296 = (m : Int) := by omega
  have HO := hide hown
  have HP := hide hP
  have HPP := hide hp
  have HPL := hide hpl
  have HB := hide hb
  clear hown hP hp hpl hb
  go_enter Tryz.func76, Tryz.ntmps76
  go_wp2_with ((with_reducible refine wpl_alloca (op := ⟨some 6, _, _, _, _, _⟩) rfl _ rfl _ zeroW ?_); intro g w1 hB1 hs1 hF1)
  have hW1 : Wr w1 g none [] := ⟨.slice none 0 0, hB1, ⟨rfl, .inl ⟨rfl, rfl⟩⟩, .inl rfl⟩
  refine (wu32_any g none [] (m : Int) w1 hW1 (by simp) (by omega) (by omega)).mono ?_
  rintro e w2 ⟨rfl, d2, hW2, _, hF2⟩
  rw [List.nil_append, Int.toNat_natCast] at hW2
  go_wp2_with fail
  refine (wdone_any g d2 (be 4 m) w2 hW2 (by rw [be_length]; omega)).mono ?_
  rintro e w3 ⟨A3, c3, rfl, hown3, hb3⟩
  have hF3 : Frm (fun _ => False) w2 w3 := Frm.of_below hb3
  have F03 : Frm (fun k => w.heap.size ≤ k) w w3 := ((hF1.mono (T := fun k => w.heap.size ≤ k) (fun _ _ h => h.elim)).trans hF2 (fun k _ h => by rcases h with h | h; omega; cases h)).trans hF3 (fun _ _ h => h.elim)
  have hlen : (cellsB (be 4 m)).length = 4 := by rw [cellsB_length, be_length]
  rw [hlen] at hown3 ⊢
  have hsz := F03.size
  have hO3 := own_frm HO.out F03 (fun k hk => by have := (HO.out.lt k hk).2; omega)
  have hP3 := HP.out.frm F03 (fun g cur fr h => by have := (Array.getElem?_eq_some_iff.1 h).1; omega)
  have hp3 := HPP.out.frm F03 (fun g cur fr h => by have := (Array.getElem?_eq_some_iff.1 h).1; omega)
  have hB3 := below_frm HB.out F03 HB.out.size (fun k hk => by have := HB.out.size; omega)
  have hL3 : Pc w0 w3 (.slice A3 4 c3) (be 4 m) := .inr ⟨by
    have := prt_own (l := be 4 m) (v := .slice A3 4 c3) (by rw [be_length]; exact hown3)
    exact this, kind_own hown3⟩
  have hFb : Frm (fun _ => False) w3 (w3.alloc (.cells #[.slice A3 4 c3, .slice A m c] 46)) := Frm.alloc _ _ _
  have hO4 := own_frm hO3 hFb (fun _ _ h => h)
  have hA4 := (hP3.snoc2 hL3 hp3).frm hFb (fun _ _ _ _ h => h)
  have hB4 := below_frm hB3 hFb hB3.size (fun _ h => h.elim)
  have hr4 := alloc_rds w3 [.slice A3 4 c3, .slice A m c] 46 (0, 0)
  have hn1 : ∀ u ∈ [Value.slice A3 4 c3, .slice A m c], u.oneCell' = true := by intro u hu; simp at hu; rcases hu with rfl | rfl <;> rfl
  have hb1 : (n + 2) * 24 ≤ 140737488355328 := by omega
  have hb2 : n + 2 ≤ 140737488355328 := by omega
  have hb5 : w0.heap.size ≤ (w3.alloc (.cells #[.slice A3 4 c3, .slice A m c] 46)).heap.size := Nat.le_trans hB3.size hFb.size
  have HA4 := hide hA4
  have F04 : Frm (fun k => some k = v.ownBlock) w (w3.alloc (.cells #[.slice A3 4 c3, .slice A m c] 46)) := (F03.mono (T := fun k => some k = v.ownBlock) (fun i hi h => by omega)).trans hFb (fun _ _ h => h.elim)
  clear hB1 hF1 hF2 hF3 hb3 hW1 hW2 F03 hown3 hO3 hP3 hp3 hB3 hL3 hFb hA4 HP HPP HB HO
  go_wp2_with (at_builtin; refine wpl_app one_sl rfl (.tmp 12) (.tmp 15) rfl _ w0.heap.size v n _ rfl hO4 (some ⟨w3.heap.size, 0, none⟩) 2 2 [.slice A3 4 c3, .slice A m c] rfl hr4 hn1 hb1 hb2 hb5 ?_; intro A9 c9 w9 hown9 hg9 hat9)
  have hF9 := Frm.of_grown hg9
  go_ret
  refine ⟨A9, c9, .slice A3 4 c3, rfl, hown9, ?_, below_frm hB4 hF9 hB4.size (fun k hk => (hO4.lt k hk.symm).1), F04.trans hF9 (fun _ _ h => h)⟩
  rw [HPL.out]
  exact HA4.out.frm hF9 (own_kindU hO4)
theorem bytes_frm (w : World) (e : TypeId) (s : ByteArray) : Frm (fun _ => False) w (Lib.bytesWorld w e s) :=
  ⟨by simp [Lib.bytesWorld, World.freeze, World.alloc, World.drew, -World.alloc_eq, -World.drew_eq], by simp [Lib.bytesWorld, World.freeze, World.alloc, World.drew, -World.alloc_eq, -World.drew_eq], by simp [Lib.bytesWorld, World.freeze, World.alloc, World.drew, -World.alloc_eq, -World.drew_eq], by rw [Lib.bytesWorld_size]; omega, fun k hk _ => Lib.bytesWorld_at_old w e s k hk⟩
theorem Frm.of_below2 {w w' : World} (h : Below w.heap.size w w') : Frm (fun k => w.heap.size ≤ k) w w' := ⟨h.os, h.tape, h.output, h.size, fun k hk _ => h.block k hk⟩
/-- []byte of a text. -/
theorem bytes_prt (w : World) (l : List UInt8) : Prt (Lib.bytesWorld w 5 ⟨l.toArray⟩) (.slice (some ⟨w.heap.size, 0, none⟩) l.length (grownCap w l.length 0 5)) l ∧ KindU (Lib.bytesWorld w 5 ⟨l.toArray⟩) (.slice (some ⟨w.heap.size, 0, none⟩) l.length (grownCap w l.length 0 5)) := by
  refine ⟨⟨_, _, rfl, grownCap_ge _ _ _ _, ⟨by rw [cellsB_length], fun _ => ⟨_, rfl, fun j u hu => ?_⟩⟩⟩, fun A n c hv _ a ha => ?_⟩
  · have hj : j < l.length := by have := (List.getElem?_eq_some_iff.1 hu).1; rwa [cellsB_length] at this
    rw [addr_add, Nat.zero_add, Lib.bytesWorld_cell w _ _ j (by rw [txt_size]; exact hj)]
    rw [getD_byte l j hj] at hu
    rw [← hu]
  · injection hv with h1
    subst h1
    injection ha with ha
    subst ha
    exact ⟨_, _, Lib.bytesWorld_at_new w _ _⟩
theorem conv_bytes (l : List UInt8) (n : Nat) (hn : l.length = n) (w : World) : Sem.run Tryz.prog (convert 9 46 (.string ⟨l.toArray⟩)) w = .ok (.slice (some ⟨w.heap.size, 0, none⟩) n (grownCap w n 0 5)) (Lib.bytesWorld w 5 ⟨l.toArray⟩) := by
  have := Lib.run_convert_string_bytes (P := Tryz.prog) w 9 46 5 ⟨l.toArray⟩ under9 under24 under5
  rw [txt_size, hn] at this
  exact this
/-- A block of another kind stays, where only blocks of bytes and slices turn. -/
structure DerInv (w : World) (g6 : Nat) (key : List UInt8) (A : Option Addr) (c n : Nat) (vs : List Value) (ls : List (List UInt8)) (wr : World) : Prop where
  own : wr.ownsRow w.heap.size 46 1 (.slice A n c) n vs
  parts : AllPc w wr vs ls
  key : Blk wr w.heap.size 26 (cellsB key).toArray
  res : Blk wr g6 26 (cellsB (List.replicate 32 0)).toArray
  below : Below w.heap.size w wr
set_option maxHeartbeats 8000000 in
set_option maxRecDepth 100000 in
theorem derive_any (key lab : List UInt8) (hkey : key.length = 32) (PA : Option Addr) (pc : Nat) (vs : List Value) (ls : List (List UInt8)) (w : World) (hG : Gl w) (hg0 : 4 ≤ w.heap.size)
    (hP : Prts w PA vs ls) (hlab : lab.length ≤ 100000) (hlen : ∀ k, (ls.getD k []).length ≤ 100000) (hl : ls.flatten.length ≤ 1000000) (hln : ls.length ≤ 100) :
    Calls Tryz.prog 53 #[.agg (cellsB key).toArray, .string ⟨lab.toArray⟩, .slice PA ls.length pc] w fun e w' => e = .returned (.agg (cellsB (deriveL key lab ls)).toArray) ∧ Below w.heap.size w w' := by
  have hslK := slK
  obtain ⟨N, hnn⟩ : ∃ n, n = ls.length := ⟨_, rfl⟩
  obtain ⟨nl, hnl⟩ : ∃ n, n = lab.length := ⟨_, rfl⟩
  have hcb := fun w => conv_bytes lab nl hnl.symm w
  have HN := hide hnn
  have HNL := hide hnl
  have HPs := hide hP
  have HDL := hide (deriveL_length key lab ls)
  have HDC : Hid ((cellsB (deriveL key lab ls)).length = 32) := by show _ = _; rw [cellsB_length]; exact HDL.out
  rw [← hnn] at hln ⊢
  rw [← hnl] at hlab
  have hF0 : Frm (fun _ => False) w (w.alloc (.cells (cellsB key).toArray 26)) := Frm.alloc _ _ _
  have hBK := Blk.new w 26 (cellsB key).toArray
  clear hP hnn hnl
  go_enter Tryz.func53, Tryz.ntmps53
  go_wp2_with ((with_reducible refine wpl_alloca (op := ⟨some 6, _, _, _, _, _⟩) rfl _ rfl _ zeroK ?_); intro g6 w1 hB1 hs1 hF1)
  have F1 := hF0.trans hF1 (fun _ _ h => h)
  have hK1 := hBK.frm hF1 (fun h => h)
  have hcp := bytes_prt w1 lab
  have F2 := bytes_frm w1 5 ⟨lab.toArray⟩
  rw [← HNL.out] at hcp
  have hs36 : w.heap.size < g6 := by have := hF0.size; simp at hs1; omega
  have F02 := F1.trans F2 (fun _ _ h => h)
  have hK2 := hK1.frm F2 (fun h => h)
  have hB2 := hB1.frm F2 (fun h => h)
  have hbel2 : Below w.heap.size w (Lib.bytesWorld w1 5 ⟨lab.toArray⟩) := F02.below (Nat.le_refl _) (fun _ h => h.elim)
  refine (withLength_any w _ (.slice none 0 0) 0 [] [] (some ⟨w1.heap.size, 0, none⟩) nl (grownCap w1 nl 0 5) lab ⟨rfl, .inl ⟨rfl, rfl⟩⟩ .nil (.inr hcp) HNL.out.symm (by omega) (by omega) hbel2).mono ?_
  rintro e w3 ⟨A3, c3, L3, rfl, hown3, hall3, hbel3, hF3⟩
  have hnn : ¬ (some w.heap.size = (Value.slice none 0 0).ownBlock) := by simp [Value.ownBlock]
  have hK3 := hK2.frm hF3 (by simp [Value.ownBlock])
  have hB3 := hB2.frm hF3 (by simp [Value.ownBlock])
  have HI : Hid (∃ vs', DerInv w g6 key A3 c3 2 vs' (measured (lab :: ls.take 0)) w3) := ⟨_, hown3, by simpa [measured] using hall3, hK3, hB3, hbel3⟩
  have hgl := hide hG
  clear hcb hF0 hBK hB1 hF1 F1 hK1 hcp F2 F02 hK2 hB2 hbel2 hown3 hall3 hbel3 hF3 hnn hK3 hB3 hG
  go_wp2_with fail
  go_loopw [7, 15] (fun v i wr => ∃ (k : Nat) (A : Option Addr) (c n2 : Nat) (vs' : List Value), k ≤ N ∧ i = .int .i64 k ∧ n2 = 2 * (k + 1) ∧ v = .slice A n2 c ∧ DerInv w g6 key A c n2 vs' (measured (lab :: ls.take k)) wr) (fun _ i _ => N - (intOf i).toNat)
  case atStart =>
    obtain ⟨vs', hi⟩ := HI.out
    exact ⟨0, A3, c3, 2, vs', by omega, rfl, rfl, rfl, hi⟩
  case round =>
    clear HI
    obtain ⟨k, A, c, n2, vs', hk, rfl, hn2, rfl, hi⟩ := hrel
    have Hn2 := hide hn2
    have hn2b : n2 ≤ 1000 := by omega
    clear hn2
    have HI := hide hi
    clear hi
    by_cases hlt : k < N
    · have hkl : k < ls.length := by rw [← HN.out]; exact hlt
      obtain ⟨v, hv, Ap, cp, rfl, hcp, hrp⟩ := HPs.out.2 k hkl
      obtain ⟨pa, rfl, hcell⟩ := HPs.out.1.2 (by omega)
      have hc0 := hcell k _ hv
      have hc1 : wr.cell? (pa.add k) = some (.slice Ap (ls.getD k []).length cp) := by rw [HI.out.below.cell (World.block_lt_of_cell? w _ hc0)]; exact hc0
      have hpc : Pc w wr (.slice Ap (ls.getD k []).length cp) (ls.getD k []) := .inl ⟨Ap, cp, rfl, hcp, hrp⟩
      have hlk := hlen k
      have HM := hide (withLength_any w wr (.slice A n2 c) n2 vs' (measured (lab :: ls.take k)) Ap (ls.getD k []).length cp (ls.getD k []) HI.out.own HI.out.parts hpc rfl hlk hn2b HI.out.below)
      have HME : Hid (measured (lab :: ls.take k) ++ [be 4 (ls.getD k []).length, ls.getD k []] = measured (lab :: ls.take (k + 1))) := by
        show _ = _
        rw [← measured_snoc]
        congr 1
        rw [List.cons_append, List.take_succ_eq_append_getElem hkl, List.getD_eq_getElem?_getD, List.getElem?_eq_getElem hkl]
        rfl
      obtain ⟨p, hp⟩ : ∃ p, p = ls.getD k [] := ⟨_, rfl⟩
      rw [← hp] at HM HME hc1
      clear hpc hlk hcell hv hrp hcp hc0 hp
      obtain ⟨np, hnp⟩ : ∃ np, np = p.length := ⟨_, rfl⟩
      rw [← hnp] at hc1 HM
      clear hnp
      go_wp2_with fail
      refine HM.out.mono ?_
      rintro e w5 ⟨A5, c5, L5, rfl, hown5, hall5, hbel5, hF5⟩
      have hK5 := HI.out.key.frm hF5 (own_other HI.out.own HI.out.key (by decide))
      have hB5 := HI.out.res.frm hF5 (own_other HI.out.own HI.out.res (by decide))
      rw [HME.out] at hall5
      have FIN : Hid (DerInv w g6 key A5 c5 (n2 + 2) _ (measured (lab :: ls.take (k + 1))) w5) := ⟨hown5, hall5, hK5, hB5, hbel5⟩
      clear HM hown5 hall5 hbel5 hF5 hK5 hB5
      go_wp2_with fail
      go_roundw
      case rel => first | exact ⟨k + 1, A5, c5, n2 + 2, _, by omega, by go_num, by have := Hn2.out; omega, rfl, FIN.out⟩ | ((repeat apply Exists.intro); exact ⟨⟨k + 1, A5, c5, n2 + 2, _, by omega, by go_num, by have := Hn2.out; omega, rfl, FIN.out⟩, rfl⟩)
      case measure => simp [intOf]; omega
    · obtain rfl : k = N := by omega
      have hall : ls.take k = ls := List.take_of_length_le (by rw [← HN.out]; exact Nat.le_refl _)
      have hinv := HI.out
      rw [hall] at hinv
      have hkr := hinv.key.rds
      rw [cellsB_length, hkey] at hkr
      have hrow : Prts wr A vs' (measured (lab :: ls)) := ⟨by have := (Seg.of_own hinv.own).rds; rw [measured_length, List.length_cons, ← HN.out, Nat.mul_comm]; rw [show (k + 1) * 2 = n2 by have := Hn2.out; omega]; exact this, (hinv.parts.all2 hinv.below).at⟩
      have hfl : (measured (lab :: ls)).flatten.length ≤ 1000000000 := by rw [measured_flat, List.length_cons, List.flatten_cons, List.length_append, ← HNL.out, ← HN.out]; omega
      have hml : (measured (lab :: ls)).length = n2 := by rw [measured_length, List.length_cons, ← HN.out]; have := Hn2.out; omega
      have hm := mac_any (some ⟨w.heap.size, 0, none⟩) 32 32 key A c vs' (measured (lab :: ls)) wr (hgl.out.frm (Frm.of_below2 hinv.below) (by omega) (by omega)) (by have := hinv.below.size; omega) hkr (Nat.le_refl _) (by omega) hrow hfl (by rw [hml]; omega)
      rw [hml] at hm
      have hbel := hinv.below
      have hres := hinv.res
      have HM := hide hm
      clear hm hinv hkr hrow hfl hml hall HI
      go_wp2_with fail
      refine HM.out.mono ?_
      rintro e w6 ⟨rfl, hb6⟩
      have hres6 := hres.frm (Frm.of_below (S := fun _ => False) hb6) (fun h => h)
      have HDE : Hid (macL key (measured (lab :: ls)).flatten = deriveL key lab ls) := rfl
      rw [HDE.out]
      go_wp2_with ((with_reducible refine wpl_storea aggK rfl (.tmp 6) (.tmp 25) rfl g6 (cellsB (deriveL key lab ls)) rfl rfl _ _ hres6 HDC.out rfl (cellsB_one _) ?_); intro w10 hB10 hF10)
      exact ret_agg aggK rfl rfl g6 _ _ rfl hB10 HDC.out ⟨rfl, below_frm (hbel.trans (hb6.mono hbel.size)) hF10 (by have := hbel.size; have := hb6.size; omega) (fun i hi => by omega)⟩
theorem derive_row (w0 w : World) (key lab : List UInt8) (hk : key.length = 32) (vs : List Value) (ls : List (List UInt8)) (hA : All2 w vs ls) (hR : Run w0 w) (hlab : lab.length ≤ 100000) (hlen : ∀ k, (ls.getD k []).length ≤ 100000) (hl : ls.flatten.length ≤ 1000000) (hln : ls.length ≤ 100) :
    Calls Tryz.prog 53 #[.agg (cellsB key).toArray, .string ⟨lab.toArray⟩, .slice (some ⟨w.heap.size, 0, none⟩) vs.length vs.length] (w.alloc (.cells vs.toArray 46)) fun e w' => e = .returned (.agg (cellsB (deriveL key lab ls)).toArray) ∧ Frm (fun _ => False) w w' ∧ Run w0 w' := by
  have hF : Frm (fun _ => False) w (w.alloc (.cells vs.toArray 46)) := Frm.alloc _ _ _
  have hp := parts_alloc w vs ls 46 hA
  have hm := derive_any key lab hk (some ⟨w.heap.size, 0, none⟩) vs.length vs ls _ (hR.gl.frm hF (fun h => h) (fun h => h)) (by have := hR.two; have := hR.size; have := hF.size; omega) hp hlab hlen hl hln
  rw [← hA.length] at hm
  refine hm.mono fun e w' ⟨he, hb⟩ => ?_
  have hF2 := hF.trans (Frm.of_below (S := fun _ => False) hb) (fun _ _ h => h)
  exact ⟨he, hF2, hR.frm hF2 (fun _ h => h.elim)⟩
/-- The key of a law lies in a block of its own. -/
theorem Run.boxed {w : World} (hG : Gl w) (h2 : 4 ≤ w.heap.size) (o : Obj) : Run w (w.alloc o) :=
  have hF : Frm (fun _ => False) w (w.alloc o) := Frm.alloc _ _ _
  ⟨hG.frm hF (fun h => h) (fun h => h), hF.below (Nat.le_refl _) (fun _ h => h.elim), h2⟩
theorem Wr.frm0 {w w' : World} {g : Nat} {d : Option Nat} {l : List UInt8} (h : Wr w g d l) (f : Frm (fun _ => False) w w') : Wr w' g d l := h.frm f (fun h => h) (fun _ _ h => h)
end Go.Proofs.YtoiiiflnnhkjbaaGreatDoor
