/-
  ChachaXors, walked.
-/
import Derived.Test.YtjdffceeinflcaaDoorCRXor
namespace Go.Proofs.YtjdffceeinflcaaDoor
set_option linter.unusedVariables false
open Go.RowKit

theorem xorB_comm : ∀ (a b : List UInt8), xorB b a = xorB a b
  | [], [] => rfl
  | [], _ :: _ => rfl
  | _ :: _, [] => rfl
  | x :: a, y :: b => by
    have ih := xorB_comm a b
    simp only [xorB, List.zipWith_cons_cons] at ih ⊢
    rw [ih, UInt8.xor_comm]
theorem xorB_assoc : ∀ (a b c : List UInt8), xorB a (xorB b c) = xorB (xorB a b) c
  | [], _, _ => by simp [xorB]
  | _ :: _, [], _ => by simp [xorB]
  | _ :: _, _ :: _, [] => by simp [xorB]
  | x :: a, y :: b, z :: c => by
    have ih := xorB_assoc a b c
    simp only [xorB, List.zipWith_cons_cons] at ih ⊢
    rw [ih, UInt8.xor_assoc]
theorem xorB_back : ∀ (a b : List UInt8), xorB (xorB a b) b = a.take b.length
  | [], _ => by simp [xorB]
  | _ :: _, [] => by simp [xorB]
  | x :: a, y :: b => by
    have ih := xorB_back a b
    have hx : (x ^^^ y) ^^^ y = x := by rw [UInt8.xor_assoc, UInt8.xor_self, UInt8.xor_zero]
    simp only [xorB, List.zipWith_cons_cons, List.length_cons, List.take_succ_cons, hx] at ih ⊢
    rw [ih]

structure XInv (w0 : World) (gx gy k0 m0 m1 m2 : Nat) (Aa Ab Ac : Option Addr) (x0 x1 x2 X : List UInt8) (W : World) : Prop where
  x : Rds W (some ⟨gx, 0, none⟩) k0 (cellsB X)
  y : Rds W (some ⟨gy, 0, none⟩) k0 (cellsB X)
  a : Rds W Aa m0 (cellsB x0)
  b : Rds W Ab m1 (cellsB x1)
  c : Rds W Ac m2 (cellsB x2)
  rx : Row W gx X
  run : CRun w0 W
theorem XInv.frm0 {w0 : World} {gx gy k0 m0 m1 m2 : Nat} {Aa Ab Ac : Option Addr} {x0 x1 x2 X : List UInt8} {W W' : World} (h : XInv w0 gx gy k0 m0 m1 m2 Aa Ab Ac x0 x1 x2 X W) (f : Frm (fun _ => False) W W') : XInv w0 gx gy k0 m0 m1 m2 Aa Ab Ac x0 x1 x2 X W' :=
  ⟨h.x.frm f (fun _ _ _ h => h), h.y.frm f (fun _ _ _ h => h), h.a.frm f (fun _ _ _ h => h), h.b.frm f (fun _ _ _ h => h), h.c.frm f (fun _ _ _ h => h), h.rx.frm0 f, h.run.frm0 f⟩
structure XLoop (w0 : World) (gx k0 ko m0 m1 : Nat) (Aa Ab Ak Ao Au : Option Addr) (x0 x1 K O : List UInt8) (W : World) : Prop where
  x : ∃ l : List UInt8, l.length = k0 ∧ Row W gx l
  back : Src W gx Ak k0 K
  one : Src W gx Ao ko O
  two : Src W gx Au ko O
  a : Src W gx Aa m0 x0
  b : Src W gx Ab m1 x1
  run : CRun w0 W
theorem src_row {W : World} {g gx n : Nat} {l : List UInt8} (h : Rds W (some ⟨g, 0, none⟩) n (cellsB l)) (hne : g ≠ gx) : Src W gx (some ⟨g, 0, none⟩) n l :=
  ⟨h, fun _ a ha => by injection ha with ha; subst ha; exact hne⟩

/-- append onto nothing. -/
theorem app_made {w1 w2 : World} {A : Option Addr} {c m : Nat} {x : List UInt8} (hown : w2.ownsRow w1.heap.size 5 1 (.slice A (0 + m) c) (0 + m) ([] ++ cellsB x)) (hg : (w1.alloc (.cells #[] 5)).grownBy w2 (Value.slice (some ⟨w1.heap.size, 0, none⟩) 0 0).ownBlock) :
    Rds w2 A m (cellsB x) ∧ Frm (fun _ => False) w1 w2 := by
  rw [Nat.zero_add, List.nil_append] at hown
  have hm : (cellsB x).length = m := by have := hown.1; simpa using this
  have hr : Rds w2 A m (cellsB x) := by
    subst hm
    exact (Seg.of_own hown).rds
  refine ⟨hr, (Frm.alloc w1 (.cells #[] 5) (fun _ => False)).trans (Frm.of_grown hg) (fun i hi h => ?_)⟩
  have : i = w1.heap.size := by simpa [Value.ownBlock] using h
  omega

set_option maxHeartbeats 8000000 in
theorem cxors_walk (a0 : Option Addr) (len0 cap0 : Nat) (l0 : List UInt8) (a1 : Option Addr) (len1 cap1 : Nat) (l1 : List UInt8) (a2 : Option Addr) (len2 cap2 : Nat) (l2 : List UInt8) (w : World) (hG : Gc w) (hg0 : 2 ≤ w.heap.size)
    (h0 : Rds w a0 len0 (cellsB l0)) (hcap0 : len0 ≤ cap0) (hmx0 : cap0 ≤ 9223372036854775807) (h1 : Rds w a1 len1 (cellsB l1)) (hcap1 : len1 ≤ cap1) (hmx1 : cap1 ≤ 9223372036854775807) (h2 : Rds w a2 len2 (cellsB l2)) (hcap2 : len2 ≤ cap2) (hmx2 : cap2 ≤ 9223372036854775807) :
    Calls Tryd.prog 5 #[.slice a0 len0 cap0, .slice a1 len1 cap1, .slice a2 len2 cap2] w fun e w' => e = .returned (.bool true) ∧ Below w.heap.size w w' := by
  obtain ⟨m0, HM0, ml0, mr0, me0⟩ := nat_min len0 500
  clear me0
  have HR0 := hide (h0.take m0 ml0)
  rw [cellsB_take] at HR0
  have HX0 : Hid ((l0.take m0).length = m0) := by have := HR0.out.1; rwa [cellsB_length] at this
  generalize l0.take m0 = x0 at *
  have hy0 : x0.length ≤ 500 := by rw [HX0.out]; exact mr0
  have hc0 : m0 ≤ cap0 := by omega
  clear h0
  obtain ⟨m1, HM1, ml1, mr1, me1⟩ := nat_min len1 500
  clear me1
  have HR1 := hide (h1.take m1 ml1)
  rw [cellsB_take] at HR1
  have HX1 : Hid ((l1.take m1).length = m1) := by have := HR1.out.1; rwa [cellsB_length] at this
  generalize l1.take m1 = x1 at *
  have hy1 : x1.length ≤ 500 := by rw [HX1.out]; exact mr1
  have hc1 : m1 ≤ cap1 := by omega
  clear h1
  obtain ⟨m2, HM2, ml2, mr2, me2⟩ := nat_min len2 500
  clear me2
  have HR2 := hide (h2.take m2 ml2)
  rw [cellsB_take] at HR2
  have HX2 : Hid ((l2.take m2).length = m2) := by have := HR2.out.1; rwa [cellsB_length] at this
  generalize l2.take m2 = x2 at *
  have hy2 : x2.length ≤ 500 := by rw [HX2.out]; exact mr2
  have hc2 : m2 ≤ cap2 := by omega
  clear h2
  have hcut0 := fun w => run_cut0 a0 len0 cap0 m0 hc0 w
  have hcut1 := fun w => run_cut0 a1 len1 cap1 m1 hc1 w
  have hcut2 := fun w => run_cut0 a2 len2 cap2 m2 hc2 w
  obtain ⟨k0, HMK, kl, kr, ke⟩ := nat_min m0 m1
  have HXL : Hid ((xorB x0 x1).length = k0) := by show _ = _; rw [xorB_length, HX0.out, HX1.out, ke]
  have HXY := hide (xorB_comm x0 x1)
  have HKB : Hid (xorB (xorB x0 x1) x1 = x0.take k0) := by
    show _ = _
    rw [xorB_back, HX1.out]
    apply List.ext_getElem?
    intro j
    rw [List.getElem?_take, List.getElem?_take]
    have : Nat.min m0 m1 = min m0 m1 := rfl
    split <;> split <;> first | rfl | omega | (rw [List.getElem?_eq_none (by rw [HX0.out]; omega)])
  have HKL : Hid ((x0.take k0).length = k0) := by show _ = _; rw [List.length_take, HX0.out]; omega
  have HAS := hide (xorB_assoc x0 x1 x2)
  have hstr := fun w => str_to x0 k0 (by rw [HX0.out]; exact kl) w
  obtain ⟨sa, hsa⟩ : ∃ sa, sa = (⟨x0.toArray⟩ : ByteArray) := ⟨_, rfl⟩
  obtain ⟨sb, hsb⟩ : ∃ sb, sb = (⟨x1.toArray⟩ : ByteArray) := ⟨_, rfl⟩
  obtain ⟨sx, hsx⟩ : ∃ sx, sx = (⟨(xorB x0 x1).toArray⟩ : ByteArray) := ⟨_, rfl⟩
  obtain ⟨sk, hsk⟩ : ∃ sk, sk = (⟨(x0.take k0).toArray⟩ : ByteArray) := ⟨_, rfl⟩
  have HRX : Hid (∀ W, Calls Tryd.prog 16 #[.string sa, .string sb] W fun e w' => e = .returned (.string ⟨(xorB x0 x1).toArray⟩) ∧ Below W.heap.size W w') := by rw [hsa, hsb]; exact fun W => rxor_any x0 x1 W (by omega) (by omega)
  rw [← hsa, ← hsk] at hstr
  have HSA := hide hsa
  have HSB := hide hsb
  have HSX := hide hsx
  have HSK := hide hsk
  have HRUN := hide (CRun.start hG hg0)
  obtain ⟨X, hX⟩ : ∃ X, X = xorB x0 x1 := ⟨_, rfl⟩
  have HCX := fun w' A n c (hA : Rds w' A n (cellsB x0)) B' k d (hB : Rds w' B' k (cellsB x1)) (hR : CRun w w') (hn : n ≤ 1000000) (hk : k ≤ 1000000) => xor_run w w' A B' n k c d x0 x1 k0 hA hB hR hn hk HXL.out
  rw [← hX] at HXL HXY HKB HAS HSX HCX HRX
  have HCX := hide HCX
  clear hsa hsb hsx hsk hG ke hX hcap0 hcap1 hcap2 hmx0 hmx1 hmx2
  go_enter Tryd.func5, Tryd.ntmps5
  go_wp2_with fail
  refine (cshown_run w w HRUN.out).mono ?_
  rintro e w1 ⟨rfl, hF1, hR1⟩
  have FA : Frm (fun _ => False) w1 (w1.alloc (.cells #[] 5)) := Frm.alloc _ _ _
  have hr0 : Rds (w1.alloc (.cells #[] 5)) a0 m0 (cellsB x0) := HR0.out.below (hR1.frm0 FA).below
  clear HRUN hF1
  go_wp2_with (first
    | (with_reducible refine wpl_min (op := ⟨some 21, _, _, _, _, _⟩) rfl _ _ _ _ rfl _ _ _ (m0 : Int) rfl rfl HM0.out ?_)
    | (with_reducible refine wpl_min (op := ⟨some 28, _, _, _, _, _⟩) rfl _ _ _ _ rfl _ _ _ (m1 : Int) rfl rfl HM1.out ?_)
    | (with_reducible refine wpl_min (op := ⟨some 34, _, _, _, _, _⟩) rfl _ _ _ _ rfl _ _ _ (m2 : Int) rfl rfl HM2.out ?_)
    | (at_builtin; refine wpl_app one_u8 rfl (.tmp 17) (.tmp 22) rfl _ w1.heap.size _ 0 [] rfl (World.ownsRow_made w1 #[] 0 (Nat.le_refl _) (by simp [maxLen]) (by simp)) a0 m0 cap0 (cellsB x0) rfl hr0 (cellsB_one x0) (by omega) (by omega) (by simp) ?_; intro Aa ca w2 hown2 hg2 hat2; have p2 := app_made hown2 hg2; have R2 := hR1.frm0 p2.2; have hr1 : Rds (w2.alloc (.cells #[] 5)) a1 m1 (cellsB x1) := HR1.out.below (R2.frm0 (Frm.alloc _ _ _)).below)
    | (at_builtin; refine wpl_app one_u8 rfl (.tmp 24) (.tmp 29) rfl _ w2.heap.size _ 0 [] rfl (World.ownsRow_made w2 #[] 0 (Nat.le_refl _) (by simp [maxLen]) (by simp)) a1 m1 cap1 (cellsB x1) rfl hr1 (cellsB_one x1) (by omega) (by omega) (by simp) ?_; intro Ab cb w3 hown3 hg3 hat3; have p3 := app_made hown3 hg3; have ra3 := p2.1.frm p3.2 (fun _ _ _ h => h); have R3 := R2.frm0 p3.2; have cva := ra3.conv ca; have cvb := p3.1.conv cb; rw [← HSA.out] at cva; rw [← HSB.out] at cvb))
  have HC3 : Hid (Rds w3 a2 m2 (cellsB x2)) := HR2.out.below R3.below
  have HA3 := hide ra3
  have HB3 := hide p3.1
  have HRR := hide R3
  obtain ⟨O, hO⟩ : ∃ O, O = xorB X x2 := ⟨_, rfl⟩
  obtain ⟨Y, hY⟩ : ∃ Y, Y = xorB x1 x2 := ⟨_, rfl⟩
  obtain ⟨ko, hko⟩ : ∃ ko, ko = O.length := ⟨_, rfl⟩
  obtain ⟨ky, hky⟩ : ∃ ky, ky = Y.length := ⟨_, rfl⟩
  have hko5 : ko ≤ 1000000 := by rw [hko, hO, xorB_length, HXL.out]; omega
  have hky5 : ky ≤ 1000000 := by rw [hky, hY, xorB_length, HX1.out]; omega
  have hm05 : m0 ≤ 1000000 := by omega
  have hm15 : m1 ≤ 1000000 := by omega
  have hm25 : m2 ≤ 1000000 := by omega
  have hk05 : k0 ≤ 1000000 := by omega
  have HKO : Hid (O.length = ko) := hko.symm
  have HKY : Hid (Y.length = ky) := hky.symm
  rw [← hO, ← hY] at HAS
  have HO := hide hO
  have HY := hide hY
  obtain ⟨so, hso⟩ : ∃ so, so = (⟨O.toArray⟩ : ByteArray) := ⟨_, rfl⟩
  have HSO := hide hso
  obtain ⟨Kk, hKk⟩ : ∃ Kk, Kk = x0.take k0 := ⟨_, rfl⟩
  rw [← hKk] at HKB HKL HSK
  clear hO hY hko hky hso hKk ra3 R3 p2 p3 R2 hr1 hown2 hown3 hg2 hg3 hat2 hat3 cva cvb hR1 hr0 FA hcut0 hcut1 hcut2 HM0 HM1 HM2 HR0 HR1 HR2
  refine (HCX.out w3 Aa m0 ca HA3.out Ab m1 cb HB3.out HRR.out hm05 hm15).mono ?_
  rintro e w4 ⟨gx, rfl, rowx, hgx, F4, R4⟩
  go_wp2_with fail
  refine (xor_run w w4 Ab Aa m1 m0 cb ca x1 x0 k0 (HB3.out.frm F4 (fun _ _ _ h => h)) (HA3.out.frm F4 (fun _ _ _ h => h)) R4 hm15 hm05 (by rw [HXY.out, HXL.out])).mono ?_
  rintro e w5 ⟨gy, rfl, rowy, hgy, F5, R5⟩
  rw [HXY.out] at rowy
  have F35 := F4.trans F5 (fun _ _ h => h)
  have FD : Frm (fun _ => False) w5 w5.drew := (Frm.refl _ _).drew
  have F3d := F35.trans FD (fun _ _ h => h)
  have H0 : XInv w gx gy k0 m0 m1 m2 Aa Ab a2 x0 x1 x2 X w5.drew := by
    have e1 := (rowx.frm0 F5).rds
    have e2 := rowy.rds
    rw [HXL.out] at e1 e2
    exact XInv.frm0 ⟨e1, e2, HA3.out.frm F35 (fun _ _ _ h => h), HB3.out.frm F35 (fun _ _ _ h => h), HC3.out.frm F35 (fun _ _ _ h => h), rowx.frm0 F5, R5⟩ FD
  clear rowx rowy R4 R5 F4 F5 F35 FD
  go_wp2_with fail
  refine wp_region_held_drew (S := XInv w gx gy k0 m0 m1 m2 Aa Ab a2 x0 x1 x2 X) (by kernel_rfl) H0 ?_
  intro hHeld
  obtain ⟨W0, hW0⟩ : ∃ W', W' = w5.drew := ⟨_, rfl⟩
  rw [← hW0] at H0 F3d hHeld ⊢
  clear hW0
  refine wpAnyH_take (i := 0) (v := ?v1) rfl (by kernel_rfl) (by kernel_rfl) (by kernel_rfl) (fun _ _ _ h => h) (Or.inl ⟨by rfl, ?hy1⟩) (by assumption) ?rest1
  case hy1 => (intro w hSw; (try dsimp only at hSw); go_simp; try with_reducible rfl)
  try simp only [Act.put, List.getElem_toArray, List.getElem_cons_zero, List.setIfInBounds_toArray, List.set_cons_zero, List.set_cons_succ]
  refine wpAnyH_take (i := 1) (v := ?v2) rfl (by kernel_rfl) (by kernel_rfl) (by kernel_rfl) (fun _ _ _ h => h) (Or.inl ⟨by rfl, ?hy2⟩) (by assumption) ?rest2
  case hy2 => (intro w hSw; refine held_convR (.tmp 46) ?_ (some ⟨gx, 0, none⟩) k0 k0 ?_ X hSw.x <;> rfl)
  try simp only [Act.put, List.getElem_toArray, List.getElem_cons_zero, List.getElem_cons_succ, List.setIfInBounds_toArray, List.set_cons_zero, List.set_cons_succ]
  refine wpAnyH_take (i := 2) (v := ?v3) rfl (by kernel_rfl) (by kernel_rfl) (by kernel_rfl) (fun _ _ _ h => h) (Or.inl ⟨by rfl, ?hy3⟩) (by assumption) ?rest3
  case hy3 => (intro w hSw; (try dsimp only at hSw); go_simp; try with_reducible rfl)
  try simp only [Act.put, List.getElem_toArray, List.getElem_cons_zero, List.getElem_cons_succ, List.setIfInBounds_toArray, List.set_cons_zero, List.set_cons_succ]
  refine wpAnyH_take (i := 3) (v := ?v4) rfl (by kernel_rfl) (by kernel_rfl) (by kernel_rfl) (fun _ _ _ h => h) (Or.inl ⟨by rfl, ?hy4⟩) (by assumption) ?rest4
  case hy4 => (intro w hSw; refine held_convR (.tmp 48) ?_ (some ⟨gy, 0, none⟩) k0 k0 ?_ X hSw.y <;> rfl)
  try simp only [Act.put, List.getElem_toArray, List.getElem_cons_zero, List.getElem_cons_succ, List.setIfInBounds_toArray, List.set_cons_zero, List.set_cons_succ]
  refine wpAnyH_take (i := 4) (v := ?v5) rfl (by kernel_rfl) (by kernel_rfl) (by kernel_rfl) (fun _ _ _ h => h) (Or.inl ⟨by rfl, ?hy5⟩) (by assumption) ?rest5
  case hy5 => (intro w hSw; (try dsimp only at hSw); go_simp; try with_reducible rfl)
  try simp only [Act.put, List.getElem_toArray, List.getElem_cons_zero, List.getElem_cons_succ, List.setIfInBounds_toArray, List.set_cons_zero, List.set_cons_succ]
  refine wpAnyH_take (i := 5) (v := ?v6) rfl (by kernel_rfl) (by kernel_rfl) (by kernel_rfl) (fun _ _ _ h => h) (Or.inl ⟨by rfl, ?hy6⟩) (by assumption) ?rest6
  case hy6 => (intro w hSw; (try dsimp only at hSw); go_simp; try with_reducible rfl)
  try simp only [Act.put, List.getElem_toArray, List.getElem_cons_zero, List.getElem_cons_succ, List.setIfInBounds_toArray, List.set_cons_zero, List.set_cons_succ]
  refine wpAnyH_take (i := 6) (v := ?v7) rfl (by kernel_rfl) (by kernel_rfl) (by kernel_rfl) (fun _ _ _ h => h) (Or.inl ⟨by rfl, ?hy7⟩) (by assumption) ?rest7
  case hy7 => (intro w hSw; (try dsimp only at hSw); go_simp; try with_reducible rfl)
  try simp only [Act.put, List.getElem_toArray, List.getElem_cons_zero, List.getElem_cons_succ, List.setIfInBounds_toArray, List.set_cons_zero, List.set_cons_succ]
  refine wpAnyH_take (i := 7) (v := ?v8) rfl (by kernel_rfl) (by kernel_rfl) (by kernel_rfl) (fun _ _ _ h => h) (Or.inl ⟨by rfl, ?hy8⟩) (by assumption) ?rest8
  case hy8 => (intro w hSw; refine held_convR (.tmp 52) ?_ (some ⟨gx, 0, none⟩) k0 k0 ?_ X hSw.x <;> rfl)
  try simp only [Act.put, List.getElem_toArray, List.getElem_cons_zero, List.getElem_cons_succ, List.setIfInBounds_toArray, List.set_cons_zero, List.set_cons_succ]
  refine wpAnyH_take (i := 8) (v := ?v9) rfl (by kernel_rfl) (by kernel_rfl) (by kernel_rfl) (fun _ _ _ h => h) (Or.inl ⟨by rfl, ?hy9⟩) (by assumption) ?rest9
  case hy9 => (intro w hSw; (try dsimp only at hSw); go_simp; try with_reducible rfl)
  try simp only [Act.put, List.getElem_toArray, List.getElem_cons_zero, List.getElem_cons_succ, List.setIfInBounds_toArray, List.set_cons_zero, List.set_cons_succ]
  refine wpAnyH_take (i := 9) (v := ?v10) rfl (by kernel_rfl) (by kernel_rfl) (by kernel_rfl) (fun _ _ _ h => h) (Or.inl ⟨by rfl, ?hy10⟩) (by assumption) ?rest10
  case hy10 => (intro w hSw; (try dsimp only at hSw); go_simp; try with_reducible rfl)
  try simp only [Act.put, List.getElem_toArray, List.getElem_cons_zero, List.getElem_cons_succ, List.setIfInBounds_toArray, List.set_cons_zero, List.set_cons_succ]
  refine wpAnyH_ready (rs := [10]) (by kernel_rfl) (by simp) ?_
  refine AllReadyH.cons rfl (fun K hK => ?_) AllReadyH.nil
  go_simp
  refine (HRX.out W0).mono ?_
  rintro e W1 ⟨rfl, hb1⟩
  have F1 : Frm (fun _ => False) W0 W1 := Frm.of_below hb1
  have H1 := H0.frm0 F1
  refine hK.out _ _ (H1) (fun hHeld => ?_)
  clear hK K
  refine wpAnyH_take (i := 11) (v := ?v11) rfl (by kernel_rfl) (by kernel_rfl) (by kernel_rfl) (fun _ _ _ h => h) (Or.inl ⟨by rfl, ?hy11⟩) (by assumption) ?rest11
  case hy11 => (intro w hSw; (try dsimp only at hSw); go_simp; try with_reducible rfl)
  try simp only [Act.put, List.getElem_toArray, List.getElem_cons_zero, List.getElem_cons_succ, List.setIfInBounds_toArray, List.set_cons_zero, List.set_cons_succ]
  refine wpAnyH_take (i := 12) (v := ?v12) rfl (by kernel_rfl) (by kernel_rfl) (by kernel_rfl) (fun _ _ _ h => h) (Or.inl ⟨by rfl, ?hy12⟩) (by assumption) ?rest12
  case hy12 => (intro w hSw; (try dsimp only at hSw); go_simp; try with_reducible rfl)
  try simp only [Act.put, List.getElem_toArray, List.getElem_cons_zero, List.getElem_cons_succ, List.setIfInBounds_toArray, List.set_cons_zero, List.set_cons_succ]
  refine wpAnyH_take (i := 13) (v := ?v13) rfl (by kernel_rfl) (by kernel_rfl) (by kernel_rfl) (fun _ _ _ h => h) (Or.inl ⟨by rfl, ?hy13⟩) (by assumption) ?rest13
  case hy13 => (intro w hSw; (try dsimp only at hSw); go_simp; try with_reducible rfl)
  try simp only [Act.put, List.getElem_toArray, List.getElem_cons_zero, List.getElem_cons_succ, List.setIfInBounds_toArray, List.set_cons_zero, List.set_cons_succ]
  refine wpAnyH_take (i := 14) (v := ?v14) rfl (by kernel_rfl) (by kernel_rfl) (by kernel_rfl) (fun _ _ _ h => h) (Or.inl ⟨by rfl, ?hy14⟩) (by assumption) ?rest14
  case hy14 => (intro w hSw; (try dsimp only at hSw); go_simp; try with_reducible rfl)
  try simp only [Act.put, List.getElem_toArray, List.getElem_cons_zero, List.getElem_cons_succ, List.setIfInBounds_toArray, List.set_cons_zero, List.set_cons_succ]
  refine wpAnyH_take (i := 15) (v := ?v15) rfl (by kernel_rfl) (by kernel_rfl) (by kernel_rfl) (fun _ _ _ h => h) (Or.inl ⟨by rfl, ?hy15⟩) (by assumption) ?rest15
  case hy15 => (intro w hSw; (try dsimp only at hSw); go_simp; try with_reducible rfl)
  try simp only [Act.put, List.getElem_toArray, List.getElem_cons_zero, List.getElem_cons_succ, List.setIfInBounds_toArray, List.set_cons_zero, List.set_cons_succ]
  refine wpAnyH_take (i := 16) (v := ?v16) rfl (by kernel_rfl) (by kernel_rfl) (by kernel_rfl) (fun _ _ _ h => h) (Or.inl ⟨by rfl, ?hy16⟩) (by assumption) ?rest16
  case hy16 => (intro w hSw; (try dsimp only at hSw); go_simp; try with_reducible rfl)
  try simp only [Act.put, List.getElem_toArray, List.getElem_cons_zero, List.getElem_cons_succ, List.setIfInBounds_toArray, List.set_cons_zero, List.set_cons_succ]
  refine wpAnyH_take (i := 17) (v := ?v17) rfl (by kernel_rfl) (by kernel_rfl) (by kernel_rfl) (fun _ _ _ h => h) (Or.inl ⟨by rfl, ?hy17⟩) (by assumption) ?rest17
  case hy17 => (intro w hSw; (try dsimp only at hSw); go_simp; try with_reducible rfl)
  try simp only [Act.put, List.getElem_toArray, List.getElem_cons_zero, List.getElem_cons_succ, List.setIfInBounds_toArray, List.set_cons_zero, List.set_cons_succ]
  refine wpAnyH_take (i := 18) (v := ?v18) rfl (by kernel_rfl) (by kernel_rfl) (by kernel_rfl) (fun _ _ _ h => h) (Or.inl ⟨by rfl, ?hy18⟩) (by assumption) ?rest18
  case hy18 => (intro w hSw; (try dsimp only at hSw); go_simp; try with_reducible rfl)
  try simp only [Act.put, List.getElem_toArray, List.getElem_cons_zero, List.getElem_cons_succ, List.setIfInBounds_toArray, List.set_cons_zero, List.set_cons_succ]
  refine wpAnyH_take (i := 19) (v := ?v19) rfl (by kernel_rfl) (by kernel_rfl) (by kernel_rfl) (fun _ _ _ h => h) (Or.inl ⟨by rfl, ?hy19⟩) (by assumption) ?rest19
  case hy19 => (intro w hSw; (try dsimp only at hSw); go_simp; try with_reducible rfl)
  try simp only [Act.put, List.getElem_toArray, List.getElem_cons_zero, List.getElem_cons_succ, List.setIfInBounds_toArray, List.set_cons_zero, List.set_cons_succ]
  refine wpAnyH_take (i := 20) (v := ?v20) rfl (by kernel_rfl) (by kernel_rfl) (by kernel_rfl) (fun _ _ _ h => h) (Or.inl ⟨by rfl, ?hy20⟩) (by assumption) ?rest20
  case hy20 => (intro w hSw; refine held_min (.tmp 63) (.tmp 65) 3 3 ?_ (m0 : Int) (m1 : Int) (k0 : Int) ?_ ?_ HMK.out <;> rfl)
  try simp only [Act.put, List.getElem_toArray, List.getElem_cons_zero, List.getElem_cons_succ, List.setIfInBounds_toArray, List.set_cons_zero, List.set_cons_succ]
  refine wpAnyH_take (i := 21) (v := ?v21) rfl (by kernel_rfl) (by kernel_rfl) (by kernel_rfl) (fun _ _ _ h => h) (Or.inl ⟨by rfl, ?hy21⟩) (by assumption) ?rest21
  case hy21 => (intro w hSw; (try dsimp only at hSw); go_simp; try with_reducible rfl)
  try simp only [Act.put, List.getElem_toArray, List.getElem_cons_zero, List.getElem_cons_succ, List.setIfInBounds_toArray, List.set_cons_zero, List.set_cons_succ]
  refine wpAnyH_take (i := 22) (v := ?v22) rfl (by kernel_rfl) (by kernel_rfl) (by kernel_rfl) (fun _ _ _ h => h) (Or.inl ⟨by rfl, ?hy22⟩) (by assumption) ?rest22
  case hy22 => (intro w hSw; (try dsimp only at hSw); go_simp; try with_reducible rfl)
  try simp only [Act.put, List.getElem_toArray, List.getElem_cons_zero, List.getElem_cons_succ, List.setIfInBounds_toArray, List.set_cons_zero, List.set_cons_succ]
  refine wpAnyH_done (by kernel_rfl) ?_ _
  have F31 := F3d.trans F1 (fun _ _ h => h)
  clear H0 F3d F1 hHeld hb1 HRX HMK
  go_wp2_with fail
  refine (xor_run w W1 (some ⟨gx, 0, none⟩) Ab k0 m1 k0 cb X x1 k0 H1.x H1.b H1.run hk05 hm15 (by rw [HKB.out, HKL.out])).mono ?_
  rintro e w6 ⟨gb, rfl, rowb, hgb, F6, R6⟩
  rw [HKB.out] at rowb
  have H6 := H1.frm0 F6
  go_wp2_with fail
  refine (HCX.out w6 Aa m0 ca H6.a Ab m1 cb H6.b H6.run hm05 hm15).mono ?_
  rintro e w7 ⟨g7, rfl, row7, hg7, F7, R7⟩
  have H7 := H6.frm0 F7
  have r7 := row7.rds
  rw [HXL.out] at r7
  go_wp2_with fail
  refine (xor_run w w7 (some ⟨g7, 0, none⟩) a2 k0 m2 k0 cap2 X x2 ko r7 H7.c H7.run hk05 hm25 (by rw [← HO.out, HKO.out])).mono ?_
  rintro e w8 ⟨g8, rfl, row8, hg8, F8, R8⟩
  rw [← HO.out] at row8
  have H8 := H7.frm0 F8
  go_wp2_with fail
  refine (xor_run w w8 Ab a2 m1 m2 cb cap2 x1 x2 ky H8.b H8.c H8.run hm15 hm25 (by rw [← HY.out, HKY.out])).mono ?_
  rintro e w9 ⟨g9, rfl, row9, hg9, F9, R9⟩
  rw [← HY.out] at row9
  have H9 := H8.frm0 F9
  have r9 := row9.rds
  rw [HKY.out] at r9
  go_wp2_with fail
  refine (xor_run w w9 Aa (some ⟨g9, 0, none⟩) m0 ky ca ky x0 Y ko H9.a r9 H9.run hm05 hky5 (by rw [HAS.out, HKO.out])).mono ?_
  rintro e w10 ⟨g10, rfl, row10, hg10, F10, R10⟩
  rw [HAS.out] at row10
  have H10 := H9.frm0 F10
  have F6A := ((F6.trans F7 (fun _ _ h => h)).trans F8 (fun _ _ h => h)).trans (F9.trans F10 (fun _ _ h => h)) (fun _ _ h => h)
  have F3A := F31.trans F6A (fun _ _ h => h)
  have hgxl := H1.rx.lt
  have HST : Hid (XLoop w gx k0 ko m0 m1 Aa Ab (some ⟨gb, 0, none⟩) (some ⟨g8, 0, none⟩) (some ⟨g10, 0, none⟩) x0 x1 Kk O w10) := by
    have e1 := (((rowb.frm0 F7).frm0 F8).frm0 F9).frm0 F10
    have e2 := (row8.frm0 F9).frm0 F10
    have r1 := e1.rds
    have r2 := e2.rds
    have r3 := row10.rds
    rw [HKL.out] at r1
    rw [HKO.out] at r2 r3
    have bl := F3A.below (Nat.le_refl _) (fun _ h => h.elim)
    refine ⟨⟨X, HXL.out, H10.rx⟩, src_row r1 (by omega), src_row r2 ?_, src_row r3 ?_, src_old HA3.out bl gx hgx, src_old HB3.out bl gx hgx, H10.run⟩
    · have := F6.size; have := F7.size; omega
    · have := F6.size; have := F7.size; have := F8.size; have := F9.size; omega
  have hgw : w.heap.size ≤ gx := by have := HRR.out.size; omega
  clear H1 H6 H7 H8 H9 H10 R6 R7 R8 R9 R10 F6 F7 F8 F9 F10 F6A F3A F31 rowb row7 row8 row9 row10 r7 r9 HCX HA3 HB3 HC3 HRR hgx hgy hgb hg7 hg8 hg9 hg10 hgxl HKB HAS HXY
  go_wp2_with fail
  go_loopw [15] (fun i wr => ∃ k : Nat, k ≤ k0 ∧ i = .int .i64 k ∧ XLoop w gx k0 ko m0 m1 Aa Ab (some ⟨gb, 0, none⟩) (some ⟨g8, 0, none⟩) (some ⟨g10, 0, none⟩) x0 x1 Kk O wr) (fun i _ => k0 - (intOf i).toNat)
  case atStart => exact ⟨0, by omega, rfl, HST.out⟩
  case round =>
    clear HST
    obtain ⟨k, hk, rfl, hi⟩ := hrel
    by_cases hlt : k < k0
    · obtain ⟨l, hl, hrow⟩ := hi.x
      have hf1 := hrow.blk.frozen k
      obtain ⟨vo, hvo⟩ : ∃ v, wr.cell? ⟨gx, k, none⟩ = some v := ⟨_, by rw [hrow.blk.cell, List.getElem?_toArray]; exact getD_byte _ _ (by omega)⟩
      have FIN : Hid (XLoop w gx k0 ko m0 m1 Aa Ab (some ⟨gb, 0, none⟩) (some ⟨g8, 0, none⟩) (some ⟨g10, 0, none⟩) x0 x1 Kk O (wr.setCell ⟨gx, k, none⟩ (.int .u8 63))) := by
        have hb := hrow.blk.set k (.int .u8 ((63 : UInt8).toNat : Int))
        rw [List.setIfInBounds_toArray, cellsB_set] at hb
        have f : Frm (fun i => i = gx) wr (wr.setCell ⟨gx, k, none⟩ (.int .u8 63)) := Frm.setCell _ _ _ (fun i => i = gx) rfl
        exact ⟨⟨l.set k 63, by rw [List.length_set, hl], ⟨hb⟩⟩, hi.back.frm f, hi.one.frm f, hi.two.frm f, hi.a.frm f, hi.b.frm f, hi.run.frm f (fun i hi => by omega)⟩
      clear hrow hi hl
      go_wp2_with fail
      go_roundw
      case rel => first | exact ⟨k + 1, by omega, by go_num, FIN.out⟩ | ((repeat apply Exists.intro); exact ⟨⟨k + 1, by omega, by go_num, FIN.out⟩, rfl⟩)
      case measure => simp [intOf]; omega
    · obtain rfl : k = k0 := by omega
      have hD : ∀ q, Frm (fun _ => False) wr (wr.drewN q) := fun q => (Frm.refl _ _).drewN q
      have c1 : ∀ q, Sem.run Tryd.prog (convert 29 9 (.slice (some ⟨gb, 0, none⟩) k k)) (wr.drewN q) = .ok (.string sk) (wr.drewN q) := fun q => by rw [HSK.out]; exact (hi.back.1.frm (hD q) (fun _ _ _ h => h)).conv k
      have c2 : ∀ q, Sem.run Tryd.prog (convert 29 9 (.slice (some ⟨g8, 0, none⟩) ko ko)) (wr.drewN q) = .ok (.string so) (wr.drewN q) := fun q => by rw [HSO.out]; exact (hi.one.1.frm (hD q) (fun _ _ _ h => h)).conv ko
      have c3 : ∀ q, Sem.run Tryd.prog (convert 29 9 (.slice (some ⟨g10, 0, none⟩) ko ko)) (wr.drewN q) = .ok (.string so) (wr.drewN q) := fun q => by rw [HSO.out]; exact (hi.two.1.frm (hD q) (fun _ _ _ h => h)).conv ko
      have c4 : ∀ q, Sem.run Tryd.prog (convert 29 9 (.slice Aa m0 ca)) (wr.drewN q) = .ok (.string sa) (wr.drewN q) := fun q => by rw [HSA.out]; exact (hi.a.1.frm (hD q) (fun _ _ _ h => h)).conv ca
      have c5 : ∀ q, Sem.run Tryd.prog (convert 29 9 (.slice Ab m1 cb)) (wr.drewN q) = .ok (.string sb) (wr.drewN q) := fun q => by rw [HSB.out]; exact (hi.b.1.frm (hD q) (fun _ _ _ h => h)).conv cb
      have HB := hide hi.run.below
      clear hi hD
      go_wp2_with fail
      go_quiet (fail)
      go_wp2
      go_ret
      exact ⟨rfl, ⟨HB.out.os, HB.out.tape, HB.out.output, HB.out.size, HB.out.block⟩⟩
end Go.Proofs.YtjdffceeinflcaaDoor
