/-
  The document's Sum.
-/
import Derived.Test.YtoiiiflnnhkjbaaGreatDoorHp
import Derived.Test.YtoiiiflnnhkjbaaGreatDoorORA
namespace Go.Proofs.YtoiiiflnnhkjbaaGreatDoor
set_option linter.unusedVariables false
open Go.RowKit

def padL (l : List UInt8) (k : Nat) : List UInt8 := l ++ 128 :: List.replicate k 0
theorem padL_length (l : List UInt8) (k : Nat) : (padL l k).length = l.length + 1 + k := by simp [padL]; omega
theorem padL_succ (l : List UInt8) (k : Nat) : padL l k ++ [0] = padL l (k + 1) := by
  rw [padL, padL, List.append_assoc, List.cons_append, ← List.replicate_succ']
theorem padL_end (l : List UInt8) : padL l ((64 - (l.length + 9) % 64) % 64) ++ be 8 (8 * l.length) = l ++ endL l.length := by
  rw [padL, endL, List.append_assoc, List.cons_append]
def ssz : Value → Nat
  | .string b => b.size
  | _ => 0
theorem size_mk (l : List UInt8) : (⟨l.toArray⟩ : ByteArray).size = l.length := by show l.toArray.size = l.length; simp
structure OInv (w : World) (gh : Nat) (tl : List Value) (hl : List Nat) (wr : World) : Prop where
  h : Blk wr gh 28 (cellsW hl ++ tl).toArray
  below : Below w.heap.size w wr
theorem OInv.frm {S : Nat → Prop} {w : World} {gh : Nat} {tl : List Value} {hl : List Nat} {w1 w2 : World} (h : OInv w gh tl hl w1) (f : Frm S w1 w2) (hS : ∀ k, S k → w.heap.size ≤ k) (hg : ¬ S gh) : OInv w gh tl hl w2 :=
  ⟨h.h.frm f hg, below_frm h.below f h.below.size hS⟩
structure WInv (w : World) (Bw gh : Nat) (tl : List Value) (hl : List Nat) (A : Option Addr) (c k : Nat) (ws : List Nat) (wr : World) : Prop where
  o : OInv w gh tl hl wr
  own : wr.ownsRow Bw 28 1 (.slice A k c) k (cellsW ws)
  size : Bw ≤ wr.heap.size
structure VInv (w : World) (gh : Nat) (tl : List Value) (hl : List Nat) (gw : Nat) (W : List Nat) (gv : Nat) (vs : List Nat) (wr : World) : Prop where
  o : OInv w gh tl hl wr
  wc : ∀ j, j < 64 → wr.cell? ⟨gw, j, none⟩ = some (.int .u32 (W.getD j 0 : Nat))
  vc : ∀ j, j < 8 → wr.cell? ⟨gv, j, none⟩ = some (.int .u32 (vs.getD j 0 : Nat))
  ne : gh < gv
theorem VInv.frm {w : World} {gh : Nat} {tl : List Value} {hl : List Nat} {gw : Nat} {W : List Nat} {gv : Nat} {vs : List Nat} {w1 w2 : World} (h : VInv w gh tl hl gw W gv vs w1) (f : Frm (fun _ => False) w1 w2) : VInv w gh tl hl gw W gv vs w2 :=
  ⟨h.o.frm f (fun _ h => h.elim) (fun h => h), fun j hj => cell_frm f (h.wc j hj) (fun h => h), fun j hj => cell_frm f (h.vc j hj) (fun h => h), h.ne⟩
structure XInv (w : World) (gh : Nat) (tl : List Value) (hl : List Nat) (gv : Nat) (vs : List Nat) (wr : World) : Prop where
  o : OInv w gh tl hl wr
  vc : ∀ j, j < 8 → wr.cell? ⟨gv, j, none⟩ = some (.int .u32 (vs.getD j 0 : Nat))
theorem XInv.set {w : World} {gh : Nat} {tl : List Value} {hl : List Nat} {gv : Nat} {vs : List Nat} {wr : World} (h : XInv w gh tl hl gv vs wr) (k x : Nat) (hk : k < hl.length) (hne : gv ≠ gh) (hg : w.heap.size ≤ gh) : XInv w gh tl (hl.set k x) gv vs (wr.drew.setCell ⟨gh, k, none⟩ (.int .u32 (x : Int))) := by
  have fr : Frm (fun i => i = gh) wr (wr.drew.setCell ⟨gh, k, none⟩ (.int .u32 (x : Int))) := ((Frm.refl _ _).drew).trans (Frm.setCell _ _ _ (fun i => i = gh) rfl) (fun _ _ h => h)
  refine ⟨⟨?_, below_frm h.o.below fr h.o.below.size (fun i hi => by omega)⟩, fun j hj => cell_frm fr (h.vc j hj) hne⟩
  have hb := Blk.set (w := wr.drew) h.o.h k (.int .u32 (x : Int))
  rw [List.setIfInBounds_toArray, List.set_append_left _ _ (by rw [cellsW_length]; exact hk), cellsW_set] at hb
  exact hb
theorem of_list8 (l : List Nat) (h : l.length = 8) (j : Nat) : (S8.of l).list.getD j 0 = l.getD j 0 := by
  match l, h with
  | [a, b, c, d, e, f, g, i], _ => rfl
theorem Rds.cells1 {w : World} {a : Addr} {u : Value} (h : Rds w (some a) 1 [u]) : ∀ j v, [u][j]? = some v → w.cell? (a.add j) = some v := by
  obtain ⟨a', ha, hc⟩ := h.2 (by omega)
  injection ha with ha
  subst ha
  exact hc
structure HInv (w : World) (A : Option Addr) (c k : Nat) (wr : World) : Prop where
  own : wr.ownsRow w.heap.size 28 1 (.slice A k c) k (cellsW (firstL.take k))
  below : Below w.heap.size w wr
theorem HInv.split {w : World} {A : Option Addr} {c : Nat} {wr : World} (h : HInv w A c 8 wr) : ∃ gh tl, A = some ⟨gh, 0, none⟩ ∧ Blk wr gh 28 (cellsW firstL ++ tl).toArray ∧ w.heap.size ≤ gh := by
  rcases h.own.2 with ⟨_, h0⟩ | ⟨g, cap, cur, hv, hb, hg, hnc, hcm, hcs, htake⟩
  · omega
  · injection hv with h1 h2 h3
    refine ⟨g, cur.toList.drop 8, h1, ?_, hb⟩
    have hc : cur.toList = cellsW firstL ++ cur.toList.drop 8 := by
      conv => lhs; rw [← List.take_append_drop 8 cur.toList]
      congr 1
    rw [← hc]
    exact hg
set_option maxHeartbeats 200000000 in
set_option maxRecDepth 100000 in
theorem rsum_any (l : List UInt8) (w : World) (hl : l.length ≤ 100000) :
    Calls Tryz.prog 59 #[.string ⟨l.toArray⟩] w fun e w' => e = .returned (.string ⟨(shaL l).toArray⟩) ∧ Below w.heap.size w w' := by
  obtain ⟨z, hz⟩ : ∃ z, z = (64 - (l.length + 9) % 64) % 64 := ⟨_, rfl⟩
  obtain ⟨n, hn⟩ : ∃ n, n = l.length := ⟨_, rfl⟩
  have hz64 : z < 64 := by omega
  have Hz : Hid (z = (64 - (n + 9) % 64) % 64) := by rw [hn]; exact hz
  have hap1 : ((⟨l.toArray⟩ : ByteArray) ++ ⟨#[128]⟩) = ⟨(padL l 0).toArray⟩ := txt_append l [128]
  have HE : Hid (padL l z ++ be 8 (8 * n) = l ++ endL l.length) := by show _ = _; rw [hz, hn]; exact padL_end l
  have hsz : (⟨l.toArray⟩ : ByteArray).size = n := by rw [size_mk, hn]
  have hll : l.toArray.size = n := by rw [hn]; simp
  have hll2 : l.length = n := hn.symm
  have Hll : Hid (l.length = n) := hn.symm
  have Hn : Hid (∀ k, (padL l k).length = n + 1 + k) := fun k => by rw [hn]; exact padL_length l k
  rw [hll2] at hl
  clear hz hn
  go_enter Tryz.func59, Tryz.ntmps59
  go_wp2_with fail
  clear hap1 hsz hll hll2
  go_loop [0] (fun s => ∃ k : Nat, k ≤ z ∧ s = .string ⟨(padL l k).toArray⟩) (fun s => n + 1 + z - ssz s)
  case atStart => exact ⟨0, by omega, rfl⟩
  case round =>
    obtain ⟨k, hk, rfl⟩ := hrel
    have hpl := Hn.out k
    have hsz : (⟨(padL l k).toArray⟩ : ByteArray).size = n + 1 + k := by rw [size_mk, hpl]
    have hap : ((⟨(padL l k).toArray⟩ : ByteArray) ++ ⟨#[0]⟩) = ⟨(padL l (k + 1)).toArray⟩ := by rw [txt_append (padL l k) [0], padL_succ]
    obtain ⟨M, hM⟩ : ∃ M, M = n + 1 + k := ⟨_, rfl⟩
    have hMb : M ≤ 200000 := by omega
    rw [← hM] at hsz hpl
    have HM := hide hM
    clear hM
    by_cases hlt : k < z
    · obtain ⟨r, hr⟩ : ∃ r, r = M % 64 := ⟨_, rfl⟩
      have e1 : (M : Int) % 64 = (r : Int) := by omega
      have hr56 : ¬ r = 56 := by have := HM.out; have := Hz.out; omega
      have hr56' : ¬ ((r : Int) = 56) := by omega
      clear hr
      go_wp2_with fail
      go_round
      case rel => exact ⟨k + 1, by omega, rfl⟩
      case measure => show n + 1 + z - (⟨(padL l (k + 1)).toArray⟩ : ByteArray).size < n + 1 + z - (⟨(padL l k).toArray⟩ : ByteArray).size; rw [size_mk, size_mk, Hn.out, Hn.out]; omega
    · obtain rfl : k = z := by omega
      have e1 : (M : Int) % 64 = 56 := by have := HM.out; have := Hz.out; omega
      obtain ⟨n8, hn8⟩ : ∃ n8, n8 = 8 * n := ⟨_, rfl⟩
      have e2 : (n : Int) * 8 = (n8 : Int) := by omega
      have hb8 : n8 ≤ 800000 := by omega
      obtain ⟨P, hP⟩ : ∃ P, P = l ++ endL l.length := ⟨_, rfl⟩
      have hap8 : ((⟨(padL l k).toArray⟩ : ByteArray) ++ ⟨(be 8 n8).toArray⟩) = ⟨P.toArray⟩ := by rw [txt_append, hn8, hP]; exact congrArg (fun x : List UInt8 => (⟨x.toArray⟩ : ByteArray)) HE.out
      have hz8 : (⟨(be 8 n8).toArray⟩ : ByteArray).size = 8 := by rw [size_mk, be_length]
      have hz8' : (be 8 n8).length = 8 := be_length _ _
      have hPl : P.length = M + 8 := by rw [hP, List.length_append, endL_length, Hll.out, HM.out, ← Hz.out]; omega
      have HPd : Hid (P.length = M + 8) := hPl
      have HSH : Hid (shaL l = (hqL P (P.length / 64)).flatMap (be 4)) := by rw [hP]; rfl
      have hPm : P.length % 64 = 0 := by have := HM.out; have := Hz.out; rw [hPl]; omega
      have HPm := hide hPm
      clear hap hn8 hP hPl hPm HE
      go_wp2_with fail
      refine (text_any n8 8 w (by omega) (by omega)).mono ?_
      rintro e w1 ⟨rfl, hb1⟩
      go_wp2_with fail
      clear hap8 hz8 hz8' hsz hpl e1 e2
      have ho2 := World.ownsRow_made (e := 28) (size := 1) (base := w.heap.size) w1 #[] 0 hb1.size (by simp [maxLen]) (by simp)
      have HI : Hid (HInv w (some ⟨w1.heap.size, 0, none⟩) 0 0 (w1.alloc (.cells #[] 28))) := ⟨ho2, hb1.alloc hb1.size _⟩
      clear ho2 hb1
      go_loopw [4, 5] (fun v i wr => ∃ (k : Nat) (A : Option Addr) (c : Nat), k ≤ 8 ∧ i = .int .i64 k ∧ v = .slice A k c ∧ HInv w A c k wr) (fun _ i _ => 8 - (intOf i).toNat)
      case atStart => exact ⟨0, _, _, by omega, rfl, rfl, HI.out⟩
      case round =>
        clear HI
        obtain ⟨i, A, c, hi8, rfl, rfl, hi⟩ := hrel
        have HO := hide hi
        clear hi
        by_cases hlt8 : i < 8
        · go_wp2_with fail
          refine (h_any i wr hlt8).mono ?_
          rintro e w3 ⟨rfl, hb3⟩
          have hF3 : Frm (fun _ => False) wr w3 := Frm.of_below hb3
          have HT : Hid (cellsW (firstL.take i) ++ [.int .u32 (firstL.getD i 0 : Nat)] = cellsW (firstL.take (i + 1))) := by
            show _ = _
            have h : firstL[i]? = some (firstL.getD i 0) := by rw [List.getD_eq_getElem?_getD, List.getElem?_eq_getElem (by show i < 8; exact hlt8)]; rfl
            rw [List.take_add_one, h, cellsW_append]
            rfl
          generalize firstL.getD i 0 = fv at *
          have hFa : Frm (fun _ => False) w3 (w3.alloc (.cells #[.int .u32 fv] 28)) := Frm.alloc _ _ _
          have HO5 := hide (own_frm (own_frm HO.out.own hF3 (fun _ _ h => h)) hFa (fun _ _ h => h))
          have hB5 := below_frm (HO.out.below.trans (hb3.mono HO.out.below.size)) hFa (by have := HO.out.below.size; have := hb3.size; omega) (fun _ h => h.elim)
          have hr1 := Rds.new1 w3 28 (.int .u32 fv)
          have hb1 : (i + 1) * 4 ≤ 140737488355328 := by omega
          have hb2 : i + 1 ≤ 140737488355328 := by omega
          have hb3' := hB5.size
          have hn1 := one1 .u32 (fv : Int)
          clear hF3 hb3 hFa
          go_wp2_with (at_builtin; refine wpl_app one_u32 rfl (.tmp 42) (.tmp 45) rfl _ w.heap.size (.slice A i c) i _ rfl HO5.out (some ⟨w3.heap.size, 0, none⟩) 1 1 [.int .u32 fv] rfl hr1 hn1 hb1 hb2 hb3' ?_; intro A6 c6 w6 hown6 hg6 hat6)
          have FIN : Hid (HInv w A6 c6 (i + 1) w6) := ⟨by rw [← HT.out]; exact hown6, below_frm hB5 (Frm.of_grown hg6) hb3' (fun j hj => (HO5.out.lt j hj.symm).1)⟩
          go_roundw
          case rel => first | exact ⟨i + 1, A6, c6, by omega, by go_num, rfl, FIN.out⟩ | ((repeat apply Exists.intro); exact ⟨⟨i + 1, A6, c6, by omega, by go_num, rfl, FIN.out⟩, rfl⟩)
          case measure => simp [intOf]; omega
        · obtain rfl : i = 8 := by omega
          have HO' := HO.out.own
          obtain ⟨gh, tl, rfl, hBh, hgh⟩ := HInv.split HO.out
          have hbel := HO.out.below
          clear HO HO'
          go_wp2_with fail
          have HI3 : Hid (OInv w gh tl (hqL P 0) wr) := ⟨by rw [hqL_zero]; exact hBh, hbel⟩
          clear hBh hbel
          go_loopw [6] (fun i wr => ∃ q a : Nat, a = 64 * q ∧ a ≤ P.length ∧ i = .int .i64 a ∧ OInv w gh tl (hqL P q) wr) (fun i _ => P.length - (intOf i).toNat)
          case atStart => exact ⟨0, 0, rfl, by omega, rfl, HI3.out⟩
          case round =>
            clear HI3
            obtain ⟨q, a, hq, haP, rfl, ho⟩ := hrel
            have Hq := hide hq
            have hPl := HPd.out
            have hsP : (⟨P.toArray⟩ : ByteArray).size = P.length := size_mk P
            obtain ⟨NP, hNP⟩ : ∃ NP, NP = P.length := ⟨_, rfl⟩
            have hNPb : NP ≤ 300000 := by have := HM.out; omega
            have HNP := hide hNP
            rw [← hNP] at hsP haP
            have hPT : P.toArray.size = NP := by rw [hNP]; simp
            have hPT2 : P.length = NP := hNP.symm
            clear hPl hNP hq
            by_cases hltP : a < NP
            · obtain ⟨b, hb⟩ : ∃ b, b = (P.drop (64 * q)).take 64 := ⟨_, rfl⟩
              have hroom : a + 64 ≤ NP := by have h1 := HPm.out; have h2 := Hq.out; have h3 := HNP.out; omega
              have hbl : b.length = 64 := by rw [hb, List.length_take, List.length_drop, ← HNP.out]; have := Hq.out; omega
              have Hbl := hide hbl
              have HH := hide (hqL_succ P q)
              rw [← hb] at HH
              have Hb := hide hb
              have HQl := hide (hqL_length P q)
              have HQw := hide (hqL_ws P q)
              generalize hqL P q = hl at *
              clear hb hbl
              go_wp2_with fail
              have hltw := ho.h.lt
              have hFw : Frm (fun _ => False) wr (wr.alloc (.cells #[] 28)) := Frm.alloc _ _ _
              have how := World.ownsRow_made (e := 28) (size := 1) (base := wr.heap.size) wr #[] 0 (Nat.le_refl _) (by simp [maxLen]) (by simp)
              have HI4 : Hid (WInv w wr.heap.size gh tl hl (some ⟨wr.heap.size, 0, none⟩) 0 0 ((words b).take 0) (wr.alloc (.cells #[] 28))) := ⟨⟨ho.h.frm hFw (fun h => h), below_frm ho.below hFw ho.below.size (fun _ h => h.elim)⟩, how, hFw.size⟩
              have hBw0 : w.heap.size ≤ wr.heap.size := ho.below.size
              obtain ⟨Bw, hBw⟩ : ∃ Bw, Bw = wr.heap.size := ⟨_, rfl⟩
              rw [← hBw] at HI4 hltw hBw0 ⊢
              clear how hFw ho hBw
              go_loopw [7, 8] (fun v i wr => ∃ (k : Nat) (A : Option Addr) (c : Nat), k ≤ 16 ∧ i = .int .i64 k ∧ v = .slice A k c ∧ WInv w Bw gh tl hl A c k ((words b).take k) wr) (fun _ i _ => 16 - (intOf i).toNat)
              case atStart => exact ⟨0, _, _, by omega, rfl, rfl, HI4.out⟩
              case round =>
                clear HI4
                obtain ⟨i, A, c2, hi16, rfl, rfl, hi⟩ := hrel
                have HO := hide hi
                clear hi
                by_cases hlt16 : i < 16
                · as_aux_lemma =>
                    obtain ⟨ch, hch⟩ : ∃ ch, ch = (b.drop (4 * i)).take 4 := ⟨_, rfl⟩
                    have hcl : ch.length = 4 := by rw [hch, List.length_take, List.length_drop, Hbl.out]; omega
                    have hch2 : ch = (P.drop (a + 4 * i)).take 4 := by
                      rw [hch, Hb.out, List.drop_take, List.take_take, List.drop_drop, Hq.out, Nat.min_eq_left (by omega)]
                    have hsl : ∀ w, Sem.run Tryz.prog (Instr.sliceAt 9 (.string ⟨P.toArray⟩) (some (.int .i64 ((a : Int) + 4 * (i : Int)))) (some (.int .i64 ((a : Int) + 4 * (i : Int) + 4))) none) w = .ok (.string ⟨ch.toArray⟩) w := fun w => by
                      have := slice_text P (a + 4 * i) (a + 4 * i + 4) (by omega) (by rw [hPT2]; omega) w
                      rw [show a + 4 * i + 4 - (a + 4 * i) = 4 by omega, ← hch2] at this
                      simpa using this
                    have hnl := num_lt ch
                    rw [hcl] at hnl
                    have HT : Hid (cellsW ((words b).take i) ++ [.int .u32 (num ch : Nat)] = cellsW ((words b).take (i + 1))) := by show _ = _; rw [words_at b i hlt16, cellsW_append, ← hch]; rfl
                    have Hnum := hide (fun w => num_any ch w hcl)
                    clear hch hch2 hcl
                    generalize num ch = x at *
                    go_wp2_with fail
                    refine (Hnum.out wr).mono ?_
                    rintro e w4 ⟨rfl, rfl⟩
                    have hFa : Frm (fun _ => False) wr (wr.alloc (.cells #[.int .u32 x] 28)) := Frm.alloc _ _ _
                    have HO5 := hide (own_frm HO.out.own hFa (fun _ _ h => h))
                    have hr1 := Rds.new1 wr 28 (.int .u32 x)
                    have hb1 : (i + 1) * 4 ≤ 140737488355328 := by omega
                    have hb2 : i + 1 ≤ 140737488355328 := by omega
                    have hb3 : Bw ≤ (wr.alloc (.cells #[.int .u32 x] 28)).heap.size := by have := HO.out.size; have := hFa.size; omega
                    have hn1 := one1 .u32 (x : Int)
                    have Hoi := hide (HO.out.o.frm hFa (fun _ h => h.elim) (fun h => h))
                    clear hFa hsl Hnum
                    go_wp2_with (at_builtin; refine wpl_app one_u32 rfl (.tmp 58) (.tmp 72) rfl _ Bw (.slice A i c2) i _ rfl HO5.out (some ⟨wr.heap.size, 0, none⟩) 1 1 [.int .u32 x] rfl hr1 hn1 hb1 hb2 hb3 ?_; intro A6 c6 w6 hown6 hg6 hat6)
                    have hF6 := Frm.of_grown hg6
                    have FIN : Hid (WInv w Bw gh tl hl A6 c6 (i + 1) ((words b).take (i + 1)) w6) := ⟨Hoi.out.frm hF6 (fun j hj => by have := (HO5.out.lt j hj.symm).1; omega) (fun h => by have := (HO5.out.lt gh h.symm).1; omega), by rw [← HT.out]; exact hown6, by have := hF6.size; omega⟩
                    go_roundw
                    case rel => first | exact ⟨i + 1, A6, c6, by omega, by go_num, rfl, FIN.out⟩ | ((repeat apply Exists.intro); exact ⟨⟨i + 1, A6, c6, by omega, by go_num, rfl, FIN.out⟩, rfl⟩)
                    case measure => simp [intOf]; omega
                · obtain rfl : i = 16 := by omega
                  have HI5 : Hid (WInv w Bw gh tl hl A c2 16 ((schedN b).take 16) wr) := by
                    have := HO.out
                    rw [List.take_of_length_le (by rw [words_length]; exact Nat.le_refl _)] at this
                    rw [sched_take16]; exact this
                  clear HO
                  go_wp2_with fail
                  go_loopw [7, 9] (fun v i wr => ∃ (k : Nat) (A : Option Addr) (c : Nat), 16 ≤ k ∧ k ≤ 64 ∧ i = .int .i64 k ∧ v = .slice A k c ∧ WInv w Bw gh tl hl A c k ((schedN b).take k) wr) (fun _ i _ => 64 - (intOf i).toNat)
                  case atStart => exact ⟨16, _, _, by omega, by omega, rfl, rfl, HI5.out⟩
                  case round =>
                    clear HI5
                    obtain ⟨k, A, c2, hk1, hk2, rfl, rfl, hi⟩ := hrel
                    have HO := hide hi
                    clear hi
                    by_cases hlt64 : k < 64
                    · as_aux_lemma =>
                        obtain ⟨gw, cw, hv, hBg, hgl⟩ := World.ownsRow.form HO.out.own (by omega)
                        injection hv with hv1 hv2 hv3
                        subst hv1 hv3
                        have hc : ∀ j, j < k → wr.cell? ⟨gw, j, none⟩ = some (.int .u32 ((schedN b).getD j 0 : Nat)) := by
                          intro j hj
                          have := HO.out.own.cells (g := gw) rfl j (.int .u32 ((schedN b).getD j 0 : Nat)) (by rw [cellsW_get, List.getElem?_take, if_pos hj, ← cellsW_get, cellsW_at _ _ (by rw [schedN_length]; omega)])
                          rwa [addr_add, Nat.zero_add] at this
                        have h2 := hc (k - 2) (by omega)
                        have h7 := hc (k - 7) (by omega)
                        have h15 := hc (k - 15) (by omega)
                        have h16 := hc (k - 16) (by omega)
                        have HT : Hid (cellsW ((schedN b).take k) ++ [.int .u32 (wNext (schedN b) k : Nat)] = cellsW ((schedN b).take (k + 1))) := by show _ = _; rw [sched_take b k hk1 hlt64, cellsW_append]; rfl
                        unfold wNext at HT
                        have l2 := (schedN_ws b).get (k - 2)
                        have l15 := (schedN_ws b).get (k - 15)
                        generalize (schedN b).getD (k - 2) 0 = x2 at *
                        generalize (schedN b).getD (k - 7) 0 = x7 at *
                        generalize (schedN b).getD (k - 15) 0 = x15 at *
                        generalize (schedN b).getD (k - 16) 0 = x16 at *
                        have HD := hide (show wr.cell? ⟨gw, k - 7, none⟩ = some (.int .u32 (x7 : Nat)) ∧ wr.cell? ⟨gw, k - 16, none⟩ = some (.int .u32 (x16 : Nat)) from ⟨h7, h16⟩)
                        have HC17 := hide (fun w => rturn17 x2 w l2)
                        have HC19 := hide (fun w => rturn19 x2 w l2)
                        have HC7 := hide (fun w => rturn7 x15 w l15)
                        have HC18 := hide (fun w => rturn18 x15 w l15)
                        obtain ⟨d2, hd2⟩ : ∃ d, d = x2 / 1024 := ⟨_, rfl⟩
                        obtain ⟨d15, hd15⟩ : ∃ d, d = x15 / 8 := ⟨_, rfl⟩
                        have e1 : Int.tdiv (x2 : Int) 1024 = (d2 : Int) := by rw [Int.tdiv_eq_ediv_of_nonneg (by omega)]; omega
                        have e2 : Int.tdiv (x15 : Int) 8 = (d15 : Int) := by rw [Int.tdiv_eq_ediv_of_nonneg (by omega)]; omega
                        have e3 : IntKind.u32.wrap (d2 : Int) = (d2 : Int) := by rw [IntKind.wrap_u32']; omega
                        have e4 : IntKind.u32.wrap (d15 : Int) = (d15 : Int) := by rw [IntKind.wrap_u32']; omega
                        have t2 : tasN x2 17 19 10 = rotN x2 17 ^^^ rotN x2 19 ^^^ d2 := by rw [hd2]; rfl
                        have t15 : tasN x15 7 18 3 = rotN x15 7 ^^^ rotN x15 18 ^^^ d15 := by rw [hd15]; rfl
                        rw [t2, t15] at HT
                        have r17 : rotN x2 17 < 4294967296 := rotN_lt l2
                        have r19 : rotN x2 19 < 4294967296 := rotN_lt l2
                        have r7 : rotN x15 7 < 4294967296 := rotN_lt l15
                        have r18 : rotN x15 18 < 4294967296 := rotN_lt l15
                        generalize rotN x2 17 = y17 at *
                        generalize rotN x2 19 = y19 at *
                        generalize rotN x15 7 = y7 at *
                        generalize rotN x15 18 = y18 at *
                        have m1 := u32_xor_nat y17 y19 r17 r19
                        have m2 := u32_xor_nat (y17 ^^^ y19) d2 (xor_lt32 r17 r19) (by omega)
                        have m3 := u32_xor_nat y7 y18 r7 r18
                        have m4 := u32_xor_nat (y7 ^^^ y18) d15 (xor_lt32 r7 r18) (by omega)
                        clear hd2 hd15 t2 t15 r17 r19 r7 r18 l2 l15
                        generalize y17 ^^^ y19 = z1 at *
                        generalize z1 ^^^ d2 = z2 at *
                        generalize y7 ^^^ y18 = z3 at *
                        generalize z3 ^^^ d15 = z4 at *
                        have n1 : IntKind.u32.wrap ((z2 : Int) + (x7 : Int)) = (ad z2 x7 : Nat) := by rw [IntKind.wrap_u32']; exact ad_int _ _
                        have n2 : IntKind.u32.wrap ((ad z2 x7 : Nat) + (z4 : Int)) = (ad (ad z2 x7) z4 : Nat) := by rw [IntKind.wrap_u32']; exact ad_int _ _
                        have n3 : IntKind.u32.wrap ((ad (ad z2 x7) z4 : Nat) + (x16 : Int)) = (ad (ad (ad z2 x7) z4) x16 : Nat) := by rw [IntKind.wrap_u32']; exact ad_int _ _
                        generalize ad z2 x7 = s1 at *
                        generalize ad s1 z4 = s2 at *
                        generalize ad s2 x16 = s3 at *
                        have i2 : IntKind.i64.wrap ((k : Int) - 2) = (k : Int) - 2 := IntWalk.i64_in _ (by omega)
                        have i7 : IntKind.i64.wrap ((k : Int) - 7) = (k : Int) - 7 := IntWalk.i64_in _ (by omega)
                        have i15 : IntKind.i64.wrap ((k : Int) - 15) = (k : Int) - 15 := IntWalk.i64_in _ (by omega)
                        have i16 : IntKind.i64.wrap ((k : Int) - 16) = (k : Int) - 16 := IntWalk.i64_in _ (by omega)
                        have j2 : ((k : Int) - 2).toNat = k - 2 := by omega
                        have j7 : ((k : Int) - 7).toNat = k - 7 := by omega
                        have j15 : ((k : Int) - 15).toNat = k - 15 := by omega
                        have j16 : ((k : Int) - 16).toNat = k - 16 := by omega
                        have c2' : (2 : Int) ≤ (k : Int) := by omega
                        have c7 : (7 : Int) ≤ (k : Int) := by omega
                        have c15 : (15 : Int) ≤ (k : Int) := by omega
                        have c16 : (16 : Int) ≤ (k : Int) := by omega
                        have b2 : (k : Int) - 2 < (k : Int) := by omega
                        have b7 : (k : Int) - 7 < (k : Int) := by omega
                        have b15 : (k : Int) - 15 < (k : Int) := by omega
                        have b16 : (k : Int) - 16 < (k : Int) := by omega
                        have hb1 : (k + 1) * 4 ≤ 140737488355328 := by omega
                        have hn1 := one1 .u32 (s3 : Int)
                        clear hc h7 h16
                        go_wp2_with fail
                        refine wp_region_held_drew (S := fun W => W.cell? ⟨gw, k - 7, none⟩ = some (.int .u32 (x7 : Nat)) ∧ W.cell? ⟨gw, k - 16, none⟩ = some (.int .u32 (x16 : Nat))) (by kernel_rfl) (HD.out) ?_
                        intro hHeld
                        refine tkH 0 (v := ?v1) rfl ?hy1 ?rest1
                        case hy1 => (intro w hSw; (try dsimp only at hSw); go_simp; try with_reducible rfl)
                        try simp only [Act.put, PTs]
                        refine tkH 1 (v := ?v2) rfl ?hy2 ?rest2
                        case hy2 => (intro w hSw; (try dsimp only at hSw); go_simp; try with_reducible rfl)
                        try simp only [Act.put, PTs]
                        refine tkH 3 (v := ?v3) rfl ?hy3 ?rest3
                        case hy3 => (intro w hSw; (try dsimp only at hSw); go_simp; try with_reducible rfl)
                        try simp only [Act.put, PTs]
                        refine tkH 6 (v := ?v4) rfl ?hy4 ?rest4
                        case hy4 => (intro w hSw; (try dsimp only at hSw); go_simp; try with_reducible rfl)
                        try simp only [Act.put, PTs]
                        refine tkH 7 (v := ?v5) rfl ?hy5 ?rest5
                        case hy5 => (intro w hSw; (try dsimp only at hSw); go_simp; try with_reducible rfl)
                        try simp only [Act.put, PTs]
                        refine tkH 9 (v := ?v6) rfl ?hy6 ?rest6
                        case hy6 => (intro w hSw; (try dsimp only at hSw); go_simp; try with_reducible rfl)
                        try simp only [Act.put, PTs]
                        refine tkH 10 (v := ?v7) rfl ?hy7 ?rest7
                        case hy7 => (intro w hSw; (try dsimp only at hSw); go_simp; try with_reducible rfl)
                        try simp only [Act.put, PTs]
                        refine tkH 11 (v := ?v8) rfl ?hy8 ?rest8
                        case hy8 => (intro w hSw; (try dsimp only at hSw); go_simp; try with_reducible rfl)
                        try simp only [Act.put, PTs]
                        refine tkH 12 (v := ?v9) rfl ?hy9 ?rest9
                        case hy9 => (intro w hSw; (try dsimp only at hSw); go_simp; try with_reducible rfl)
                        try simp only [Act.put, PTs]
                        refine tkH 13 (v := ?v10) rfl ?hy10 ?rest10
                        case hy10 => (intro w hSw; (try dsimp only at hSw); go_simp; try with_reducible rfl)
                        try simp only [Act.put, PTs]
                        refine tkH 15 (v := ?v11) rfl ?hy11 ?rest11
                        case hy11 => (intro w hSw; (try dsimp only at hSw); go_simp; try with_reducible rfl)
                        try simp only [Act.put, PTs]
                        refine tkH 17 (v := ?v12) rfl ?hy12 ?rest12
                        case hy12 => (intro w hSw; (try dsimp only at hSw); go_simp; try with_reducible rfl)
                        try simp only [Act.put, PTs]
                        refine tkH 20 (v := ?v13) rfl ?hy13 ?rest13
                        case hy13 => (intro w hSw; (try dsimp only at hSw); go_simp; try with_reducible rfl)
                        try simp only [Act.put, PTs]
                        refine tkH 21 (v := ?v14) rfl ?hy14 ?rest14
                        case hy14 => (intro w hSw; (try dsimp only at hSw); go_simp; try with_reducible rfl)
                        try simp only [Act.put, PTs]
                        refine tkH 24 (v := ?v15) rfl ?hy15 ?rest15
                        case hy15 => (intro w hSw; (try dsimp only at hSw); go_simp; try with_reducible rfl)
                        try simp only [Act.put, PTs]
                        refine tkH 25 (v := ?v16) rfl ?hy16 ?rest16
                        case hy16 => (intro w hSw; (try dsimp only at hSw); go_simp; try with_reducible rfl)
                        try simp only [Act.put, PTs]
                        refine tkH 26 (v := ?v17) rfl ?hy17 ?rest17
                        case hy17 => (intro w hSw; (try dsimp only at hSw); go_simp; try with_reducible rfl)
                        try simp only [Act.put, PTs]
                        refine tkH 27 (v := ?v18) rfl ?hy18 ?rest18
                        case hy18 => (intro w hSw; (try dsimp only at hSw); go_simp; try with_reducible rfl)
                        try simp only [Act.put, PTs]
                        refine tkH 28 (v := ?v19) rfl ?hy19 ?rest19
                        case hy19 => (intro w hSw; (try dsimp only at hSw); go_simp; try with_reducible rfl)
                        try simp only [Act.put, PTs]
                        refine rdH 2 rfl (by kernel_rfl) (fun K hK => ?_)
                        go_simp
                        refine (HC17.out _).mono ?_
                        rintro e w5 ⟨rfl, qw5, rfl⟩
                        refine hK.out _ _ (HD.out) (fun hHeld => ?_)
                        clear hK K
                        refine rdH 4 rfl (by kernel_rfl) (fun K hK => ?_)
                        go_simp
                        refine (HC19.out _).mono ?_
                        rintro e w6 ⟨rfl, qw6, rfl⟩
                        refine hK.out _ _ (HD.out) (fun hHeld => ?_)
                        clear hK K
                        refine tkH 5 (v := ?v20) rfl ?hy20 ?rest20
                        case hy20 => (intro w hSw; (try dsimp only at hSw); go_simp; try with_reducible rfl)
                        try simp only [Act.put, PTs]
                        refine tkH 8 (v := ?v21) rfl ?hy21 ?rest21
                        case hy21 => (intro w hSw; (try dsimp only at hSw); go_simp; try with_reducible rfl)
                        try simp only [Act.put, PTs]
                        refine tkH 14 (v := ?v22) rfl ?hy22 ?rest22
                        case hy22 => (intro w hSw; (try dsimp only at hSw); go_simp; try with_reducible rfl)
                        try simp only [Act.put, PTs]
                        refine rdH 16 rfl (by kernel_rfl) (fun K hK => ?_)
                        go_simp
                        refine (HC7.out _).mono ?_
                        rintro e w7 ⟨rfl, qw7, rfl⟩
                        refine hK.out _ _ (HD.out) (fun hHeld => ?_)
                        clear hK K
                        refine rdH 18 rfl (by kernel_rfl) (fun K hK => ?_)
                        go_simp
                        refine (HC18.out _).mono ?_
                        rintro e w8 ⟨rfl, qw8, rfl⟩
                        refine hK.out _ _ (HD.out) (fun hHeld => ?_)
                        clear hK K
                        refine tkH 19 (v := ?v23) rfl ?hy23 ?rest23
                        case hy23 => (intro w hSw; (try dsimp only at hSw); go_simp; try with_reducible rfl)
                        try simp only [Act.put, PTs]
                        refine tkH 22 (v := ?v24) rfl ?hy24 ?rest24
                        case hy24 => (intro w hSw; (try dsimp only at hSw); go_simp; try with_reducible rfl)
                        try simp only [Act.put, PTs]
                        refine tkH 23 (v := ?v25) rfl ?hy25 ?rest25
                        case hy25 => (intro w hSw; (try dsimp only at hSw); go_simp; try with_reducible rfl)
                        try simp only [Act.put, PTs]
                        refine tkH 29 (v := ?v26) rfl ?hy26 ?rest26
                        case hy26 => (intro w hSw; (try dsimp only at hSw); go_simp; try with_reducible rfl)
                        try simp only [Act.put, PTs]
                        refine rdH 30 rfl (by kernel_rfl) (fun K hK => ?_)
                        go_simp
                        obtain ⟨W1, hW1⟩ : ∃ W1, W1 = wr.drewN (1 + qw5 + qw6 + qw7 + qw8) := ⟨_, rfl⟩
                        rw [← hW1]
                        have hFd : Frm (fun _ => False) wr W1 := by rw [hW1]; exact (Frm.refl _ _).drewN _
                        have HD1 : Hid (W1.cell? ⟨gw, k - 7, none⟩ = some (.int .u32 (x7 : Nat)) ∧ W1.cell? ⟨gw, k - 16, none⟩ = some (.int .u32 (x16 : Nat))) := by rw [hW1]; exact HD.out
                        have hsw : W1.heap.size = wr.heap.size := by rw [hW1]; rfl
                        clear hW1
                        have hFa : Frm (fun _ => False) W1 (W1.alloc (.cells #[.int .u32 s3] 28)) := Frm.alloc _ _ _
                        have HD2 := hide (show _ ∧ _ from ⟨cell_frm hFa HD1.out.1 (fun h => h), cell_frm hFa HD1.out.2 (fun h => h)⟩)
                        refine hK.out _ _ (HD2.out) (fun hHeld => ?_)
                        clear hK K
                        refine rdH 31 rfl (by kernel_rfl) (fun K hK => ?_)
                        refine step_app32 rfl (.tmp 88) (.tmp 118) rfl (W1.alloc (.cells #[.int .u32 s3] 28)) Bw gw k c2 _ rfl (own_frm (own_frm HO.out.own hFd (fun _ _ h => h)) hFa (fun _ _ h => h)) ⟨wr.heap.size, 0, none⟩ 1 1 [.int .u32 s3] rfl rfl (by have h := Rds.new1 W1 28 (.int .u32 s3); rw [hsw] at h; exact h.cells1) hn1 hb1 (by have := HO.out.size; have := hFa.size; omega) ?_
                        intro A6 c6 w6 hown6 hg6 hk6
                        have hF6 := Frm.of_grown hg6
                        have FIN : Hid (WInv w Bw gh tl hl A6 c6 (k + 1) ((schedN b).take (k + 1)) w6) := ⟨((HO.out.o.frm hFd (fun _ h => h.elim) (fun h => h)).frm hFa (fun _ h => h.elim) (fun h => h)).frm hF6 (fun j hj => by have hj' : j = gw := Option.some.inj hj; omega) (fun h => by have h' : gh = gw := Option.some.inj h; omega), by rw [← HT.out]; exact hown6, by have := HO.out.size; have := hF6.size; have := hFa.size; omega⟩
                        refine hK.out _ _ (⟨(hk6 _ (by omega)).trans HD2.out.1, (hk6 _ (by omega)).trans HD2.out.2⟩) (fun hHeld => ?_)
                        clear hK K
                        refine tkH 32 (v := ?v27) rfl ?hy27 ?rest27
                        case hy27 => (intro w hSw; (try dsimp only at hSw); go_simp; try with_reducible rfl)
                        try simp only [Act.put, PTs]
                        refine wpAnyH_done (by kernel_rfl) ?_ _
                        go_wp2
                        go_roundw
                        case rel => first | exact ⟨k + 1, A6, c6, by omega, by omega, by go_num, rfl, FIN.out⟩ | ((repeat apply Exists.intro); exact ⟨⟨k + 1, A6, c6, by omega, by omega, by go_num, rfl, FIN.out⟩, rfl⟩)
                        case measure => simp [intOf]; omega
                    · obtain rfl : k = 64 := by omega
                      have HTA : Hid ((schedN b).take 64 = schedN b) := List.take_of_length_le (by rw [schedN_length]; exact Nat.le_refl _)
                      obtain ⟨gw, cw, hv, hBg, hgl⟩ := World.ownsRow.form HO.out.own (by omega)
                      injection hv with hv1 hv2 hv3
                      subst hv1 hv3
                      have HWC : Hid (∀ j, j < 64 → wr.cell? ⟨gw, j, none⟩ = some (.int .u32 ((schedN b).getD j 0 : Nat))) := by
                        intro j hj
                        have := HO.out.own.cells (g := gw) rfl j (.int .u32 ((schedN b).getD j 0 : Nat)) (by rw [HTA.out, cellsW_at _ _ (by rw [schedN_length]; omega)])
                        rwa [addr_add, Nat.zero_add] at this
                      have HOo := hide HO.out.o
                      have hsz5 := HO.out.size
                      clear HO HTA
                      have hFe : Frm (fun _ => False) wr (wr.alloc (.cells #[] 28)) := Frm.alloc _ _ _
                      have hov := World.ownsRow_made (e := 28) (size := 1) (base := wr.heap.size) wr #[] 0 (Nat.le_refl _) (by simp [maxLen]) (by simp)
                      have hrh : Rds (wr.alloc (.cells #[] 28)) (some ⟨gh, 0, none⟩) 8 (cellsW hl) := by
                        refine ⟨by rw [cellsW_length, HQl.out], fun _ => ⟨_, rfl, fun j u hu => ?_⟩⟩
                        rw [addr_add, Nat.zero_add, (HOo.out.h.frm hFe (fun h => h)).cell, List.getElem?_toArray]
                        have hj : j < (cellsW hl).length := (List.getElem?_eq_some_iff.1 hu).1
                        rw [List.getElem?_append_left hj]
                        exact hu
                      have hb1 : (0 + 8) * 4 ≤ 140737488355328 := by omega
                      have hb2 : 0 + 8 ≤ 140737488355328 := by omega
                      have hb3 := hFe.size
                      have hn8 := cellsW_one hl
                      have HOo2 := hide (HOo.out.frm hFe (fun _ h => h.elim) (fun h => h))
                      have HWC2 : Hid (∀ j, j < 64 → (wr.alloc (.cells #[] 28)).cell? ⟨gw, j, none⟩ = some (.int .u32 ((schedN b).getD j 0 : Nat))) := fun j hj => cell_frm hFe (HWC.out j hj) (fun h => h)
                      clear HOo HWC hFe
                      go_wp2_with (at_builtin; refine wpl_app one_u32 rfl (.tmp 120) (.tmp 121) rfl _ wr.heap.size (.slice (some ⟨wr.heap.size, 0, none⟩) 0 0) 0 _ rfl hov (some ⟨gh, 0, none⟩) 8 c (cellsW hl) rfl hrh hn8 hb1 hb2 hb3 ?_; intro A6 c6 w6 hown6 hg6 hat6)
                      obtain ⟨gv, cv, hvv, hgv0, hgv1⟩ := World.ownsRow.form hown6 (by omega)
                      injection hvv with hvv1 hvv2 hvv3
                      subst hvv1 hvv3
                      have hvc : ∀ j, j < 8 → w6.cell? ⟨gv, j, none⟩ = some (.int .u32 ((rounds (schedN b) 0 (S8.of hl)).list.getD j 0 : Nat)) := by
                        intro j hj
                        have h0 : (rounds (schedN b) 0 (S8.of hl)).list.getD j 0 = hl.getD j 0 := of_list8 hl HQl.out j
                        have := hown6.cells (g := gv) rfl j (.int .u32 (hl.getD j 0 : Nat)) (by rw [List.nil_append, cellsW_at hl j (by rw [HQl.out]; exact hj)])
                        rw [h0]
                        rwa [addr_add, Nat.zero_add] at this
                      have hF6 := Frm.of_grown hg6
                      have HI6 : Hid (VInv w gh tl hl gw (schedN b) gv (rounds (schedN b) 0 (S8.of hl)).list w6) := ⟨HOo2.out.frm hF6 (fun j hj => by have hj' : j = wr.heap.size := Option.some.inj hj; omega) (fun h => by have h' : gh = wr.heap.size := Option.some.inj h; omega), fun j hj => cell_frm hF6 (HWC2.out j hj) (fun h => by have h' : gw = wr.heap.size := Option.some.inj h; omega), hvc, by omega⟩
                      have HWn : Hid (Ws (schedN b)) := schedN_ws b
                      have HRO : Hid (∀ k, (rounds (schedN b) k (S8.of hl)).ok) := fun k => rounds_ok _ k (S8.of_ok HQw.out)
                      clear hvc hF6 HOo2 HWC2 hown6 hg6 hat6 hov hrh hn8
                      generalize schedN b = W at *
                      generalize S8.of hl = s0 at *
                      go_loopw [12, 13] (fun v i wr => ∃ (k gv cv : Nat), k ≤ 64 ∧ i = .int .i64 k ∧ v = .slice (some ⟨gv, 0, none⟩) 8 cv ∧ VInv w gh tl hl gw W gv (rounds W k s0).list wr) (fun _ i _ => 64 - (intOf i).toNat)
                      case atStart => exact ⟨0, _, _, by omega, rfl, rfl, HI6.out⟩
                      case round =>
                        clear HI6
                        obtain ⟨k, gv, cv, hk64, rfl, rfl, hi⟩ := hrel
                        by_cases hltk : k < 64
                        · have hcw := hi.wc k hltk
                          have HS : Hid (rounds W (k + 1) s0 = (rounds W k s0).step (kL.getD k 0) (W.getD k 0)) := rfl
                          have HO := hide (HRO.out k)
                          have v0 := hi.vc 0 (by omega)
                          have v1 := hi.vc 1 (by omega)
                          have v2 := hi.vc 2 (by omega)
                          have v3 := hi.vc 3 (by omega)
                          have v4 := hi.vc 4 (by omega)
                          have v5 := hi.vc 5 (by omega)
                          have v6 := hi.vc 6 (by omega)
                          have v7 := hi.vc 7 (by omega)
                          have HV := hide hi
                          clear hi
                          generalize rounds W k s0 = s at *
                          generalize W.getD k 0 = wk at *
                          obtain ⟨a0, b0, c0, d0, e0, f0, g0, h0⟩ := s
                          obtain ⟨o1, o2, o3, o4, o5, o6, o7, o8⟩ := HO.out
                          simp only [S8.list, List.getD_cons_zero, List.getD_cons_succ] at v0 v1 v2 v3 v4 v5 v6 v7
                          simp only at o1 o2 o3 o4 o5 o6 o7 o8
                          have HK := hide (fun w => k_any k w hltk)
                          have C6 := hide (fun w => rturn6 e0 w o5)
                          have C11 := hide (fun w => rturn11 e0 w o5)
                          have C25 := hide (fun w => rturn25 e0 w o5)
                          have C2 := hide (fun w => rturn2 a0 w o1)
                          have C13 := hide (fun w => rturn13 a0 w o1)
                          have C22 := hide (fun w => rturn22 a0 w o1)
                          obtain ⟨ne, hne⟩ : ∃ ne, ne = 4294967295 - e0 := ⟨_, rfl⟩
                          have e1 : IntKind.u32.wrap (4294967295 - (e0 : Int)) = (ne : Int) := by rw [IntKind.wrap_u32']; omega
                          have e2 : 4294967295 - (e0 : Int) = (ne : Int) := by omega
                          have hne2 : ne < 4294967296 := by omega
                          have m1 := u32_and_nat e0 f0 o5 o6
                          have m2 := u32_and_nat ne g0 hne2 o7
                          have m3 := u32_xor_nat (e0 &&& f0) (ne &&& g0) (and_lt32 o5) (and_lt32 hne2)
                          have m4 := u32_and_nat a0 b0 o1 o2
                          have m5 := u32_and_nat a0 c0 o1 o3
                          have m6 := u32_xor_nat (a0 &&& b0) (a0 &&& c0) (and_lt32 o1) (and_lt32 o1)
                          have m7 := u32_and_nat b0 c0 o2 o3
                          have m8 := u32_xor_nat ((a0 &&& b0) ^^^ (a0 &&& c0)) (b0 &&& c0) (xor_lt32 (and_lt32 o1) (and_lt32 o1)) (and_lt32 o2)
                          unfold S8.step tOf uOf turnN at HS
                          simp only at HS
                          rw [← hne, Nat.and_comm g0 ne] at HS
                          have r6 : rotN e0 6 < 4294967296 := rotN_lt o5
                          have r11 : rotN e0 11 < 4294967296 := rotN_lt o5
                          have r25 : rotN e0 25 < 4294967296 := rotN_lt o5
                          have r2 : rotN a0 2 < 4294967296 := rotN_lt o1
                          have r13 : rotN a0 13 < 4294967296 := rotN_lt o1
                          have r22 : rotN a0 22 < 4294967296 := rotN_lt o1
                          generalize rotN e0 6 = y6 at *
                          generalize rotN e0 11 = y11 at *
                          generalize rotN e0 25 = y25 at *
                          generalize rotN a0 2 = y2 at *
                          generalize rotN a0 13 = y13 at *
                          generalize rotN a0 22 = y22 at *
                          have p1 := u32_xor_nat y6 y11 r6 r11
                          have p2 := u32_xor_nat (y6 ^^^ y11) y25 (xor_lt32 r6 r11) r25
                          have p3 := u32_xor_nat y2 y13 r2 r13
                          have p4 := u32_xor_nat (y2 ^^^ y13) y22 (xor_lt32 r2 r13) r22
                          clear hne hne2 o1 o2 o3 o4 o5 o6 o7 o8 HO r6 r11 r25 r2 r13 r22
                          generalize e0 &&& f0 = x1 at *
                          generalize ne &&& g0 = x2 at *
                          generalize x1 ^^^ x2 = x3 at *
                          generalize a0 &&& b0 = w1' at *
                          generalize a0 &&& c0 = w2' at *
                          generalize w1' ^^^ w2' = w3' at *
                          generalize b0 &&& c0 = w4' at *
                          generalize w3' ^^^ w4' = w5' at *
                          generalize y6 ^^^ y11 = z1 at *
                          generalize z1 ^^^ y25 = z2 at *
                          generalize y2 ^^^ y13 = z3 at *
                          generalize z3 ^^^ y22 = z4 at *
                          generalize kL.getD k 0 = kk at *
                          have n1 : IntKind.u32.wrap ((h0 : Int) + (z2 : Int)) = (ad h0 z2 : Nat) := by rw [IntKind.wrap_u32']; exact ad_int _ _
                          have n2 : IntKind.u32.wrap ((ad h0 z2 : Nat) + (x3 : Int)) = (ad (ad h0 z2) x3 : Nat) := by rw [IntKind.wrap_u32']; exact ad_int _ _
                          have n3 : IntKind.u32.wrap ((ad (ad h0 z2) x3 : Nat) + (kk : Int)) = (ad (ad (ad h0 z2) x3) kk : Nat) := by rw [IntKind.wrap_u32']; exact ad_int _ _
                          have n4 : IntKind.u32.wrap ((ad (ad (ad h0 z2) x3) kk : Nat) + (wk : Int)) = (ad (ad (ad (ad h0 z2) x3) kk) wk : Nat) := by rw [IntKind.wrap_u32']; exact ad_int _ _
                          have n5 : IntKind.u32.wrap ((z4 : Int) + (w5' : Int)) = (ad z4 w5' : Nat) := by rw [IntKind.wrap_u32']; exact ad_int _ _
                          generalize ad h0 z2 = q1 at *
                          generalize ad q1 x3 = q2 at *
                          generalize ad q2 kk = q3 at *
                          generalize ad q3 wk = tt at *
                          generalize ad z4 w5' = uu at *
                          have n6 : IntKind.u32.wrap ((d0 : Int) + (tt : Int)) = (ad d0 tt : Nat) := by rw [IntKind.wrap_u32']; exact ad_int _ _
                          have n7 : IntKind.u32.wrap ((tt : Int) + (uu : Int)) = (ad tt uu : Nat) := by rw [IntKind.wrap_u32']; exact ad_int _ _
                          generalize ad d0 tt = dt at *
                          generalize ad tt uu = tu at *
                          go_wp2_with fail
                          go_quiet (fail)
                          go_wp2_with fail
                          have HV1 := hide (HV.out.frm ((Frm.refl (fun _ => False) wr).drewN nq))
                          have HC1 : Hid ((wr.drewN nq).cell? ⟨gw, k, none⟩ = some (.int .u32 (wk : Nat))) := hcw
                          clear v0 v1 v2 v3 v4 v5 v6 v7 hcw HV
                          generalize wr.drewN nq = W1 at *
                          have va0 := HV1.out.vc 0 (by omega)
                          have va1 := HV1.out.vc 1 (by omega)
                          have va2 := HV1.out.vc 2 (by omega)
                          have va3 := HV1.out.vc 3 (by omega)
                          have va4 := HV1.out.vc 4 (by omega)
                          have va5 := HV1.out.vc 5 (by omega)
                          have va6 := HV1.out.vc 6 (by omega)
                          have va7 := HV1.out.vc 7 (by omega)
                          simp only [S8.list, List.getD_cons_zero, List.getD_cons_succ] at va0 va1 va2 va3 va4 va5 va6 va7
                          have HS0 := hide (show W1.cell? ⟨gv, 4, none⟩ = some (.int .u32 (e0 : Nat)) ∧ W1.cell? ⟨gv, 7, none⟩ = some (.int .u32 (h0 : Nat)) ∧ W1.cell? ⟨gw, k, none⟩ = some (.int .u32 (wk : Nat)) from ⟨va4, va7, HC1.out⟩)
                          clear va0 va1 va2 va3 va4 va5 va6 va7 HC1
                          refine wp_region_held_drew (S := fun W => W.cell? ⟨gv, 4, none⟩ = some (.int .u32 (e0 : Nat)) ∧ W.cell? ⟨gv, 7, none⟩ = some (.int .u32 (h0 : Nat)) ∧ W.cell? ⟨gw, k, none⟩ = some (.int .u32 (wk : Nat))) (by kernel_rfl) (HS0.out) ?_
                          intro hHeld
                          refine tkH 0 (v := ?v28) rfl ?hy28 ?rest28
                          case hy28 => (intro w hSw; (try dsimp only at hSw); go_simp; try with_reducible rfl)
                          try simp only [Act.put, PTs]
                          refine tkH 1 (v := ?v29) rfl ?hy29 ?rest29
                          case hy29 => (intro w hSw; (try dsimp only at hSw); go_simp; try with_reducible rfl)
                          try simp only [Act.put, PTs]
                          refine tkH 2 (v := ?v30) rfl ?hy30 ?rest30
                          case hy30 => (intro w hSw; (try dsimp only at hSw); go_simp; try with_reducible rfl)
                          try simp only [Act.put, PTs]
                          refine tkH 3 (v := ?v31) rfl ?hy31 ?rest31
                          case hy31 => (intro w hSw; (try dsimp only at hSw); go_simp; try with_reducible rfl)
                          try simp only [Act.put, PTs]
                          refine tkH 4 (v := ?v32) rfl ?hy32 ?rest32
                          case hy32 => (intro w hSw; (try dsimp only at hSw); go_simp; try with_reducible rfl)
                          try simp only [Act.put, PTs]
                          refine tkH 5 (v := ?v33) rfl ?hy33 ?rest33
                          case hy33 => (intro w hSw; (try dsimp only at hSw); go_simp; try with_reducible rfl)
                          try simp only [Act.put, PTs]
                          refine tkH 7 (v := ?v34) rfl ?hy34 ?rest34
                          case hy34 => (intro w hSw; (try dsimp only at hSw); go_simp; try with_reducible rfl)
                          try simp only [Act.put, PTs]
                          refine tkH 8 (v := ?v35) rfl ?hy35 ?rest35
                          case hy35 => (intro w hSw; (try dsimp only at hSw); go_simp; try with_reducible rfl)
                          try simp only [Act.put, PTs]
                          refine tkH 9 (v := ?v36) rfl ?hy36 ?rest36
                          case hy36 => (intro w hSw; (try dsimp only at hSw); go_simp; try with_reducible rfl)
                          try simp only [Act.put, PTs]
                          refine tkH 12 (v := ?v37) rfl ?hy37 ?rest37
                          case hy37 => (intro w hSw; (try dsimp only at hSw); go_simp; try with_reducible rfl)
                          try simp only [Act.put, PTs]
                          refine tkH 13 (v := ?v38) rfl ?hy38 ?rest38
                          case hy38 => (intro w hSw; (try dsimp only at hSw); go_simp; try with_reducible rfl)
                          try simp only [Act.put, PTs]
                          refine tkH 14 (v := ?v39) rfl ?hy39 ?rest39
                          case hy39 => (intro w hSw; (try dsimp only at hSw); go_simp; try with_reducible rfl)
                          try simp only [Act.put, PTs]
                          refine tkH 18 (v := ?v40) rfl ?hy40 ?rest40
                          case hy40 => (intro w hSw; (try dsimp only at hSw); go_simp; try with_reducible rfl)
                          try simp only [Act.put, PTs]
                          refine tkH 20 (v := ?v41) rfl ?hy41 ?rest41
                          case hy41 => (intro w hSw; (try dsimp only at hSw); go_simp; try with_reducible rfl)
                          try simp only [Act.put, PTs]
                          refine tkH 23 (v := ?v42) rfl ?hy42 ?rest42
                          case hy42 => (intro w hSw; (try dsimp only at hSw); go_simp; try with_reducible rfl)
                          try simp only [Act.put, PTs]
                          refine tkH 24 (v := ?v43) rfl ?hy43 ?rest43
                          case hy43 => (intro w hSw; (try dsimp only at hSw); go_simp; try with_reducible rfl)
                          try simp only [Act.put, PTs]
                          refine tkH 25 (v := ?v44) rfl ?hy44 ?rest44
                          case hy44 => (intro w hSw; (try dsimp only at hSw); go_simp; try with_reducible rfl)
                          try simp only [Act.put, PTs]
                          refine tkH 26 (v := ?v45) rfl ?hy45 ?rest45
                          case hy45 => (intro w hSw; (try dsimp only at hSw); go_simp; try with_reducible rfl)
                          try simp only [Act.put, PTs]
                          refine rdH 6 rfl (by kernel_rfl) (fun K hK => ?_)
                          go_simp
                          refine (C6.out _).mono ?_
                          rintro e w4 ⟨rfl, qw4, rfl⟩
                          refine hK.out _ _ (HS0.out) (fun hHeld => ?_)
                          clear hK K
                          refine rdH 10 rfl (by kernel_rfl) (fun K hK => ?_)
                          go_simp
                          refine (C11.out _).mono ?_
                          rintro e w5 ⟨rfl, qw5, rfl⟩
                          refine hK.out _ _ (HS0.out) (fun hHeld => ?_)
                          clear hK K
                          refine tkH 11 (v := ?v46) rfl ?hy46 ?rest46
                          case hy46 => (intro w hSw; (try dsimp only at hSw); go_simp; try with_reducible rfl)
                          try simp only [Act.put, PTs]
                          refine rdH 15 rfl (by kernel_rfl) (fun K hK => ?_)
                          go_simp
                          refine (C25.out _).mono ?_
                          rintro e w6 ⟨rfl, qw6, rfl⟩
                          refine hK.out _ _ (HS0.out) (fun hHeld => ?_)
                          clear hK K
                          refine tkH 16 (v := ?v47) rfl ?hy47 ?rest47
                          case hy47 => (intro w hSw; (try dsimp only at hSw); go_simp; try with_reducible rfl)
                          try simp only [Act.put, PTs]
                          refine tkH 17 (v := ?v48) rfl ?hy48 ?rest48
                          case hy48 => (intro w hSw; (try dsimp only at hSw); go_simp; try with_reducible rfl)
                          try simp only [Act.put, PTs]
                          refine tkH 19 (v := ?v49) rfl ?hy49 ?rest49
                          case hy49 => (intro w hSw; (try dsimp only at hSw); go_simp; try with_reducible rfl)
                          try simp only [Act.put, PTs]
                          refine rdH 21 rfl (by kernel_rfl) (fun K hK => ?_)
                          go_simp
                          refine (HK.out _).mono ?_
                          rintro e w7 ⟨rfl, hb7⟩
                          have F7 : Frm (fun _ => False) (W1.drewN (1 + qw4 + qw5 + qw6)) w7 := Frm.of_below hb7
                          have HS7 : Hid (w7.cell? ⟨gv, 4, none⟩ = some (.int .u32 (e0 : Nat)) ∧ w7.cell? ⟨gv, 7, none⟩ = some (.int .u32 (h0 : Nat)) ∧ w7.cell? ⟨gw, k, none⟩ = some (.int .u32 (wk : Nat))) := ⟨cell_frm F7 HS0.out.1 (fun h => h), cell_frm F7 HS0.out.2.1 (fun h => h), cell_frm F7 HS0.out.2.2 (fun h => h)⟩
                          clear hb7
                          refine hK.out _ _ (HS7.out) (fun hHeld => ?_)
                          clear hK K
                          refine tkH 22 (v := ?v50) rfl ?hy50 ?rest50
                          case hy50 => (intro w hSw; (try dsimp only at hSw); go_simp; try with_reducible rfl)
                          try simp only [Act.put, PTs]
                          refine tkH 27 (v := ?v51) rfl ?hy51 ?rest51
                          case hy51 => (intro w hSw; (try dsimp only at hSw); go_simp; try with_reducible rfl)
                          try simp only [Act.put, PTs]
                          refine tkH 28 (v := ?v52) rfl ?hy52 ?rest52
                          case hy52 => (intro w hSw; (try dsimp only at hSw); go_simp; try with_reducible rfl)
                          try simp only [Act.put, PTs]
                          refine wpAnyH_done (by kernel_rfl) ?_ _
                          have HV7 := hide (HV1.out.frm (((Frm.refl (fun _ => False) W1).drewN (1 + qw4 + qw5 + qw6)).trans F7 (fun _ _ h => h)))
                          clear HV1 F7 HS0 hHeld
                          have vb0 := HV7.out.vc 0 (by omega)
                          have vb1 := HV7.out.vc 1 (by omega)
                          have vb2 := HV7.out.vc 2 (by omega)
                          have vb3 := HV7.out.vc 3 (by omega)
                          have vb4 := HV7.out.vc 4 (by omega)
                          have vb5 := HV7.out.vc 5 (by omega)
                          have vb6 := HV7.out.vc 6 (by omega)
                          have vb7 := HV7.out.vc 7 (by omega)
                          simp only [S8.list, List.getD_cons_zero, List.getD_cons_succ] at vb0 vb1 vb2 vb3 vb4 vb5 vb6 vb7
                          go_wp2_with fail
                          go_quiet (fail)
                          go_wp2_with fail
                          have HV8 := hide (HV7.out.frm ((Frm.refl (fun _ => False) w7).drewN nq))
                          clear vb0 vb1 vb2 vb3 vb4 vb5 vb6 vb7 HV7
                          generalize w7.drewN nq = W2 at *
                          have vc0 := HV8.out.vc 0 (by omega)
                          have vc1 := HV8.out.vc 1 (by omega)
                          have vc2 := HV8.out.vc 2 (by omega)
                          have vc3 := HV8.out.vc 3 (by omega)
                          have vc4 := HV8.out.vc 4 (by omega)
                          have vc5 := HV8.out.vc 5 (by omega)
                          have vc6 := HV8.out.vc 6 (by omega)
                          have vc7 := HV8.out.vc 7 (by omega)
                          simp only [S8.list, List.getD_cons_zero, List.getD_cons_succ] at vc0 vc1 vc2 vc3 vc4 vc5 vc6 vc7
                          go_quiet ((go_at_call 85; first | (with_reducible exact Calls.quiet_of (C2.out _)) | (with_reducible exact Calls.quiet_of (C13.out _)) | (with_reducible exact Calls.quiet_of (C22.out _))))
                          go_wp2_with fail
                          have HV9 := hide (HV8.out.frm ((Frm.refl (fun _ => False) W2).drewN nq))
                          clear vc0 vc1 vc2 vc3 vc4 vc5 vc6 vc7 HV8
                          generalize W2.drewN nq = W3 at *
                          have vd0 := HV9.out.vc 0 (by omega)
                          have vd1 := HV9.out.vc 1 (by omega)
                          have vd2 := HV9.out.vc 2 (by omega)
                          have vd3 := HV9.out.vc 3 (by omega)
                          have vd4 := HV9.out.vc 4 (by omega)
                          have vd5 := HV9.out.vc 5 (by omega)
                          have vd6 := HV9.out.vc 6 (by omega)
                          have vd7 := HV9.out.vc 7 (by omega)
                          simp only [S8.list, List.getD_cons_zero, List.getD_cons_succ] at vd0 vd1 vd2 vd3 vd4 vd5 vd6 vd7
                          go_still_tail 26, (by kernel_rfl)
                          change wpList _ _ _ _ _ W3.drew
                          have hFz : Frm (fun _ => False) W3 (W3.drew.alloc (.cells #[.int .u32 tu, .int .u32 a0, .int .u32 b0, .int .u32 c0, .int .u32 dt, .int .u32 e0, .int .u32 f0, .int .u32 g0] 28)) := ((Frm.refl _ W3).drew).trans (Frm.alloc _ _ _) (fun _ _ h => h)
                          have FIN : Hid (VInv w gh tl hl gw W W3.heap.size (rounds W (k + 1) s0).list (W3.drew.alloc (.cells #[.int .u32 tu, .int .u32 a0, .int .u32 b0, .int .u32 c0, .int .u32 dt, .int .u32 e0, .int .u32 f0, .int .u32 g0] 28))) := by
                            have h := HV9.out.frm hFz
                            refine ⟨h.o, h.wc, fun j hj => ?_, HV9.out.o.h.lt⟩
                            rw [HS.out]
                            have hb := (Blk.new W3.drew 28 (cellsW [tu, a0, b0, c0, dt, e0, f0, g0]).toArray).cell j
                            rw [List.getElem?_toArray, cellsW_at _ j (by show j < 8; exact hj)] at hb
                            exact hb
                          clear vd0 vd1 vd2 vd3 vd4 vd5 vd6 vd7 HV9 hFz
                          go_wp2
                          go_roundw
                          case rel => first | exact ⟨k + 1, _, 8, by omega, by go_num, rfl, FIN.out⟩ | ((repeat apply Exists.intro); exact ⟨⟨k + 1, _, 8, by omega, by go_num, rfl, FIN.out⟩, rfl⟩)
                          case measure => simp [intOf]; omega
                        · obtain rfl : k = 64 := by omega
                          have HVL : Hid ((rounds W 64 s0).list.length = 8) := rfl
                          have HVi := hide hi
                          clear hi HRO
                          generalize (rounds W 64 s0).list = vl at *
                          have Hpl : Hid ((plus hl vl).length = hl.length) := plus_length _ _ (by rw [HQl.out, HVL.out])
                          have HI7 : Hid (XInv w gh tl (mix (plus hl vl) hl 0) gv vl wr) := ⟨by rw [mix_zero]; exact HVi.out.o, HVi.out.vc⟩
                          have hgne := HVi.out.ne
                          clear HVi
                          go_wp2_with fail
                          go_loopw [18] (fun i wr => ∃ k : Nat, k ≤ 8 ∧ i = .int .i64 k ∧ XInv w gh tl (mix (plus hl vl) hl k) gv vl wr) (fun i _ => 8 - (intOf i).toNat)
                          case atStart => exact ⟨0, by omega, rfl, HI7.out⟩
                          case round =>
                            clear HI7
                            obtain ⟨k, hk8, rfl, hx⟩ := hrel
                            by_cases hlt7 : k < 8
                            · have hpl := Hpl.out
                              have hql := HQl.out
                              have hml : (mix (plus hl vl) hl k).length = 8 := by rw [mix_length _ _ _ hpl, hql]
                              have hc1 : wr.cell? ⟨gh, k, none⟩ = some (.int .u32 (hl.getD k 0 : Nat)) := by
                                rw [hx.o.h.cell, List.getElem?_toArray, List.getElem?_append_left (by rw [cellsW_length, hml]; exact hlt7), cellsW_get, mix_at _ _ _ hpl (by omega), ← cellsW_get, cellsW_at _ _ (by omega)]
                              have hc2 := hx.vc k hlt7
                              have hf1 := hx.o.h.frozen k
                              have hset := mix_set (plus hl vl) hl k _ hpl (by omega) (plus_at hl vl k (by omega) (by rw [HVL.out]; exact hlt7))
                              have FIN0 := hx.set k (ad (hl.getD k 0) (vl.getD k 0)) (by rw [hml]; exact hlt7) (by omega) hgh
                              rw [hset] at FIN0
                              have FIN := hide FIN0
                              generalize hl.getD k 0 = x at *
                              generalize vl.getD k 0 = y at *
                              have hadd : IntKind.u32.wrap ((x : Int) + (y : Int)) = (ad x y : Nat) := by rw [IntKind.wrap_u32']; exact ad_int _ _
                              clear FIN0 hset hml hql hpl
                              go_wp2_with fail
                              go_still_tail 12, (by kernel_rfl)
                              have hc1' : wr.drew.cell? ⟨gh, k, none⟩ = some (.int .u32 (x : Nat)) := hc1
                              have hf1' : wr.drew.frozen? ⟨gh, k, none⟩ = false := hf1
                              change wpList _ _ _ _ _ wr.drew
                              go_wp2
                              go_roundw
                              case rel => first | exact ⟨k + 1, by omega, by go_num, FIN.out⟩ | ((repeat apply Exists.intro); exact ⟨⟨k + 1, by omega, by go_num, FIN.out⟩, rfl⟩)
                              case measure => simp [intOf]; omega
                            · obtain rfl : k = 8 := by omega
                              have hxo := hx.o
                              rw [mix_all _ _ _ Hpl.out (by rw [HQl.out]; omega), ← HH.out] at hxo
                              have FIN := hide hxo
                              clear hxo hx
                              go_wp2_with fail
                              go_roundw
                              case rel => first | exact ⟨q + 1, a + 64, by have := Hq.out; omega, by rw [← HNP.out]; omega, by go_num, FIN.out⟩ | ((repeat apply Exists.intro); exact ⟨⟨q + 1, a + 64, by have := Hq.out; omega, by rw [← HNP.out]; omega, by go_num, FIN.out⟩, rfl⟩)
                              case measure => simp [intOf]; omega
            · obtain rfl : a = NP := by omega
              have hqe : q = P.length / 64 := by have := Hq.out; have := HNP.out; omega
              rw [← hqe] at HSH
              have HQl := hide (hqL_length P q)
              have HQw := hide (hqL_ws P q)
              generalize hqL P q = hl at *
              have HI8 := hide ho
              clear ho hqe
              go_wp2_with fail
              go_loopw [19, 20] (fun s i wr => ∃ k : Nat, k ≤ 8 ∧ i = .int .i64 k ∧ s = .string ⟨((hl.take k).flatMap (be 4)).toArray⟩ ∧ OInv w gh tl hl wr) (fun _ i _ => 8 - (intOf i).toNat)
              case atStart => exact ⟨0, by omega, rfl, rfl, HI8.out⟩
              case round =>
                clear HI8
                obtain ⟨k, hk8, rfl, rfl, ho⟩ := hrel
                by_cases hlt8 : k < 8
                · have hc1 : wr.cell? ⟨gh, k, none⟩ = some (.int .u32 (hl.getD k 0 : Nat)) := by
                    rw [ho.h.cell, List.getElem?_toArray, List.getElem?_append_left (by rw [cellsW_length, HQl.out]; exact hlt8), cellsW_at _ _ (by rw [HQl.out]; exact hlt8)]
                  have hxl := HQw.out.get k
                  have HT : Hid ((hl.take k).flatMap (be 4) ++ be 4 (hl.getD k 0) = (hl.take (k + 1)).flatMap (be 4)) := by
                    show _ = _
                    have h2 : hl[k]? = some (hl.getD k 0) := by rw [List.getD_eq_getElem?_getD, List.getElem?_eq_getElem (by rw [HQl.out]; exact hlt8)]; rfl
                    rw [List.take_add_one, h2, List.flatMap_append]
                    simp
                  have hbl4 : ((hl.take k).flatMap (be 4)).length ≤ 32 := by rw [flat4_length, List.length_take]; omega
                  generalize hl.getD k 0 = x at *
                  have hap : ((⟨((hl.take k).flatMap (be 4)).toArray⟩ : ByteArray) ++ ⟨(be 4 x).toArray⟩) = ⟨((hl.take (k + 1)).flatMap (be 4)).toArray⟩ := by rw [txt_append, HT.out]
                  have hs1 : (⟨((hl.take k).flatMap (be 4)).toArray⟩ : ByteArray).size ≤ 32 := by rw [size_mk]; exact hbl4
                  have hs2 : (⟨(be 4 x).toArray⟩ : ByteArray).size = 4 := by rw [size_mk, be_length]
                  generalize (⟨((hl.take k).flatMap (be 4)).toArray⟩ : ByteArray) = B0 at *
                  generalize hB1 : (⟨((hl.take (k + 1)).flatMap (be 4)).toArray⟩ : ByteArray) = B1 at *
                  have HB1 := hide hB1
                  clear hB1
                  have hx64 : x < 18446744073709551616 := by omega
                  have HX64 := hide hx64
                  have HO := hide ho
                  clear hx64 ho HT hbl4
                  go_wp2_with fail
                  refine (text_any x 4 wr (by omega) HX64.out).mono ?_
                  rintro e w3 ⟨rfl, hb3⟩
                  have FIN := hide (HO.out.frm (Frm.of_below (S := fun _ => False) hb3) (fun _ h => h.elim) (fun h => h))
                  go_wp2_with fail
                  go_roundw
                  case rel => first | exact ⟨k + 1, by omega, by go_num, by rw [HB1.out], FIN.out⟩ | ((repeat apply Exists.intro); exact ⟨⟨k + 1, by omega, by go_num, by rw [HB1.out], FIN.out⟩, rfl⟩)
                  case measure => simp [intOf]; omega
                · obtain rfl : k = 8 := by omega
                  have hall : hl.take 8 = hl := List.take_of_length_le (by rw [HQl.out]; exact Nat.le_refl _)
                  rw [hall, ← HSH.out]
                  have HB := hide ho.below
                  clear hall ho
                  go_wp2_with fail
                  go_ret
                  exact ⟨rfl, HB.out⟩
end Go.Proofs.YtoiiiflnnhkjbaaGreatDoor
