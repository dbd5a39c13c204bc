/-
  ReplayFloor's walk: whatever comes in, the law returns true, and what lay lies as it lay.
-/
import Derived.Test.YtdilfiojfjgejaaRpSt
import Derived.Test.YtdilfiojfjgejaaHp
namespace Go.Proofs.Ytdilfiojfjgejaa
set_option linter.unusedVariables false
set_option linter.unusedSimpArgs false
open Go.RowKit

theorem held_maxU {P : Program} {o : Oper} {a : Act} {w : World} (x y : Operand) (t t' : TypeId) (ho : o.op = .call { callee := .builtin .max, args := #[x, y], argTypes := #[t, t'] }) (κ : IntKind) (p q m : Int) (hx : a.eval x = .int κ p) (hy : a.eval y = .int κ q) (hm : m = if q > p then q else p) :
    (execOp a.eval o).run P w = .ok (.value (.int κ m)) w := by
  unfold execOp
  simp only [ho, resolve, invoke, builtin, Sem.run_bind, Sem.run_pure, Result.andThen_ok, List.map_toArray, List.map_cons, List.map_nil, hx, hy]
  subst hm
  rfl
theorem min_end {k len n : Nat} (h : ¬ k < Nat.min len n) (hl : k < len) : ¬ k < n := fun hn => h (Nat.lt_min.2 ⟨hl, hn⟩)
theorem T.ok.has_low {t : T} (h : t.ok) {e : Nat} {x : Tg} (he : e < t.floor) : t.has e x = false := by
  unfold T.has
  refine decide_eq_false fun hm => ?_
  have := (h.fit _ hm).1
  simp only at this
  omega
theorem T.ok.len_low {t : T} (h : t.ok) {e : Nat} (he : e < t.floor) : t.len e = 0 := by
  unfold T.len cnt
  rw [List.countP_eq_zero]
  intro s hs
  have := (h.fit s hs).1
  simp only [beq_iff_eq]
  omega
theorem why_low {t : T} {e : Nat} {x : Tg} (he : e < t.floor) : t.why e x = 11 := if_pos he
theorem add_low {t : T} {e : Nat} {x : Tg} (he : e < t.floor) : t.add e x = t := by
  unfold T.add
  rw [why_low he]
  rfl
theorem add_floor (t : T) (e : Nat) (x : Tg) : (t.add e x).floor = t.floor := by
  unfold T.add
  split <;> rfl
theorem addr_two (a : Addr) (i j : Nat) (hi : 0 < i) : (a.add i).add j = a.add (i + j) := by
  rw [add_q a i hi, add_q a (i + j) (by omega)]
  by_cases h : j = 0
  · subst h
    rw [addr_add0]
    rfl
  · rw [add_q _ j (by omega)]
    show Addr.mk _ _ _ = Addr.mk _ _ _
    rw [Nat.add_assoc]
/-- What of a step is read. -/
def StS (p : Addr) (k : Nat) (x : Stp) (W : World) : Prop :=
  W.cell? ⟨(p.add (k * 18)).block, (p.add (k * 18)).off + 1, none⟩ = some (.int .u32 (x.e : Int)) ∧ ∀ q u, (tgC x.x)[q]? = some u → W.cell? ((⟨(p.add (k * 18)).block, (p.add (k * 18)).off + 2, none⟩ : Addr).add q) = some u
theorem StS.of {p : Addr} {k : Nat} {x : Stp} {W : World} (h : ∀ q u, (stC x)[q]? = some u → W.cell? ((p.add (k * 18)).add q) = some u) : StS p k x W :=
  ⟨h 1 _ rfl, fun q u hq => by
    rw [← add_q _ 2 (by decide), addr_two _ _ _ (by decide)]
    refine h (2 + q) u ?_
    show (_ :: _ :: tgC x.x)[2 + q]? = _
    rw [Nat.add_comm 2 q]
    exact hq⟩

set_option maxHeartbeats 16000000 in
set_option maxRecDepth 100000 in
theorem floor_walk (m : Int) (A : Option Addr) (len cap : Nat) (l : List Stp) (E : Nat) (X : Tg) (w : World) (hm : -9223372036854775808 ≤ m ∧ m ≤ 9223372036854775807) (h : SRow w A len l) (hlc : len ≤ cap) (hcm : cap ≤ 9223372036854775807) (he : E < 4294967296) :
    Calls Try.prog 5 #[.int .i64 m, .slice A len cap, .int .u32 (E : Int), .agg (tgC X).toArray] w fun e w' => e = .returned (.bool true) ∧ Below w.heap.size w w' := by
  have H0 := hide h
  have HE := hide he
  have HM := hide hm.2
  clear h hm he
  go_enter Try.func5, Try.ntmps5
  go_wp2_with (first
    | (refine wpl_boxa (op := ⟨some 7, _, _, _, _, _⟩) rfl _ (.tmp 3) rfl (tgC X) rfl ?_; intro gx w0 hX hgx fx; have HX := hide hX; have HF := hide fx; have HGX : Hid (w.heap.size ≤ gx) := hgx; clear hX hgx fx)
    | (go_at_call 8; refine (shown_any _).mono ?_; rintro r w1 ⟨rfl, f1⟩; have HX1 := hide (HX.out.frm f1 (fun h => h)); have HB1 : Hid (Below w.heap.size w w1) := ((frm_ft HF.out f1).below (Nat.le_refl _) (fun _ h => h.elim)); clear f1 HX HF)
    | (go_at_call 9; refine (LT.new HB1.out m HM.out).mono ?_; rintro r w2 ⟨g, bs, bc, rfl, h2, f2, n1, n2, n3⟩; have HT0 := hide h2; have HNX : Hid (¬ Of g bs bc gx) := (fun h => by have := HX1.out.lt; unfold Of at h; omega); have HX2 := hide (HX1.out.frm f2 (fun h => h)); clear h2 f2 n1 n2 n3 HB1 HX1))
  go_loopw [11, 12, 13] (fun f i _ wr => ∃ (k : Nat) (t : T), k ≤ Nat.min len 200 ∧ f = .int .u32 (t.floor : Int) ∧ i = .int .i64 (k : Int) ∧ LT w wr g bs bc t ∧ Blk wr gx 30 (tgC X).toArray ∧ t.l.length ≤ k) (fun _ i _ _ => 200 - (intOf i).toNat)
  case atStart => exact ⟨0, _, by omega, rfl, rfl, HT0.out, HX2.out, Nat.le_refl _⟩
  case round =>
    clear HT0 HX2
    obtain ⟨k, t, hk, rfl, rfl, hT, hX, hL⟩ := hrel
    have HT := hide hT
    have HX := hide hX
    have HL := hide hL
    have hmn : Nat.min len 200 ≤ len := Nat.min_le_left _ _
    have hmx : Nat.min len 200 ≤ 200 := Nat.min_le_right _ _
    clear hT hX hL
    by_cases hkn : k < Nat.min len 200
    · have hkl : (k : Int) < (len : Int) := by omega
      have hk1 : (k : Int) < 200 := by omega
      obtain ⟨p, rfl, hx32, HAT⟩ := H0.out.at (show k < len by omega)
      obtain ⟨x, hx⟩ : ∃ x, x = at_ stK l k := ⟨_, rfl⟩
      rw [← hx] at hx32 HAT
      have hc0 : wr.cell? ((p.add (k * 18)).add 0) = some (.int .i64 x.k) := HAT wr HT.out.below 0 _ rfl
      rw [addr_add0] at hc0
      have HLD : Hid (∀ W, Below w.heap.size w W → StS p k x W) := fun W hW => StS.of (HAT W hW)
      have HX32 := hide hx32
      clear HAT hx hx32
      by_cases hkk : x.k ≤ 4
      · have HS : Hid (∀ W, Frm (fun _ => False) wr W → StS p k x W) := fun W f => HLD.out W (HT.out.frm0 f).below
        have HOK := hide (HT.out.at_.ok.add HX32.out x.x)
        obtain ⟨fl, hfl⟩ : ∃ n, n = (t.add x.e x.x).floor := ⟨_, rfl⟩
        have HFL := hide hfl.symm
        have HFG : Hid (t.floor ≤ fl) := by show _ ≤ _; rw [hfl, add_floor]; exact Nat.le_refl _
        have HLENN : Hid ((t.add x.e x.x).l.length ≤ k + 1) := Nat.le_trans (add_length _ _ _) (by have := HL.out; omega)
        clear hfl
        go_wp2_with fail
        refine wp_region_held_drew (S := StS p k x) (by kernel_rfl) (HS.out _ ((Frm.refl _ _).drew)) ?_
        intro hHeld
        obtain ⟨W0, hW0⟩ : ∃ W', W' = wr.drew := ⟨_, rfl⟩
        have fr0 : Frm (fun _ => False) wr W0 := by rw [hW0]; exact (Frm.refl _ _).drew
        have HT0 := hide (HT.out.frm0 fr0)
        have HX0 := hide (HX.out.frm fr0 (fun h => h))
        rw [← hW0] at hHeld ⊢
        clear hW0
        refine tkH 0 (v := ?v1) rfl ?hy1 ?rest1
        case hy1 => (intro w hSw; go_simp; try with_reducible rfl)
        try simp only [Act.put, List.getElem_toArray, List.getElem_cons_zero, List.getElem_cons_succ, List.setIfInBounds_toArray, List.set_cons_zero, List.set_cons_succ]
        refine tkH 1 (v := ?v2) rfl ?hy2 ?rest2
        case hy2 => (intro w hSw; go_simp; try with_reducible rfl)
        try simp only [Act.put, List.getElem_toArray, List.getElem_cons_zero, List.getElem_cons_succ, List.setIfInBounds_toArray, List.set_cons_zero, List.set_cons_succ]
        refine tkH 2 (v := ?v3) rfl ?hy3 ?rest3
        case hy3 => (intro w hSw; go_simp; try with_reducible rfl)
        try simp only [Act.put, List.getElem_toArray, List.getElem_cons_zero, List.getElem_cons_succ, List.setIfInBounds_toArray, List.set_cons_zero, List.set_cons_succ]
        refine tkH 3 (v := ?v4) rfl ?hy4 ?rest4
        case hy4 => (intro w hSw; go_simp; try with_reducible rfl)
        try simp only [Act.put, List.getElem_toArray, List.getElem_cons_zero, List.getElem_cons_succ, List.setIfInBounds_toArray, List.set_cons_zero, List.set_cons_succ]
        refine tkH 4 (v := ?v5) rfl ?hy5 ?rest5
        case hy5 => (intro w hSw; go_simp; try with_reducible rfl)
        try simp only [Act.put, List.getElem_toArray, List.getElem_cons_zero, List.getElem_cons_succ, List.setIfInBounds_toArray, List.set_cons_zero, List.set_cons_succ]
        refine tkH 5 (v := ?v6) rfl ?hy6 ?rest6
        case hy6 => (intro w hSw; have hSa := hSw.1; go_simp; try with_reducible rfl)
        try simp only [Act.put, List.getElem_toArray, List.getElem_cons_zero, List.getElem_cons_succ, List.setIfInBounds_toArray, List.set_cons_zero, List.set_cons_succ]
        refine tkH 6 (v := ?v7) rfl ?hy7 ?rest7
        case hy7 => (intro w hSw; go_simp; try with_reducible rfl)
        try simp only [Act.put, List.getElem_toArray, List.getElem_cons_zero, List.getElem_cons_succ, List.setIfInBounds_toArray, List.set_cons_zero, List.set_cons_succ]
        refine tkH 7 (v := ?v8) rfl ?hy8 ?rest8
        case hy8 => (intro w hSw; go_simp; try with_reducible rfl)
        try simp only [Act.put, List.getElem_toArray, List.getElem_cons_zero, List.getElem_cons_succ, List.setIfInBounds_toArray, List.set_cons_zero, List.set_cons_succ]
        refine tkH 8 (v := ?v9) rfl ?hy9 ?rest9
        case hy9 => (intro w hSw; go_simp; try with_reducible rfl)
        try simp only [Act.put, List.getElem_toArray, List.getElem_cons_zero, List.getElem_cons_succ, List.setIfInBounds_toArray, List.set_cons_zero, List.set_cons_succ]
        refine tkH 9 (v := ?v10) rfl ?hy10 ?rest10
        case hy10 => (intro w hSw; go_simp; try with_reducible rfl)
        try simp only [Act.put, List.getElem_toArray, List.getElem_cons_zero, List.getElem_cons_succ, List.setIfInBounds_toArray, List.set_cons_zero, List.set_cons_succ]
        refine tkH 10 (v := .agg (tgC x.x).toArray) rfl ?hy11 ?rest11
        case hy11 => (intro w hSw; refine held_loadc aggX (.tmp 44) ?_ ⟨(p.add (k * 18)).block, (p.add (k * 18)).off + 2, none⟩ ?_ (tgC x.x) (tgC_length x.x) hSw.2 <;> rfl)
        try simp only [Act.put, List.getElem_toArray, List.getElem_cons_zero, List.getElem_cons_succ, List.setIfInBounds_toArray, List.set_cons_zero, List.set_cons_succ]
        refine rdH 11 rfl (by kernel_rfl) (fun K hK => ?_)
        go_simp
        refine (HT0.out.add x.e x.x HX32.out).mono ?_
        rintro r W1 ⟨rfl, h1, f1⟩
        have HT1 := hide h1
        have HX1 := hide (HX0.out.frm f1 HNX.out)
        have hSS := HLD.out W1 h1.below
        clear h1 f1 HT0 HX0
        refine hK.out _ _ (hSS) (fun hHeld => ?_)
        clear hK K
        refine wpAnyH_done (by kernel_rfl) ?_ _
        clear hHeld
        have hfl0 : ¬ (fl : Int) < (t.floor : Int) := by have := HFG.out; omega
        by_cases hEf : E < fl
        · have hEi : (E : Int) < (fl : Int) := by omega
          have HHA : Hid ((t.add x.e x.x).has E X = false) := by have := HOK.out.has_low (x := X) (show E < ((t.add x.e x.x)).floor by rw [HFL.out]; exact hEf); exact this
          have HLA : Hid ((t.add x.e x.x).len E = 0) := by have := HOK.out.len_low (show E < ((t.add x.e x.x)).floor by rw [HFL.out]; exact hEf); exact this
          have HWY : Hid ((t.add x.e x.x).why E X = 11) := why_low (x := X) (show E < ((t.add x.e x.x)).floor by rw [HFL.out]; exact hEf)
          have HAD : Hid ((t.add x.e x.x).add E X = (t.add x.e x.x)) := add_low (x := X) (show E < ((t.add x.e x.x)).floor by rw [HFL.out]; exact hEf)
          go_wp2_with (first
            | (go_at_call 19; refine (HT1.out.floor).mono ?_; rintro r w7 ⟨rfl, hw⟩; rw [hw, HFL.out]; clear hw)
            | (with_reducible refine wpl_held (op := ⟨some 90, _, _, _, _, _⟩) (.agg (tgC X).toArray) (held_loada aggX (.tmp 7) rfl gx 0 rfl _ _ (tgC X) HX1.out (tag_whole X) (tag_room X)) rfl ?_)
            | (go_at_call 15; refine (HT1.out.has E X HE.out).mono ?_; rintro r w8 ⟨rfl, h8, f8⟩; rw [HHA.out]; have HT8 := hide h8; have HX8 := hide (HX1.out.frm f8 (fun h => h)); clear h8 f8 HT1 HX1)
            | (go_at_call 17; refine (HT8.out.len E HE.out).mono ?_; rintro r w9 ⟨rfl, hw⟩; rw [hw, HLA.out]; clear hw)
            | (with_reducible refine wpl_held (op := ⟨some 101, _, _, _, _, _⟩) (.agg (tgC X).toArray) (held_loada aggX (.tmp 7) rfl gx 0 rfl _ _ (tgC X) HX8.out (tag_whole X) (tag_room X)) rfl ?_)
            | (go_at_call 11; refine (HT8.out.add E X HE.out).mono ?_; rintro r w10 ⟨rfl, h10, f10⟩; rw [HWY.out]; rw [HAD.out] at h10; have HT10 := hide h10; have HX10 := hide (HX8.out.frm f10 HNX.out); clear h10 f10 HT8 HX8))
          go_roundw
          case rel => exact ⟨k + 1, (t.add x.e x.x), by omega, by rw [HFL.out], by go_num, HT10.out, HX10.out, HLENN.out⟩
          case measure => simp [intOf]; omega
        · have hEi : ¬ (E : Int) < (fl : Int) := by omega
          go_wp2_with (first
            | (go_at_call 19; refine (HT1.out.floor).mono ?_; rintro r w7 ⟨rfl, hw⟩; rw [hw, HFL.out]; clear hw))
          go_roundw
          case rel => exact ⟨k + 1, (t.add x.e x.x), by omega, by rw [HFL.out], by go_num, HT1.out, HX1.out, HLENN.out⟩
          case measure => simp [intOf]; omega
      · have hkk' : (4 : Int) < x.k := by omega
        have hLL := HL.out
        have HLEN : Hid (t.l.length ≤ 1000000) := by show _ ≤ _; omega
        have HLENN : Hid ((t.exp x.e).l.length ≤ k + 1) := Nat.le_trans (exp_length _ _) (by omega)
        have HLEN1 : Hid ((t.exp x.e).l.length ≤ 1000000) := Nat.le_trans (exp_length _ _) (by omega)
        have HOK := hide (HT.out.at_.ok.exp HX32.out)
        have hlow := HOK.out.exp_low (b := x.e) (Nat.le_max_right _ _)
        have HT2E := hide hlow.1
        have HG0 := hide hlow.2
        obtain ⟨fl, hfl⟩ : ∃ n, n = (t.exp x.e).floor := ⟨_, rfl⟩
        have HFL := hide hfl.symm
        have hfm : fl = max t.floor x.e := hfl
        have HFG : Hid (t.floor ≤ fl) := by show _ ≤ _; omega
        have HMX : Hid ((fl : Int) = if (x.e : Int) > (t.floor : Int) then (x.e : Int) else (t.floor : Int)) := by show _ = _; split <;> omega
        obtain ⟨gn, hgn⟩ : ∃ n, n = t.gone x.e := ⟨_, rfl⟩
        have HGE := hide hgn.symm
        have HGN : Hid (decide ((gn : Int) < 0) = false) := decide_eq_false (by omega)
        have hSt := HLD.out wr HT.out.below
        have hc1 := hSt.1
        clear hlow hfl hfm hgn hLL hSt
        go_wp2_with (go_at_call 13; refine (HT.out.exp x.e HX32.out HLEN.out).mono ?_; rintro r w1 ⟨rfl, h1, f1⟩; rw [HGE.out]; have HT1 := hide h1; have HX1 := hide (HX.out.frm f1 HNX.out); clear h1 f1 HT HX hc0 hc1)
        refine wp_region_held_drew (S := StS p k x) (by kernel_rfl) (HLD.out _ (HT1.out.frm0 ((Frm.refl _ _).drew)).below) ?_
        intro hHeld
        obtain ⟨W0, hW0⟩ : ∃ W', W' = w1.drew := ⟨_, rfl⟩
        have fr0 : Frm (fun _ => False) w1 W0 := by rw [hW0]; exact (Frm.refl _ _).drew
        have HT2 := hide (HT1.out.frm0 fr0)
        have HX2 := hide (HX1.out.frm fr0 (fun h => h))
        clear HT1 HX1
        rw [← hW0] at hHeld ⊢
        clear hW0
        refine tkH 0 (v := ?v12) rfl ?hy12 ?rest12
        case hy12 => (intro w hSw; go_simp; try with_reducible rfl)
        try simp only [Act.put, List.getElem_toArray, List.getElem_cons_zero, List.getElem_cons_succ, List.setIfInBounds_toArray, List.set_cons_zero, List.set_cons_succ]
        refine tkH 1 (v := .bool false) rfl ?hy13 ?rest13
        case hy13 => (intro w hSw; go_simp)
        try simp only [Act.put, List.getElem_toArray, List.getElem_cons_zero, List.getElem_cons_succ, List.setIfInBounds_toArray, List.set_cons_zero, List.set_cons_succ]
        refine tkH 2 (v := ?v14) rfl ?hy14 ?rest14
        case hy14 => (intro w hSw; go_simp; try with_reducible rfl)
        try simp only [Act.put, List.getElem_toArray, List.getElem_cons_zero, List.getElem_cons_succ, List.setIfInBounds_toArray, List.set_cons_zero, List.set_cons_succ]
        refine tkH 3 (v := ?v15) rfl ?hy15 ?rest15
        case hy15 => (intro w hSw; go_simp; try with_reducible rfl)
        try simp only [Act.put, List.getElem_toArray, List.getElem_cons_zero, List.getElem_cons_succ, List.setIfInBounds_toArray, List.set_cons_zero, List.set_cons_succ]
        refine tkH 5 (v := ?v16) rfl ?hy16 ?rest16
        case hy16 => (intro w hSw; go_simp; try with_reducible rfl)
        try simp only [Act.put, List.getElem_toArray, List.getElem_cons_zero, List.getElem_cons_succ, List.setIfInBounds_toArray, List.set_cons_zero, List.set_cons_succ]
        refine tkH 6 (v := ?v17) rfl ?hy17 ?rest17
        case hy17 => (intro w hSw; go_simp; try with_reducible rfl)
        try simp only [Act.put, List.getElem_toArray, List.getElem_cons_zero, List.getElem_cons_succ, List.setIfInBounds_toArray, List.set_cons_zero, List.set_cons_succ]
        refine tkH 7 (v := ?v18) rfl ?hy18 ?rest18
        case hy18 => (intro w hSw; go_simp; try with_reducible rfl)
        try simp only [Act.put, List.getElem_toArray, List.getElem_cons_zero, List.getElem_cons_succ, List.setIfInBounds_toArray, List.set_cons_zero, List.set_cons_succ]
        refine tkH 8 (v := ?v19) rfl ?hy19 ?rest19
        case hy19 => (intro w hSw; go_simp; try with_reducible rfl)
        try simp only [Act.put, List.getElem_toArray, List.getElem_cons_zero, List.getElem_cons_succ, List.setIfInBounds_toArray, List.set_cons_zero, List.set_cons_succ]
        refine tkH 9 (v := ?v20) rfl ?hy20 ?rest20
        case hy20 => (intro w hSw; go_simp; try with_reducible rfl)
        try simp only [Act.put, List.getElem_toArray, List.getElem_cons_zero, List.getElem_cons_succ, List.setIfInBounds_toArray, List.set_cons_zero, List.set_cons_succ]
        refine tkH 10 (v := ?v21) rfl ?hy21 ?rest21
        case hy21 => (intro w hSw; have hSa := hSw.1; go_simp; try with_reducible rfl)
        try simp only [Act.put, List.getElem_toArray, List.getElem_cons_zero, List.getElem_cons_succ, List.setIfInBounds_toArray, List.set_cons_zero, List.set_cons_succ]
        refine tkH 11 (v := .int .u32 (fl : Int)) rfl ?hy22 ?rest22
        case hy22 => (intro w hSw; refine held_maxU (.tmp 59) (.tmp 64) 28 28 ?_ .u32 (t.floor : Int) (x.e : Int) (fl : Int) ?_ ?_ HMX.out <;> rfl)
        try simp only [Act.put, List.getElem_toArray, List.getElem_cons_zero, List.getElem_cons_succ, List.setIfInBounds_toArray, List.set_cons_zero, List.set_cons_succ]
        refine rdH 4 rfl (by kernel_rfl) (fun K hK => ?_)
        go_simp
        refine (HT2.out.floor).mono ?_
        rintro r W1 ⟨rfl, hw⟩
        rw [hw, HFL.out]
        clear hw
        refine hK.out _ _ (HLD.out _ HT2.out.below) (fun hHeld => ?_)
        clear hK K
        refine tkH 12 (v := ?v23) rfl ?hy23 ?rest23
        case hy23 => (intro w hSw; go_simp; try with_reducible rfl)
        try simp only [Act.put, List.getElem_toArray, List.getElem_cons_zero, List.getElem_cons_succ, List.setIfInBounds_toArray, List.set_cons_zero, List.set_cons_succ]
        refine tkH 13 (v := ?v24) rfl ?hy24 ?rest24
        case hy24 => (intro w hSw; go_simp; try with_reducible rfl)
        try simp only [Act.put, List.getElem_toArray, List.getElem_cons_zero, List.getElem_cons_succ, List.setIfInBounds_toArray, List.set_cons_zero, List.set_cons_succ]
        refine tkH 14 (v := ?v25) rfl ?hy25 ?rest25
        case hy25 => (intro w hSw; go_simp; try with_reducible rfl)
        try simp only [Act.put, List.getElem_toArray, List.getElem_cons_zero, List.getElem_cons_succ, List.setIfInBounds_toArray, List.set_cons_zero, List.set_cons_succ]
        refine tkH 15 (v := ?v26) rfl ?hy26 ?rest26
        case hy26 => (intro w hSw; go_simp; try with_reducible rfl)
        try simp only [Act.put, List.getElem_toArray, List.getElem_cons_zero, List.getElem_cons_succ, List.setIfInBounds_toArray, List.set_cons_zero, List.set_cons_succ]
        refine tkH 16 (v := ?v27) rfl ?hy27 ?rest27
        case hy27 => (intro w hSw; go_simp; try with_reducible rfl)
        try simp only [Act.put, List.getElem_toArray, List.getElem_cons_zero, List.getElem_cons_succ, List.setIfInBounds_toArray, List.set_cons_zero, List.set_cons_succ]
        refine tkH 17 (v := ?v28) rfl ?hy28 ?rest28
        case hy28 => (intro w hSw; go_simp; try with_reducible rfl)
        try simp only [Act.put, List.getElem_toArray, List.getElem_cons_zero, List.getElem_cons_succ, List.setIfInBounds_toArray, List.set_cons_zero, List.set_cons_succ]
        refine tkH 18 (v := ?v29) rfl ?hy29 ?rest29
        case hy29 => (intro w hSw; go_simp; try with_reducible rfl)
        try simp only [Act.put, List.getElem_toArray, List.getElem_cons_zero, List.getElem_cons_succ, List.setIfInBounds_toArray, List.set_cons_zero, List.set_cons_succ]
        refine tkH 19 (v := ?v30) rfl ?hy30 ?rest30
        case hy30 => (intro w hSw; go_simp; try with_reducible rfl)
        try simp only [Act.put, List.getElem_toArray, List.getElem_cons_zero, List.getElem_cons_succ, List.setIfInBounds_toArray, List.set_cons_zero, List.set_cons_succ]
        refine tkH 20 (v := ?v31) rfl ?hy31 ?rest31
        case hy31 => (intro w hSw; have hSa := hSw.1; go_simp; try with_reducible rfl)
        try simp only [Act.put, List.getElem_toArray, List.getElem_cons_zero, List.getElem_cons_succ, List.setIfInBounds_toArray, List.set_cons_zero, List.set_cons_succ]
        refine rdH 21 rfl (by kernel_rfl) (fun K hK => ?_)
        go_simp
        refine (HT2.out.exp x.e HX32.out HLEN1.out).mono ?_
        rintro r W3 ⟨rfl, h3, f3⟩
        rw [HG0.out]
        rw [HT2E.out] at h3
        have HT3 := hide h3
        have HX3 := hide (HX2.out.frm f3 HNX.out)
        have hSS := HLD.out W3 h3.below
        clear h3 f3 HT2 HX2
        refine hK.out _ _ (hSS) (fun hHeld => ?_)
        clear hK K
        refine tkH 22 (v := ?v32) rfl ?hy32 ?rest32
        case hy32 => (intro w hSw; go_simp; try with_reducible rfl)
        try simp only [Act.put, List.getElem_toArray, List.getElem_cons_zero, List.getElem_cons_succ, List.setIfInBounds_toArray, List.set_cons_zero, List.set_cons_succ]
        refine tkH 23 (v := ?v33) rfl ?hy33 ?rest33
        case hy33 => (intro w hSw; go_simp; try with_reducible rfl)
        try simp only [Act.put, List.getElem_toArray, List.getElem_cons_zero, List.getElem_cons_succ, List.setIfInBounds_toArray, List.set_cons_zero, List.set_cons_succ]
        refine wpAnyH_done (by kernel_rfl) ?_ _
        clear hHeld
        have hfl0 : ¬ (fl : Int) < (t.floor : Int) := by have := HFG.out; omega
        by_cases hEf : E < fl
        · have hEi : (E : Int) < (fl : Int) := by omega
          have HHA : Hid ((t.exp x.e).has E X = false) := by have := HOK.out.has_low (x := X) (show E < ((t.exp x.e)).floor by rw [HFL.out]; exact hEf); exact this
          have HLA : Hid ((t.exp x.e).len E = 0) := by have := HOK.out.len_low (show E < ((t.exp x.e)).floor by rw [HFL.out]; exact hEf); exact this
          have HWY : Hid ((t.exp x.e).why E X = 11) := why_low (x := X) (show E < ((t.exp x.e)).floor by rw [HFL.out]; exact hEf)
          have HAD : Hid ((t.exp x.e).add E X = (t.exp x.e)) := add_low (x := X) (show E < ((t.exp x.e)).floor by rw [HFL.out]; exact hEf)
          go_wp2_with (first
            | (go_at_call 19; refine (HT3.out.floor).mono ?_; rintro r w7 ⟨rfl, hw⟩; rw [hw, HFL.out]; clear hw)
            | (with_reducible refine wpl_held (op := ⟨some 90, _, _, _, _, _⟩) (.agg (tgC X).toArray) (held_loada aggX (.tmp 7) rfl gx 0 rfl _ _ (tgC X) HX3.out (tag_whole X) (tag_room X)) rfl ?_)
            | (go_at_call 15; refine (HT3.out.has E X HE.out).mono ?_; rintro r w8 ⟨rfl, h8, f8⟩; rw [HHA.out]; have HT8 := hide h8; have HX8 := hide (HX3.out.frm f8 (fun h => h)); clear h8 f8 HT3 HX3)
            | (go_at_call 17; refine (HT8.out.len E HE.out).mono ?_; rintro r w9 ⟨rfl, hw⟩; rw [hw, HLA.out]; clear hw)
            | (with_reducible refine wpl_held (op := ⟨some 101, _, _, _, _, _⟩) (.agg (tgC X).toArray) (held_loada aggX (.tmp 7) rfl gx 0 rfl _ _ (tgC X) HX8.out (tag_whole X) (tag_room X)) rfl ?_)
            | (go_at_call 11; refine (HT8.out.add E X HE.out).mono ?_; rintro r w10 ⟨rfl, h10, f10⟩; rw [HWY.out]; rw [HAD.out] at h10; have HT10 := hide h10; have HX10 := hide (HX8.out.frm f10 HNX.out); clear h10 f10 HT8 HX8))
          go_roundw
          case rel => exact ⟨k + 1, (t.exp x.e), by omega, by rw [HFL.out], by go_num, HT10.out, HX10.out, HLENN.out⟩
          case measure => simp [intOf]; omega
        · have hEi : ¬ (E : Int) < (fl : Int) := by omega
          go_wp2_with (first
            | (go_at_call 19; refine (HT3.out.floor).mono ?_; rintro r w7 ⟨rfl, hw⟩; rw [hw, HFL.out]; clear hw))
          go_roundw
          case rel => exact ⟨k + 1, (t.exp x.e), by omega, by rw [HFL.out], by go_num, HT3.out, HX3.out, HLENN.out⟩
          case measure => simp [intOf]; omega
    · by_cases hkl2 : k < len
      · have hkl : (k : Int) < (len : Int) := by omega
        have hk1 : ¬ (k : Int) < 200 := by have := min_end hkn hkl2; omega
        go_wp2_with fail
        go_ret
        exact ⟨rfl, HT.out.below⟩
      · have hkl : ¬ (k : Int) < (len : Int) := by omega
        go_wp2_with fail
        go_ret
        exact ⟨rfl, HT.out.below⟩
end Go.Proofs.Ytdilfiojfjgejaa
