/-
  Rows of hops; whether hops are right.
-/
import Derived.Test.YtoiiiflnnhkjbaaGreatDoorOnC
import Derived.Shelf.Abstract
namespace Go.Proofs.YtoiiiflnnhkjbaaGreatDoor
set_option linter.unusedVariables false
set_option linter.unusedSimpArgs false
open Go.RowKit

/-- A slice of hops. -/
structure HRow (w : World) (A : Option Addr) (n : Nat) (hs : List HopL) : Prop where
  len : hs.length = n
  ok : ∀ h ∈ hs, h.ok
  at' : 0 < n → ∃ p, A = some p ∧ ∀ k, k < n → ∀ q v, (hopC (hs.getD k hop0))[q]? = some v → w.cell? (p.add (k * 54 + q)) = some v
theorem HRow.below {w w' : World} {A : Option Addr} {n : Nat} {hs : List HopL} (h : HRow w A n hs) (hb : Below w.heap.size w w') : HRow w' A n hs := by
  refine ⟨h.len, h.ok, fun hn => ?_⟩
  obtain ⟨p, rfl, hc⟩ := h.at' hn
  refine ⟨p, rfl, fun k hk q v hv => ?_⟩
  have h1 := hc k hk q v hv
  rw [hb.cell (World.block_lt_of_cell? w _ h1)]
  exact h1
theorem HRow.frm0 {w w' : World} {A : Option Addr} {n : Nat} {hs : List HopL} (h : HRow w A n hs) (f : Frm (fun _ => False) w w') : HRow w' A n hs := h.below (f.below (Nat.le_refl _) (fun _ h => h.elim))
theorem hop_mem {hs : List HopL} {k : Nat} (hk : k < hs.length) : hs.getD k hop0 ∈ hs := by
  rw [List.getD_eq_getElem?_getD, List.getElem?_eq_getElem hk]; exact List.getElem_mem hk
theorem HRow.hop {w : World} {A : Option Addr} {n : Nat} {hs : List HopL} (h : HRow w A n hs) {k : Nat} (hk : k < n) : (hs.getD k hop0).ok := h.ok _ (hop_mem (by rw [h.len]; exact hk))
/-- A whole hop at an address. -/
theorem held_loadH {op : Oper} {a : Act} {w : World} (x : Operand) (ho : op.op = .load 63 x)
    (ad : Addr) (hx : a.eval x = .pointer (some ad)) (r : HopL) (hr : r.ok) (hc : ∀ q u, (hopC r)[q]? = some u → w.cell? (ad.add q) = some u) : (execOp a.eval op).run Tryz.prog w = .ok (.value (.agg (hopC r).toArray)) w := by
  obtain ⟨⟨d, hu, hd⟩, hi⟩ := aggH
  have h1 : (loadCells ad (hopC r).length).run Tryz.prog w = .ok (hopC r).toArray w := run_loadCells_list (P := Tryz.prog) w ad (hopC r) (fun j v hv => hc j v hv)
  have h2 : (loadVar 63 ad).run Tryz.prog w = .ok (.agg (hopC r).toArray) w := by
    cases hq : Tryz.prog.info? 63 with
    | none => simp [hq] at hi
    | some i =>
      have hs : i.size = 54 := by simpa [hq] using hi
      have hagg : (isAgg 63).run Tryz.prog w = .ok true w := by
        unfold isAgg
        rw [Sem.run_bind, run_underlying hu w]
        cases d <;> simp_all [isAggD]
      rw [hopC_length hr] at h1
      simp [loadVar, Sem.run_bind, hagg, sizeOf, typeInfo, hq, hs, h1]
  unfold execOp
  simp only [ho, hx, Instr.loadAt, Instr.sureAddr, Sem.run_bind, Sem.run_pure, Result.andThen_ok, h2]
theorem HRow.cell {w : World} {n : Nat} {hs : List HopL} {p : Addr} (h : HRow w (some p) n hs) {k : Nat} (hk : k < n) : ∀ q u, (hopC (hs.getD k hop0))[q]? = some u → w.cell? ((p.add (k * 54)).add q) = some u := by
  intro q u hu
  obtain ⟨p', hp, hc⟩ := h.at' (by omega)
  injection hp with hp
  subst hp
  rw [add_add]
  exact hc k hk q u hu

def badH (h : HopL) : Bool := decide (h.hi < h.lo)
set_option maxHeartbeats 1000000 in
theorem bad_any (h : HopL) (hk : h.ok) (w : World) : Calls Tryz.prog 41 #[.agg (hopC h).toArray] w fun e w' => e = .returned (.bool (badH h)) ∧ Below w.heap.size w w' := by
  have HL := hide (hopC_lo hk)
  have HH := hide (hopC_hi hk)
  go_enter Tryz.func41, Tryz.ntmps41
  go_wp2_with (first
    | (with_reducible refine at_op (op := ⟨some 1, _, _, _, _, _⟩) ?_; (refine wpl_boxa (op := ⟨some 1, _, _, _, _, _⟩) rfl _ _ rfl (hopC h) rfl ?_); intro g1 w1 hB1 hg1 hF1)
    | (with_reducible refine at_op (op := ⟨some 4, _, _, _, _, _⟩) ?_; refine wpl_held (op := ⟨some 4, _, _, _, _, _⟩) (.int .u64 (h.lo : Int)) (held_load1 Tryz.underlying49 rfl one64 _ rfl g1 51 rfl _ _ (.int .u64 (h.lo : Int)) hB1 HL.out) rfl ?_)
    | (with_reducible refine at_op (op := ⟨some 6, _, _, _, _, _⟩) ?_; refine wpl_held (op := ⟨some 6, _, _, _, _, _⟩) (.int .u64 (h.hi : Int)) (held_load1 Tryz.underlying49 rfl one64 _ rfl g1 52 rfl _ _ (.int .u64 (h.hi : Int)) hB1 HH.out) rfl ?_))
  go_ret
  refine ⟨congrArg (fun b => Ending.returned (.bool b)) (decide_eq_decide.2 (by omega)), hF1.below (Nat.le_refl _) (fun _ h => h.elim)⟩

set_option maxHeartbeats 4000000 in
set_option maxRecDepth 100000 in
theorem index_any (A : Option Addr) (n c : Nat) (hs : List HopL) (w : World) (hR : HRow w A n hs) (hn : n ≤ 1000) :
    Calls Tryz.prog 61 #[.slice A n c, .func (.func 41) #[] #[]] w fun e w' => ∃ r : Int, e = .returned (.int .i64 r) ∧ -1 ≤ r ∧ r ≤ 1000 ∧ (hs.any badH = decide (0 ≤ r)) ∧ Below w.heap.size w w' := by
  have HR := hide hR
  have eg := enters_of Tryz.func41 (by kernel_rfl) rfl
  clear hR
  go_enter Tryz.func61, Tryz.ntmps61
  go_wp2_with fail
  go_loopw [8] (fun i wr => ∃ k : Nat, k ≤ n ∧ i = .int .i64 k ∧ (∀ j, j < k → badH (hs.getD j hop0) = false) ∧ Below w.heap.size w wr) (fun i _ => n - (intOf i).toNat)
  case atStart => exact ⟨0, by omega, rfl, fun j hj => by omega, Below.refl _ _⟩
  case round =>
    obtain ⟨k, hk, rfl, hall, hbel⟩ := hrel
    have HA := hide hall
    have HB := hide hbel
    clear hall hbel
    by_cases hlt : k < n
    · obtain ⟨p, rfl, _⟩ := HR.out.at' (by omega)
      have HC := hide ((HR.out.below HB.out).cell hlt)
      have HO := hide (HR.out.hop hlt)
      have HBA := hide (fun w => bad_any (hs.getD k hop0) HO.out w)
      obtain ⟨b, hb⟩ : ∃ b, b = badH (hs.getD k hop0) := ⟨_, rfl⟩
      rw [← hb] at HBA
      have HBB := hide hb
      clear hb
      go_wp2_with (with_reducible refine at_op (op := ⟨some 15, _, _, _, _, _⟩) ?_; refine wpl_held (op := ⟨some 15, _, _, _, _, _⟩) (.agg (hopC (hs.getD k hop0)).toArray) (held_loadH _ rfl (p.add (k * 54)) rfl _ HO.out HC.out) rfl ?_)
      refine (HBA.out _).mono ?_
      rintro e w2 ⟨rfl, hb2⟩
      have HB2 := hide (HB.out.trans (hb2.mono HB.out.size))
      clear hb2
      cases b
      · go_wp2_with fail
        go_roundw
        case rel =>
          refine ⟨k + 1, by omega, by go_num, fun j hj => ?_, HB2.out⟩
          rcases Nat.lt_or_ge j k with h | h
          · exact HA.out j h
          · obtain rfl : j = k := by omega
            exact HBB.out.symm
        case measure => simp [intOf]; omega
      · go_wp2_with fail
        go_ret
        refine ⟨(k : Int), rfl, by omega, by omega, ?_, HB2.out⟩
        rw [decide_eq_true (by omega), List.any_eq_true]
        exact ⟨_, hop_mem (by rw [HR.out.len]; exact hlt), HBB.out.symm⟩
    · obtain rfl : k = n := by omega
      go_wp2_with fail
      go_ret
      refine ⟨-1, rfl, by omega, by omega, ?_, HB.out⟩
      rw [decide_eq_false (by omega)]
      rw [List.any_eq_false]
      intro h hm
      obtain ⟨j, hj, rfl⟩ := List.mem_iff_getElem.1 hm
      have := HA.out j (by rw [← HR.out.len]; exact hj)
      rw [List.getD_eq_getElem?_getD, List.getElem?_eq_getElem hj] at this
      simpa using this

set_option maxHeartbeats 2000000 in
set_option maxRecDepth 100000 in
theorem contains_any (A : Option Addr) (n c : Nat) (hs : List HopL) (w : World) (hR : HRow w A n hs) (hn : n ≤ 1000) :
    Calls Tryz.prog 40 #[.slice A n c, .func (.func 41) #[] #[]] w fun e w' => e = .returned (.bool (hs.any badH)) ∧ Below w.heap.size w w' := by
  have HI := hide (index_any A n c hs w hR hn)
  clear hR
  go_enter Tryz.func40, Tryz.ntmps40
  go_wp2_with (go_at_call 61; refine HI.out.mono ?_; rintro e w1 ⟨r, rfl, h1, h2, h3, h4⟩)
  go_ret
  exact ⟨by rw [h3]; rfl, h4⟩

theorem rightH_eq (hs : List HopL) : rightH hs = (decide (1 ≤ hs.length) && (decide (hs.length ≤ 5) && !hs.any badH)) := by
  unfold rightH
  have : (hs.all fun h => decide (h.lo ≤ h.hi)) = !hs.any badH := by
    rw [List.not_any_eq_all_not]
    congr 1
    funext h
    unfold badH
    by_cases hl : h.lo ≤ h.hi
    · rw [decide_eq_true hl, decide_eq_false (by omega)]; rfl
    · rw [decide_eq_false hl, decide_eq_true (by omega)]; rfl
  rw [this, Bool.decide_and, Bool.and_assoc]

set_option maxHeartbeats 2000000 in
set_option maxRecDepth 100000 in
theorem right_h (A : Option Addr) (n c : Nat) (hs : List HopL) (w : World) (hR : HRow w A n hs) (hn : n ≤ 1000) :
    Calls Tryz.prog 15 #[.slice A n c] w fun e w' => e = .returned (.bool (rightH hs)) ∧ Below w.heap.size w w' := by
  have HC := hide (contains_any A n c hs w hR hn)
  have HE : Hid (rightH hs = (decide (1 ≤ n) && (decide (n ≤ 5) && !hs.any badH))) := by show _ = _; rw [rightH_eq, hR.len]
  generalize rightH hs = R at *
  generalize hs.any badH = B at *
  clear hR
  by_cases h1 : n < 1
  · have hq : (n : Int) < 1 := by omega
    have hr : R = false := by rw [HE.out, decide_eq_false (by omega)]; rfl
    subst hr
    clear HE HC
    go_enter Tryz.func15, Tryz.ntmps15
    go_wp2_with fail
    go_ret
    exact ⟨rfl, Below.refl _ _⟩
  · have hq : ¬ (n : Int) < 1 := by omega
    by_cases h2 : 5 < n
    · have hq2 : (5 : Int) < (n : Int) := by omega
      have hr : R = false := by rw [HE.out, decide_eq_true (show 1 ≤ n by omega), decide_eq_false (by omega)]; rfl
      subst hr
      clear HE HC
      go_enter Tryz.func15, Tryz.ntmps15
      go_wp2_with fail
      go_ret
      exact ⟨rfl, Below.refl _ _⟩
    · have hq2 : ¬ (5 : Int) < (n : Int) := by omega
      have hr : R = !B := by rw [HE.out, decide_eq_true (show 1 ≤ n by omega), decide_eq_true (by omega)]; rfl
      subst hr
      clear HE
      go_enter Tryz.func15, Tryz.ntmps15
      go_wp2_with (go_at_call 40; refine HC.out.mono ?_; rintro e w1 ⟨rfl, hb1⟩)
      go_ret
      exact ⟨rfl, hb1⟩
end Go.Proofs.YtoiiiflnnhkjbaaGreatDoor
