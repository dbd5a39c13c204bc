/-
  Whether a slot is right.
-/
import Derived.Test.YtedodbejbkdplaaSl2
namespace Go.Proofs.Ytedodbejbkdplaa
set_option linter.unusedVariables false
set_option linter.unusedSimpArgs false
open Go.RowKit

/-- A step of a region that only reads, by a law of its own. -/
theorem quiet_val {P : Program} {C : World → Prop} {o : Oper} {a : Act} {ops : Array Oper} {K : Act → Prop} (v : Value) (hv : ∀ w, C w → (execOp a.eval o).run P w = .ok (.value v) w) (h : K (a.put o.dst v)) (hw : Region.wanted o (yielded ops a.tmps) = true) :
    if Region.wanted o (yielded ops a.tmps) = true then o.quiet P a C K else K (a.put o.dst undef) := by
  rw [if_pos hw]
  refine ⟨v, fun w hc => ?_, h⟩
  unfold Oper.quietAt
  rw [hv w hc]
  exact ⟨rfl, rfl⟩
/-- It is right, as a bool. -/
def rightB (s : Slot) : Bool := decide (s.lo ≤ s.hi) && slotEq s (kindM s)
theorem rightB_iff {s : Slot} : rightB s = true ↔ rightM s := by
  unfold rightB rightM
  rw [Bool.and_eq_true, decide_eq_true_eq, slotEq_iff]
def errR (s : Slot) : Int := if rightB s = true then 0 else 1

set_option maxHeartbeats 2000000 in
set_option maxRecDepth 100000 in
theorem right_any (s : Slot) (hs : s.ok) (w : World) : Calls Try.prog 14 #[.agg (slotC s).toArray] w fun e w' => e = .returned (.int .i64 (errR s)) ∧ Below w.heap.size w w' := by
  have HL := hide (slotC_length s hs.nonce hs.mac)
  have HO := hide (slotC_one s)
  have HS := hide hs
  have HX := hide (eq_slot hs (kindM_ok hs))
  have HKND := hide (kind_any s hs)
  have HE : Hid (errR s = if rightB s = true then 0 else 1) := rfl
  have HRB : Hid (rightB s = (decide (s.lo ≤ s.hi) && slotEq s (kindM s))) := rfl
  have HT : Hid ((slotC s).take 40 = slotC s) := by show _ = _; rw [List.take_of_length_le]; rw [HL.out]; exact Nat.le_refl _
  clear hs
  generalize errR s = E at *
  generalize rightB s = R at *
  generalize slotEq s (kindM s) = b at *
  generalize slotC (kindM s) = D at *
  go_enter Try.func14, Try.ntmps14
  go_wp2_with ((with_reducible refine wpl_boxa (op := ⟨some 1, _, _, _, _, _⟩) rfl _ _ rfl (slotC s) rfl ?_); intro g1 w1 hB1 hg1 hF1)
  obtain ⟨c0, c1, c2, c3, c4, c5, c6, c7⟩ := hB1.slot HS.out
  have k5 : ∀ W', Below w1.heap.size w1 W' → W'.cell? ⟨g1, 37, none⟩ = some (.int .u64 (s.lo : Int)) := fun W' h => (h.cell hB1.lt).trans c5
  have k6 : ∀ W', Below w1.heap.size w1 W' → W'.cell? ⟨g1, 38, none⟩ = some (.int .u64 (s.hi : Int)) := fun W' h => (h.cell hB1.lt).trans c6
  have HB : Hid (∀ W', Below w1.heap.size w1 W' → Blk W' g1 32 (slotC s).toArray) := fun W' h => hB1.frm (Frm.of_below (S := fun _ => False) h) (fun h => h)
  have HK : ∀ W', Below w1.heap.size w1 W' → Calls Try.prog 30 #[.agg (slotC s).toArray] W' (fun e w'' => e = .returned (.agg D.toArray) ∧ Below w1.heap.size w1 w'') :=
    fun W' h => (HKND.out W').mono (fun e w'' ⟨he, hb⟩ => ⟨he, h.trans (hb.mono h.size)⟩)
  have HF1 := hide hF1
  clear c0 c1 c2 c3 c4 c5 c6 c7 hF1 HKND hB1
  refine wp_region_class (fun W' => Below w1.heap.size w1 W') (by kernel_rfl) (by kernel_rfl) (below_drewN (Below.refl _ _) 1) ?_
  by_cases hlo : s.lo ≤ s.hi
  · have hd : decide (s.hi < s.lo) = false := by simp; omega
    have hd2 : ¬ (s.hi : Int) < (s.lo : Int) := by omega
    have HLO : Hid (decide (s.lo ≤ s.hi) = true) := by simpa [Hid] using hlo
    clear hlo
    with_reducible refine wpQuiet_step ?_
    intro K hK
    go_simp
    first | (refine hK _ ?_; clear hK K) | (refine ⟨_, fun w' hw' => rfl, hK _ ?_⟩; clear hK K)
    with_reducible refine wpQuiet_step ?_
    intro K hK
    go_simp
    refine ⟨.int .u64 s.lo, fun w' hw' => ?_, hK _ ?_⟩
    · have hcell0 := k5 w' hw'
      go_simp
    clear hK K
    with_reducible refine wpQuiet_step ?_
    intro K hK
    go_simp
    first | (refine hK _ ?_; clear hK K) | (refine ⟨_, fun w' hw' => rfl, hK _ ?_⟩; clear hK K)
    with_reducible refine wpQuiet_step ?_
    intro K hK
    go_simp
    refine ⟨.int .u64 s.hi, fun w' hw' => ?_, hK _ ?_⟩
    · have hcell0 := k6 w' hw'
      go_simp
    clear hK K
    with_reducible refine wpQuiet_step ?_
    intro K hK
    go_simp
    first | (refine hK _ ?_; clear hK K) | (refine ⟨_, fun w' hw' => rfl, hK _ ?_⟩; clear hK K)
    with_reducible refine wpQuiet_step ?_
    intro K hK
    go_simp
    first | (refine hK _ ?_; clear hK K) | (refine ⟨_, fun w' hw' => rfl, hK _ ?_⟩; clear hK K)
    with_reducible refine wpQuiet_step ?_
    intro K hK
    refine quiet_val (.agg (slotC s).toArray) (fun w' hw' => held_loada aggS _ rfl g1 0 rfl _ _ (slotC s) (HB.out w' hw') (by rw [List.drop_zero]; exact HT.out) (by rw [HL.out]; exact Nat.le_refl _)) ?_ rfl
    go_simp
    refine hK _ ?_
    clear hK K
    with_reducible refine wpQuiet_step ?_
    intro K hK
    refine quiet_val (.agg (slotC s).toArray) (fun w' hw' => held_loada aggS _ rfl g1 0 rfl _ _ (slotC s) (HB.out w' hw') (by rw [List.drop_zero]; exact HT.out) (by rw [HL.out]; exact Nat.le_refl _)) ?_ rfl
    go_simp
    refine hK _ ?_
    clear hK K
    with_reducible refine wpQuiet_step ?_
    intro K hK
    go_simp
    refine ⟨_, HK, hK _ ?_⟩
    clear hK K
    with_reducible refine wpQuiet_step ?_
    intro K hK
    refine quiet_val (.bool (!b)) (fun w' hw' => held_neq _ _ _ _ rfl (slotC s) D rfl rfl b (HX.out w') Try.eqGuardType32) ?_ rfl
    go_simp
    refine hK _ ?_
    clear hK K
    with_reducible refine wpQuiet_step ?_
    intro K hK
    go_simp
    first | (refine hK _ ?_; clear hK K) | (refine ⟨_, fun w' hw' => rfl, hK _ ?_⟩; clear hK K)
    refine wpQuiet_nil ?_
    intro w2 hw2
    have HW2 : Hid (Below w.heap.size w w2) := (HF1.out.below (Nat.le_refl _) (fun _ h => h.elim)).trans (hw2.mono HF1.out.size)
    cases hb : b
    · go_wp2
      go_ret
      exact ⟨by rw [HE.out, HRB.out, HLO.out, hb]; rfl, HW2.out⟩
    · go_wp2
      go_ret
      exact ⟨by rw [HE.out, HRB.out, HLO.out, hb]; rfl, HW2.out⟩
  · have hd : decide (s.hi < s.lo) = true := by simp; omega
    have hd2 : (s.hi : Int) < (s.lo : Int) := by omega
    have HLO : Hid (decide (s.lo ≤ s.hi) = false) := by simpa [Hid] using hlo
    clear hlo
    with_reducible refine wpQuiet_step ?_
    intro K hK
    go_simp
    first | (refine hK _ ?_; clear hK K) | (refine ⟨_, fun w' hw' => rfl, hK _ ?_⟩; clear hK K)
    with_reducible refine wpQuiet_step ?_
    intro K hK
    go_simp
    refine ⟨.int .u64 s.lo, fun w' hw' => ?_, hK _ ?_⟩
    · have hcell0 := k5 w' hw'
      go_simp
    clear hK K
    with_reducible refine wpQuiet_step ?_
    intro K hK
    go_simp
    first | (refine hK _ ?_; clear hK K) | (refine ⟨_, fun w' hw' => rfl, hK _ ?_⟩; clear hK K)
    with_reducible refine wpQuiet_step ?_
    intro K hK
    go_simp
    refine ⟨.int .u64 s.hi, fun w' hw' => ?_, hK _ ?_⟩
    · have hcell0 := k6 w' hw'
      go_simp
    clear hK K
    with_reducible refine wpQuiet_step ?_
    intro K hK
    go_simp
    first | (refine hK _ ?_; clear hK K) | (refine ⟨_, fun w' hw' => rfl, hK _ ?_⟩; clear hK K)
    with_reducible refine wpQuiet_step ?_
    intro K hK
    go_simp
    first | (refine hK _ ?_; clear hK K) | (refine ⟨_, fun w' hw' => rfl, hK _ ?_⟩; clear hK K)
    with_reducible refine wpQuiet_step ?_
    intro K hK
    go_simp
    refine hK _ ?_
    clear hK K
    with_reducible refine wpQuiet_step ?_
    intro K hK
    go_simp
    refine hK _ ?_
    clear hK K
    with_reducible refine wpQuiet_step ?_
    intro K hK
    go_simp
    refine hK _ ?_
    clear hK K
    with_reducible refine wpQuiet_step ?_
    intro K hK
    go_simp
    refine hK _ ?_
    clear hK K
    with_reducible refine wpQuiet_step ?_
    intro K hK
    go_simp
    first | (refine hK _ ?_; clear hK K) | (refine ⟨_, fun w' hw' => rfl, hK _ ?_⟩; clear hK K)
    refine wpQuiet_nil ?_
    intro w2 hw2
    have HW2 : Hid (Below w.heap.size w w2) := (HF1.out.below (Nat.le_refl _) (fun _ h => h.elim)).trans (hw2.mono HF1.out.size)
    go_wp2
    go_ret
    exact ⟨by rw [HE.out, HRB.out, HLO.out]; rfl, HW2.out⟩
end Go.Proofs.Ytedodbejbkdplaa
