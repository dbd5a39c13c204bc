/-
  Bytes that are a right slot's.
-/
import Derived.Test.YtedodbejbkdplaaSl7
namespace Go.Proofs.Ytedodbejbkdplaa
set_option linter.unusedVariables false
set_option linter.unusedSimpArgs false
open Go.RowKit

def okB (b : List UInt8) : Bool := rightB (decM b) && (encM (decM b) == b)
/-- What Decode tells. -/
def ansM (b : List UInt8) : Slot := if okB b = true then decM b else slot0
def errD (b : List UInt8) : Int := if okB b = true then 0 else 3
theorem ansM_ok {b : List UInt8} (hb : b.length = 64) : (ansM b).ok := by
  unfold ansM
  split
  · exact decM_ok b hb
  · exact slot0_ok

set_option maxHeartbeats 8000000 in
set_option maxRecDepth 100000 in
theorem decode_any (b : List UInt8) (hb : b.length = 64) (w : World) : Calls Try.prog 17 #[.agg (cellsB b).toArray] w fun e w' => e = .returned (.tuple #[.agg (slotC (ansM b)).toArray, .int .i64 (errD b)]) ∧ Below w.heap.size w w' := by
  have hok := decM_ok b hb
  have HDL := hide (slotC_length _ hok.nonce hok.mac)
  have HDO := hide (slotC_one (decM b))
  have HAL := hide (slotC_length _ (ansM_ok hb).nonce (ansM_ok hb).mac)
  have HAO := hide (slotC_one (ansM b))
  have HRD := hide (sread_any b hb)
  have HEN := hide (encode_any (decM b) hok)
  have HOL := hide (outM_length hok)
  have HO : Hid (outM (decM b) = if rightB (decM b) = true then encM (decM b) else zeros 64) := rfl
  have HR : Hid (errR (decM b) = if rightB (decM b) = true then 0 else 1) := rfl
  have HA : Hid (ansM b = if okB b = true then decM b else slot0) := rfl
  have HE : Hid (errD b = if okB b = true then 0 else 3) := rfl
  have HK : Hid (okB b = (rightB (decM b) && (encM (decM b) == b))) := rfl
  have HB := hide hb
  have hBc : (cellsB b).length = 64 := by rw [cellsB_length, hb]
  have HBc := hide hBc
  have HBT : Hid (((cellsB b).drop 0).take 64 = cellsB b) := by show _ = _; rw [List.drop_zero, List.take_of_length_le]; rw [hBc]; exact Nat.le_refl _
  have hEQ := fun w => eq_bytes 9998 under64b (outM (decM b)) b HOL.out hb w
  have HEQ := hide hEQ
  clear hok hb hBc hEQ
  generalize hD : decM b = D at *
  generalize ansM b = ANS at *
  generalize errD b = ERRD at *
  generalize okB b = OK at *
  generalize errR D = ERRR at *
  generalize rightB D = R at *
  generalize encM D = ENC at *
  have HOc : Hid ((cellsB (outM D)).length = 64) := by show _ = _; rw [cellsB_length, HOL.out]
  generalize outM D = OUT at *
  clear hD
  go_enter Try.func17, Try.ntmps17
  go_wp2_with (first
    | ((with_reducible refine wpl_boxa (op := ⟨some 1, _, _, _, _, _⟩) rfl _ _ rfl (cellsB b) rfl ?_); intro g1 w1 hB1 hg1 hF1)
    | ((with_reducible refine wpl_alloca (op := ⟨some 2, _, _, _, _, _⟩) rfl _ rfl _ zeroS ?_); intro g2 w2 hB2 hg2 hF2; have hB12 := hB1.frm hF2 (fun h => h))
    | (with_reducible refine wpl_loada (op := ⟨some 7, _, _, _, _, _⟩) agg64b rfl _ rfl g1 0 rfl _ _ (cellsB b) hB12 HBT.out (by rw [HBc.out]; exact Nat.le_refl _) ?_))
  refine (HRD.out w2).mono ?_
  rintro e w3 ⟨rfl, hb3⟩
  have hF3 : Frm (fun _ => False) w2 w3 := Frm.of_below hb3
  have hB13 := hB12.frm hF3 (fun h => h)
  have hB23 := hB2.frm hF3 (fun h => h)
  have HF03 := hide ((hF1.trans hF2 (fun _ _ h => h)).trans hF3 (fun _ _ h => h))
  have HG12 : Hid (g1 < w3.heap.size ∧ g2 < w3.heap.size ∧ w.heap.size ≤ g1 ∧ w.heap.size ≤ g2 ∧ g1 ≠ g2) := ⟨hB13.lt, hB23.lt, hg1, by have := hF1.size; omega, by have := hB1.lt; omega⟩
  clear HRD hb3 hF1 hF2 hF3 hg1 hg2 hB1 hB12 hB2
  go_wp2_with (first
    | ((with_reducible refine wpl_alloca (op := ⟨some 4, _, _, _, _, _⟩) rfl _ rfl _ zeroS ?_); intro g4 w4 hB4 hg4 hF4)
    | ((with_reducible refine wpl_storea aggS rfl (.tmp 4) (.tmp 8) rfl g4 (slotC D) rfl rfl _ _ hB4 HDL.out slot0_len HDO.out ?_); intro w5 hB5 hF5)
    | (with_reducible refine wpl_loada (op := ⟨some 10, _, _, _, _, _⟩) aggS rfl _ rfl g4 0 rfl _ _ (slotC D) hB5 (by rw [List.drop_zero, List.take_of_length_le (by rw [HDL.out]; exact Nat.le_refl _)]) (by rw [HDL.out]; exact Nat.le_refl _) ?_))
  have hF35 : Frm (fun k => k = g4) w3 w5 := (hF4.mono (fun _ _ h => h.elim)).trans hF5 (fun _ _ h => h)
  have HG4 : Hid (w3.heap.size ≤ g4) := hg4
  have hB15 := hB13.frm hF35 (fun e => by have := HG12.out; omega)
  have hB25 := hB23.frm hF35 (fun e => by have := HG12.out; omega)
  have HB05 : Hid (Below w.heap.size w w5) := below_frm (HF03.out.below (Nat.le_refl _) (fun _ h => h.elim)) hF35 HF03.out.size (fun k hk => by have := HF03.out.size; have := HG4.out; omega)
  clear hF4 hF5 hF35 hg4 hB4 hB13 hB23 HF03
  refine (HEN.out w5).mono ?_
  rintro e w6 ⟨rfl, hb6⟩
  have hF6 : Frm (fun _ => False) w5 w6 := Frm.of_below hb6
  have hB16 := hB15.frm hF6 (fun h => h)
  have hB26 := hB25.frm hF6 (fun h => h)
  have hB46 := hB5.frm hF6 (fun h => h)
  have HB06 : Hid (Below w.heap.size w w6) := below_frm HB05.out hF6 HB05.out.size (fun _ h => h.elim)
  clear hF6 hb6 hB15 hB25 hB5 HB05 HEN
  rcases hR : R with _ | _
  · have he1 : ERRR = 1 := by rw [HR.out, hR]; rfl
    have hok : OK = false := by rw [HK.out, hR]; rfl
    have ha : ANS = slot0 := by rw [HA.out, hok]; rfl
    have hd : ERRD = 3 := by rw [HE.out, hok]; rfl
    subst he1 ha hd
    clear HR HK HA HE HO hR hok
    have hbd := build_slot0
    go_wp2_with (first
      | ((with_reducible refine wpl_alloca (op := ⟨some 5, _, _, _, _, _⟩) rfl _ rfl _ zero64 ?_); intro g5 w7 hB7 hg7 hF7)
      | ((with_reducible refine wpl_storea agg64b rfl (.tmp 5) (.tmp 12) rfl g5 (cellsB OUT) rfl rfl _ _ hB7 HOc.out z64_len (cellsB_one _) ?_); intro w8 hB8 hF8; have hF68 : Frm (fun k => k = g5) w6 w8 := (hF7.mono (fun _ _ h => h.elim)).trans hF8 (fun _ _ h => h); have hB28 := hB26.frm hF68 (fun e => by have := hB26.lt; omega))
      | (refine wpl_held (op := ⟨some 21, _, _, _, _, _⟩) (.agg (slotC slot0).toArray) (held_build _ _ rfl _ _ (hbd _) rfl) rfl ?_)
      | ((with_reducible refine wpl_storea aggS rfl (.tmp 2) (.tmp 21) rfl g2 (slotC slot0) rfl rfl _ _ hB28 HAL.out slot0_len HAO.out ?_); intro w9 hB9 hF9))
    refine bodyPost_ret (results_ct aggS rfl _ _ g2 _ _ rfl hB9 HAL.out) rfl ⟨rfl, ?_⟩
    have h1 := below_frm HB06.out hF68 HB06.out.size (fun k hk => by have := HB06.out.size; omega)
    exact below_frm h1 hF9 h1.size (fun k hk => by have := HG12.out; omega)
  · have he1 : ERRR = 0 := by rw [HR.out, hR]; rfl
    have ho1 : OUT = ENC := by rw [HO.out, hR]; rfl
    have hok : OK = (OUT == b) := by rw [HK.out, hR, ho1, Bool.true_and]
    subst he1
    clear HR HK HO hR ho1
    rcases heq : (OUT == b) with _ | _
    · have ha : ANS = slot0 := by rw [HA.out, hok, heq]; rfl
      have hd : ERRD = 3 := by rw [HE.out, hok, heq]; rfl
      subst ha hd
      rw [heq] at HEQ
      clear HA HE hok heq
      have hbd := build_slot0
      go_wp2_with (first
        | ((with_reducible refine wpl_alloca (op := ⟨some 5, _, _, _, _, _⟩) rfl _ rfl _ zero64 ?_); intro g5 w7 hB7 hg7 hF7)
        | ((with_reducible refine wpl_storea agg64b rfl (.tmp 5) (.tmp 12) rfl g5 (cellsB OUT) rfl rfl _ _ hB7 HOc.out z64_len (cellsB_one _) ?_); intro w8 hB8 hF8; have hF68 : Frm (fun k => k = g5) w6 w8 := (hF7.mono (fun _ _ h => h.elim)).trans hF8 (fun _ _ h => h); have hB28 := hB26.frm hF68 (fun e => by have := hB26.lt; omega); have hB18 := hB16.frm hF68 (fun e => by have := hB16.lt; omega))
        | (refine wpl_held (op := ⟨some 17, _, _, _, _, _⟩) (.agg (cellsB OUT).toArray) (held_loada agg64b _ rfl g5 0 rfl _ _ (cellsB OUT) hB8 (by rw [List.drop_zero, List.take_of_length_le (by rw [HOc.out]; exact Nat.le_refl _)]) (by rw [HOc.out]; exact Nat.le_refl _)) rfl ?_)
        | (refine wpl_held (op := ⟨some 18, _, _, _, _, _⟩) (.agg (cellsB b).toArray) (held_loada agg64b _ rfl g1 0 rfl _ _ (cellsB b) hB18 HBT.out (by rw [HBc.out]; exact Nat.le_refl _)) rfl ?_)
        | (refine wpl_held (op := ⟨some 19, _, _, _, _, _⟩) (.bool (!false)) (held_neq _ _ _ _ rfl (cellsB OUT) (cellsB b) rfl rfl false (HEQ.out _) Try.eqGuardType33) rfl ?_)
        | (refine wpl_held (op := ⟨some 21, _, _, _, _, _⟩) (.agg (slotC slot0).toArray) (held_build _ _ rfl _ _ (hbd _) rfl) rfl ?_)
        | ((with_reducible refine wpl_storea aggS rfl (.tmp 2) (.tmp 21) rfl g2 (slotC slot0) rfl rfl _ _ hB28 HAL.out slot0_len HAO.out ?_); intro w9 hB9 hF9))
      refine bodyPost_ret (results_ct aggS rfl _ _ g2 _ _ rfl hB9 HAL.out) rfl ⟨rfl, ?_⟩
      have h1 := below_frm HB06.out hF68 HB06.out.size (fun k hk => by have := HB06.out.size; omega)
      exact below_frm h1 hF9 h1.size (fun k hk => by have := HG12.out; omega)
    · have ha : ANS = D := by rw [HA.out, hok, heq]; rfl
      have hd : ERRD = 0 := by rw [HE.out, hok, heq]; rfl
      subst ha hd
      rw [heq] at HEQ
      clear HA HE hok heq
      go_wp2_with (first
        | ((with_reducible refine wpl_alloca (op := ⟨some 5, _, _, _, _, _⟩) rfl _ rfl _ zero64 ?_); intro g5 w7 hB7 hg7 hF7)
        | ((with_reducible refine wpl_storea agg64b rfl (.tmp 5) (.tmp 12) rfl g5 (cellsB OUT) rfl rfl _ _ hB7 HOc.out z64_len (cellsB_one _) ?_); intro w8 hB8 hF8; have hF68 : Frm (fun k => k = g5) w6 w8 := (hF7.mono (fun _ _ h => h.elim)).trans hF8 (fun _ _ h => h); have hB28 := hB26.frm hF68 (fun e => by have := hB26.lt; omega); have hB18 := hB16.frm hF68 (fun e => by have := hB16.lt; omega); have hB48 := hB46.frm hF68 (fun e => by have := hB46.lt; omega))
        | (refine wpl_held (op := ⟨some 17, _, _, _, _, _⟩) (.agg (cellsB OUT).toArray) (held_loada agg64b _ rfl g5 0 rfl _ _ (cellsB OUT) hB8 (by rw [List.drop_zero, List.take_of_length_le (by rw [HOc.out]; exact Nat.le_refl _)]) (by rw [HOc.out]; exact Nat.le_refl _)) rfl ?_)
        | (refine wpl_held (op := ⟨some 18, _, _, _, _, _⟩) (.agg (cellsB b).toArray) (held_loada agg64b _ rfl g1 0 rfl _ _ (cellsB b) hB18 HBT.out (by rw [HBc.out]; exact Nat.le_refl _)) rfl ?_)
        | (refine wpl_held (op := ⟨some 19, _, _, _, _, _⟩) (.bool (!true)) (held_neq _ _ _ _ rfl (cellsB OUT) (cellsB b) rfl rfl true (HEQ.out _) Try.eqGuardType33) rfl ?_)
        | (with_reducible refine wpl_loada (op := ⟨some 22, _, _, _, _, _⟩) aggS rfl _ rfl g4 0 rfl _ _ (slotC ANS) hB48 (by rw [List.drop_zero, List.take_of_length_le (by rw [HAL.out]; exact Nat.le_refl _)]) (by rw [HAL.out]; exact Nat.le_refl _) ?_)
        | ((with_reducible refine wpl_storea aggS rfl (.tmp 2) (.tmp 22) rfl g2 (slotC ANS) rfl rfl _ _ hB28 HAL.out slot0_len HAO.out ?_); intro w9 hB9 hF9))
      refine bodyPost_ret (results_ct aggS rfl _ _ g2 _ _ rfl hB9 HAL.out) rfl ⟨rfl, ?_⟩
      have h1 := below_frm HB06.out hF68 HB06.out.size (fun k hk => by have := HB06.out.size; omega)
      exact below_frm h1 hF9 h1.size (fun k hk => by have := HG12.out; omega)
end Go.Proofs.Ytedodbejbkdplaa
