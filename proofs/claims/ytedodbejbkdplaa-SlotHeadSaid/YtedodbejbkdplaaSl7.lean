/-
  What stands in a slot's bytes, read.
-/
import Derived.Test.YtedodbejbkdplaaSl6
namespace Go.Proofs.Ytedodbejbkdplaa
set_option linter.unusedVariables false
set_option linter.unusedSimpArgs false
open Go.RowKit

theorem rd_norm {w : World} {g : Nat} {d : Option Nat} {l : List UInt8} (h : Rd w g d l) : ∃ d', Rd w g d' l ∧ ∀ j, d' = some j → d = some j ∧ j < w.heap.size := by
  obtain ⟨v, hb, A, c, hv, h1, h2, hh⟩ := h
  rcases hh with ⟨rfl, rfl⟩ | ⟨g', off, cur, hA, hd, hg, hs, ht⟩
  · exact ⟨none, ⟨v, hb, none, 0, hv, h1, h2, .inl ⟨rfl, rfl⟩⟩, fun j hj => by cases hj⟩
  · exact ⟨some g', ⟨v, hb, A, c, hv, h1, h2, .inr ⟨g', off, cur, hA, rfl, hg, hs, ht⟩⟩, fun j hj => by injection hj with hj; subst hj; exact ⟨hd, hg.lt⟩⟩
/-- The last reads, and what is told. -/
structure ReadAt (w0 : World) (g2 g3 g : Nat) (d : Option Nat) (l : List UInt8) (s : Slot) (w : World) : Prop where
  rd : Rd w g d l
  d0 : ∀ j, d = some j → w0.heap.size ≤ j ∧ j ≠ g3 ∧ j ≠ g2 ∧ j < w.heap.size
  b2 : Blk w g2 32 (slotC slot0).toArray
  b3 : Blk w g3 32 (slotC s).toArray
  bel : Below w0.heap.size w0 w
  ne : g ≠ g3 ∧ g ≠ g2 ∧ g2 ≠ g3 ∧ w0.heap.size ≤ g ∧ w0.heap.size ≤ g2 ∧ w0.heap.size ≤ g3
  n16 : s.nonce.length = 16
  m16 : s.mac.length = 16
section
variable {w0 w w' : World} {g2 g3 g : Nat} {d : Option Nat} {l l' : List UInt8} {s s' : Slot}
theorem ReadAt.read (h : ReadAt w0 g2 g3 g d l s w) (hr : Rd w' g d l') (f : Frm (fun k => k = g) w w') : ReadAt w0 g2 g3 g d l' s w' :=
  ⟨hr, fun j hj => by have := h.d0 j hj; have := f.size; omega, h.b2.frm f (fun e => h.ne.2.1 e.symm), h.b3.frm f (fun e => h.ne.1 e.symm), below_frm h.bel f h.bel.size (fun k hk => by have := h.ne; omega), h.ne, h.n16, h.m16⟩
theorem ReadAt.put (h : ReadAt w0 g2 g3 g d l s w) (f : Frm (fun k => k = g3) w w') (hb : Blk w' g3 32 (slotC s').toArray) (hn : s'.nonce.length = 16) (hm : s'.mac.length = 16) : ReadAt w0 g2 g3 g d l s' w' :=
  ⟨h.rd.frm f (fun e => h.ne.1 e) (fun j hj e => (h.d0 j hj).2.1 e), fun j hj => by have := h.d0 j hj; have := f.size; omega, h.b2.frm f (fun e => h.ne.2.2.1 e), hb, below_frm h.bel f h.bel.size (fun k hk => by have := h.ne; omega), h.ne, hn, hm⟩
theorem ReadAt.set (h : ReadAt w0 g2 g3 g d l s w) (i : Nat) (v : Value) (he : (slotC s).set i v = slotC s') (hn : s'.nonce = s.nonce) (hm : s'.mac = s.mac) : ReadAt w0 g2 g3 g d l s' (w.setCell ⟨g3, i, none⟩ v) := by
  have hb := h.b3.setL i v
  rw [he] at hb
  exact h.put (Frm.setCell _ ⟨g3, i, none⟩ _ (fun k => k = g3) rfl) hb (by rw [hn]; exact h.n16) (by rw [hm]; exact h.m16)
theorem ReadAt.cells (h : ReadAt w0 g2 g3 g d l s w) : (∀ i, w.frozen? ⟨g3, i, none⟩ = false) ∧ w.cell? ⟨g3, 0, none⟩ = some (.bool s.last) ∧ w.cell? ⟨g3, 1, none⟩ = some (.int .u16 (s.next : Int)) ∧ w.cell? ⟨g3, 2, none⟩ = some (.int .u16 (s.box : Int)) ∧ w.cell? ⟨g3, 3, none⟩ = some (.int .u16 (s.who : Int)) ∧ w.cell? ⟨g3, 4, none⟩ = some (.int .u32 (s.epoch : Int)) ∧
    w.cell? ⟨g3, 37, none⟩ = some (.int .u64 (s.lo : Int)) ∧ w.cell? ⟨g3, 38, none⟩ = some (.int .u64 (s.hi : Int)) ∧ w.cell? ⟨g3, 39, none⟩ = some (.int .u32 (s.delay : Int)) := by
  refine ⟨h.b3.frozen, h.b3.cell 0, h.b3.cell 1, h.b3.cell 2, h.b3.cell 3, h.b3.cell 4, ?_, ?_, ?_⟩
  · rw [h.b3.cell, List.getElem?_toArray]; exact slotC_lo h.n16 h.m16
  · rw [h.b3.cell, List.getElem?_toArray]; exact slotC_hi h.n16 h.m16
  · rw [h.b3.cell, List.getElem?_toArray]; exact slotC_delay h.n16 h.m16
end
theorem slotC_len16 (s : Slot) (h1 : s.nonce.length = 16) (h2 : s.mac.length = 16) : 5 + 16 ≤ (slotC s).length ∧ 21 + 16 ≤ (slotC s).length := by
  rw [slotC_length s h1 h2]
  decide

set_option maxHeartbeats 8000000 in
set_option maxRecDepth 100000 in
theorem sread_any (b : List UInt8) (hb : b.length = 64) (w : World) : Calls Try.prog 39 #[.agg (cellsB b).toArray] w fun e w' => e = .returned (.agg (slotC (decM b)).toArray) ∧ Below w.heap.size w w' := by
  have HD : Hid (decM b = ⟨decide (num (b.take 1) = 1), if num (b.take 1) = 1 then 0 else num ((b.drop 1).take 2), if num (b.take 1) = 1 then num ((b.drop 1).take 2) else 0, num ((b.drop 23).take 2), num ((b.drop 25).take 4), (b.drop 29).take 16, (b.drop 45).take 16, num ((b.drop 3).take 8), num ((b.drop 11).take 8), num ((b.drop 19).take 4)⟩) := rfl
  have HDL := hide (slotC_length _ (decM_ok b hb).nonce (decM_ok b hb).mac)
  have HDO := hide (slotC_one (decM b))
  have HN16 : Hid (((b.drop 29).take 16).length = 16) := by show _ = _; rw [List.length_take, List.length_drop]; omega
  have HM16 : Hid (((b.drop 45).take 16).length = 16) := by show _ = _; rw [List.length_take, List.length_drop]; omega
  have hk256 : num (b.take 1) < 256 := num_take_lt b 1 1 (by omega)
  have HB := hide hb
  have h64 := sl64
  generalize decM b = D at *
  obtain ⟨k, hk⟩ : ∃ n, n = num (b.take 1) := ⟨_, rfl⟩
  obtain ⟨to, hto⟩ : ∃ n, n = num ((b.drop 1).take 2) := ⟨_, rfl⟩
  obtain ⟨lo, hlo⟩ : ∃ n, n = num ((b.drop 3).take 8) := ⟨_, rfl⟩
  obtain ⟨hi, hhi⟩ : ∃ n, n = num ((b.drop 11).take 8) := ⟨_, rfl⟩
  obtain ⟨delay, hdelay⟩ : ∃ n, n = num ((b.drop 19).take 4) := ⟨_, rfl⟩
  obtain ⟨who, hwho⟩ : ∃ n, n = num ((b.drop 23).take 2) := ⟨_, rfl⟩
  obtain ⟨epoch, hepoch⟩ : ∃ n, n = num ((b.drop 25).take 4) := ⟨_, rfl⟩
  obtain ⟨nonce, hnonce⟩ : ∃ n, n = (b.drop 29).take 16 := ⟨_, rfl⟩
  obtain ⟨mac, hmac⟩ : ∃ n, n = (b.drop 45).take 16 := ⟨_, rfl⟩
  rw [← hk, ← hto, ← hlo, ← hhi, ← hdelay, ← hwho, ← hepoch, ← hnonce, ← hmac] at HD
  rw [← hnonce] at HN16
  rw [← hmac] at HM16
  rw [← hk] at hk256
  have Hk := hide hk
  have Hto := hide hto
  have Hlo := hide hlo
  have Hhi := hide hhi
  have Hdelay := hide hdelay
  have Hwho := hide hwho
  have Hepoch := hide hepoch
  have Hnonce := hide hnonce
  have Hmac := hide hmac
  clear hk hto hlo hhi hdelay hwho hepoch hnonce hmac hb
  go_enter Try.func39, Try.ntmps39
  go_wp2_with (first
    | ((with_reducible refine wpl_boxa (op := ⟨some 1, _, _, _, _, _⟩) rfl _ _ rfl (cellsB b) rfl ?_); intro g1 w1 hB1 hg1 hF1)
    | ((with_reducible refine wpl_alloca (op := ⟨some 2, _, _, _, _, _⟩) rfl _ rfl _ zeroS ?_); intro g2 w2 hB2 hg2 hF2)
    | ((with_reducible refine wpl_alloca (op := ⟨some 3, _, _, _, _, _⟩) rfl _ rfl _ zeroS ?_); intro g3 w3 hB3 hg3 hF3))
  have hr1 : Rds w3 (some ⟨g1, 0, none⟩) 64 (cellsB b) := by have h := ((hB1.frm hF2 (fun h => h)).frm hF3 (fun h => h)).rds; rwa [cellsB_length, HB.out] at h
  refine (read_any (some ⟨g1, 0, none⟩) 64 64 b w3 hr1 (by omega)).mono ?_
  rintro e w4 ⟨g, d0, rfl, hr40, hb4, hg4, hd40⟩
  obtain ⟨d, hr4, hd4⟩ := rd_norm hr40
  have hF4 : Frm (fun _ => False) w3 w4 := Frm.of_below hb4
  have H4 : Hid (ReadAt w g2 g3 g d b slot0 w4) := by
    have e1 := hF1.size
    have e2 := hF2.size
    have e3 := hF3.size
    have l2 := hB2.lt
    have l3 := hB3.lt
    refine ⟨hr4, fun j hj => ?_, (hB2.frm hF3 (fun h => h)).frm hF4 (fun h => h), hB3.frm hF4 (fun h => h), (((hF1.trans hF2 (fun _ _ h => h)).trans hF3 (fun _ _ h => h)).trans hF4 (fun _ _ h => h)).below (Nat.le_refl _) (fun _ h => h.elim), by omega, rfl, rfl⟩
    have h1 := hd4 j hj
    have h2 := hd40 j h1.1
    omega
  clear hr1 hr40 hr4 hd4 hd40 hb4 hg4 hF1 hF2 hF3 hF4 hB1 hB2 hB3 hg1 hg2 hg3
  go_wp2_with fail
  refine (u8_ok g d b w4 H4.out.rd (by rw [HB.out]; omega) (by rw [HB.out]; omega)).mono ?_
  rintro e w5 ⟨rfl, hr5, hf5⟩
  rw [← Hk.out]
  have H5 := hide (H4.out.read hr5 hf5)
  clear hr5 hf5 H4
  go_wp2_with fail
  refine (u16_ok g d (b.drop 1) w5 H5.out.rd (by rw [List.length_drop, HB.out]; omega) (by rw [List.length_drop, HB.out]; omega)).mono ?_
  rintro e w6 ⟨rfl, hr6, hf6⟩
  rw [← Hto.out]
  rw [List.drop_drop] at hr6
  have H6 := hide (H5.out.read hr6 hf6)
  clear hr6 hf6 H5
  obtain ⟨hfz, c0, c1, c2, c3, c4, c5, c6, c7⟩ := H6.out.cells
  have both : ∀ w7 s, ReadAt w g2 g3 g d (b.drop 3) s w7 → s.last = decide (k = 1) → s.next = (if k = 1 then 0 else to) → s.box = (if k = 1 then to else 0) → True := fun _ _ _ _ _ _ => trivial
  clear both
  by_cases hk1 : k = 1
  · subst hk1
    go_wp2_with fail
    have H7 := hide ((H6.out.set 0 (.bool true) (s' := { slot0 with last := true }) rfl rfl rfl).set 2 (.int .u16 (to : Int)) (s' := { slot0 with last := true, box := to }) rfl rfl rfl)
    have HD2 : Hid (D = ⟨true, 0, to, who, epoch, nonce, mac, lo, hi, delay⟩) := HD.out
    clear H6 hfz c0 c1 c2 c3 c4 c5 c6 c7 HD
    simp only [slot0] at H7
    refine (u64_ok g d (b.drop 3) _ H7.out.rd (by rw [List.length_drop, HB.out]; omega) (by rw [List.length_drop, HB.out]; omega)).mono ?_
    rintro e w8 ⟨rfl, hr8, hf8⟩
    rw [← Hlo.out]
    rw [List.drop_drop] at hr8
    have H8 := hide (H7.out.read hr8 hf8)
    obtain ⟨hfz, c0, c1, c2, c3, c4, c5, c6, c7⟩ := H8.out.cells
    clear hr8 hf8 H7
    go_wp2_with fail
    have H9 := hide (H8.out.set 37 (.int .u64 (lo : Int)) (slotC_slo H8.out.n16 H8.out.m16 lo) rfl rfl)
    clear H8 hfz c0 c1 c2 c3 c4 c5 c6 c7
    refine (u64_ok g d (b.drop 11) _ H9.out.rd (by rw [List.length_drop, HB.out]; omega) (by rw [List.length_drop, HB.out]; omega)).mono ?_
    rintro e w10 ⟨rfl, hr8, hf8⟩
    rw [← Hhi.out]
    rw [List.drop_drop] at hr8
    have H10 := hide (H9.out.read hr8 hf8)
    obtain ⟨hfz, c0, c1, c2, c3, c4, c5, c6, c7⟩ := H10.out.cells
    clear hr8 hf8 H9
    go_wp2_with fail
    have H11 := hide (H10.out.set 38 (.int .u64 (hi : Int)) (slotC_shi H10.out.n16 H10.out.m16 hi) rfl rfl)
    clear H10 hfz c0 c1 c2 c3 c4 c5 c6 c7
    refine (u32_ok g d (b.drop 19) _ H11.out.rd (by rw [List.length_drop, HB.out]; omega) (by rw [List.length_drop, HB.out]; omega)).mono ?_
    rintro e w12 ⟨rfl, hr8, hf8⟩
    rw [← Hdelay.out]
    rw [List.drop_drop] at hr8
    have H12 := hide (H11.out.read hr8 hf8)
    obtain ⟨hfz, c0, c1, c2, c3, c4, c5, c6, c7⟩ := H12.out.cells
    clear hr8 hf8 H11
    go_wp2_with fail
    have H13 := hide (H12.out.set 39 (.int .u32 (delay : Int)) (slotC_sdelay H12.out.n16 H12.out.m16 delay) rfl rfl)
    clear H12 hfz c0 c1 c2 c3 c4 c5 c6 c7
    refine (takeSeal_any g d (b.drop 23) _ H13.out.rd (by rw [List.length_drop, HB.out]; omega) (by rw [List.length_drop, HB.out]; omega) (fun j hj => (H13.out.d0 j hj).2.2.2)).mono ?_
    rintro e w14 ⟨rfl, hr8, hf8⟩
    simp only [List.drop_drop, Nat.reduceAdd]
    rw [← Hwho.out, ← Hepoch.out, ← Hnonce.out, ← Hmac.out]
    have H14 := hide (H13.out.read hr8 hf8)
    obtain ⟨hfz, c0, c1, c2, c3, c4, c5, c6, c7⟩ := H14.out.cells
    have H15 := hide ((H14.out.set 3 (.int .u16 (who : Int)) (s' := ⟨true, 0, to, who, 0, Z16, Z16, lo, hi, delay⟩) rfl rfl rfl).set 4 (.int .u32 (epoch : Int)) (s' := ⟨true, 0, to, who, epoch, Z16, Z16, lo, hi, delay⟩) rfl rfl rfl)
    have hNc : (cellsB nonce).length = 16 := by rw [cellsB_length]; exact HN16.out
    have hMc : (cellsB mac).length = 16 := by rw [cellsB_length]; exact HM16.out
    have HNc := hide hNc
    have HMc := hide hMc
    clear hr8 hf8 H13 H14 hNc hMc
    go_wp2_with (first
      | ((with_reducible refine wpl_storem aggN rfl (.tmp 55) (.tmp 51) rfl g3 5 (cellsB nonce) _ _ rfl rfl _ H15.out.b3 HNc.out (slotC_len16 _ H15.out.n16 H15.out.m16).1 (slotC_snonce H15.out.n16 nonce HN16.out) (cellsB_one _) ?_); intro w16 hB16 hF16; have H16 := hide (H15.out.put hF16 hB16 HN16.out rfl))
      | ((with_reducible refine wpl_storem aggM rfl (.tmp 56) (.tmp 52) rfl g3 21 (cellsB mac) _ _ rfl rfl _ H16.out.b3 HMc.out (slotC_len16 _ H16.out.n16 H16.out.m16).2 (slotC_smac H16.out.n16 H16.out.m16 mac HM16.out) (cellsB_one _) ?_); intro w17 hB17 hF17; have H17 := hide (H16.out.put hF17 hB17 HN16.out HM16.out); have hB3 : Blk w17 g3 32 (slotC D).toArray := by rw [HD2.out]; exact hB17)
      | (with_reducible refine wpl_loada (op := ⟨some 57, _, _, _, _, _⟩) aggS rfl _ rfl g3 0 rfl _ _ (slotC D) hB3 (by rw [List.drop_zero, List.take_of_length_le (by rw [HDL.out]; exact Nat.le_refl _)]) (by rw [HDL.out]; exact Nat.le_refl _) ?_)
      | ((with_reducible refine wpl_storea aggS rfl (.tmp 2) (.tmp 57) rfl g2 (slotC D) rfl rfl _ _ H17.out.b2 HDL.out slot0_len HDO.out ?_); intro w18 hB18 hF18))
    refine ret_agg aggS rfl rfl g2 _ _ rfl hB18 HDL.out ⟨rfl, ?_⟩
    exact below_frm H17.out.bel hF18 H17.out.bel.size (fun k hk => by have := H17.out.ne; omega)
  · have hk2 : ¬ (k : Int) = 1 := by omega
    go_wp2_with fail
    have H7 := hide (H6.out.set 1 (.int .u16 (to : Int)) (s' := { slot0 with next := to }) rfl rfl rfl)
    have HD2 : Hid (D = ⟨false, to, 0, who, epoch, nonce, mac, lo, hi, delay⟩) := by show _ = _; rw [HD.out]; simp only [decide_eq_false hk1, if_neg hk1]
    clear H6 hfz c0 c1 c2 c3 c4 c5 c6 c7 HD
    simp only [slot0] at H7
    refine (u64_ok g d (b.drop 3) _ H7.out.rd (by rw [List.length_drop, HB.out]; omega) (by rw [List.length_drop, HB.out]; omega)).mono ?_
    rintro e w8 ⟨rfl, hr8, hf8⟩
    rw [← Hlo.out]
    rw [List.drop_drop] at hr8
    have H8 := hide (H7.out.read hr8 hf8)
    obtain ⟨hfz, c0, c1, c2, c3, c4, c5, c6, c7⟩ := H8.out.cells
    clear hr8 hf8 H7
    go_wp2_with fail
    have H9 := hide (H8.out.set 37 (.int .u64 (lo : Int)) (slotC_slo H8.out.n16 H8.out.m16 lo) rfl rfl)
    clear H8 hfz c0 c1 c2 c3 c4 c5 c6 c7
    refine (u64_ok g d (b.drop 11) _ H9.out.rd (by rw [List.length_drop, HB.out]; omega) (by rw [List.length_drop, HB.out]; omega)).mono ?_
    rintro e w10 ⟨rfl, hr8, hf8⟩
    rw [← Hhi.out]
    rw [List.drop_drop] at hr8
    have H10 := hide (H9.out.read hr8 hf8)
    obtain ⟨hfz, c0, c1, c2, c3, c4, c5, c6, c7⟩ := H10.out.cells
    clear hr8 hf8 H9
    go_wp2_with fail
    have H11 := hide (H10.out.set 38 (.int .u64 (hi : Int)) (slotC_shi H10.out.n16 H10.out.m16 hi) rfl rfl)
    clear H10 hfz c0 c1 c2 c3 c4 c5 c6 c7
    refine (u32_ok g d (b.drop 19) _ H11.out.rd (by rw [List.length_drop, HB.out]; omega) (by rw [List.length_drop, HB.out]; omega)).mono ?_
    rintro e w12 ⟨rfl, hr8, hf8⟩
    rw [← Hdelay.out]
    rw [List.drop_drop] at hr8
    have H12 := hide (H11.out.read hr8 hf8)
    obtain ⟨hfz, c0, c1, c2, c3, c4, c5, c6, c7⟩ := H12.out.cells
    clear hr8 hf8 H11
    go_wp2_with fail
    have H13 := hide (H12.out.set 39 (.int .u32 (delay : Int)) (slotC_sdelay H12.out.n16 H12.out.m16 delay) rfl rfl)
    clear H12 hfz c0 c1 c2 c3 c4 c5 c6 c7
    refine (takeSeal_any g d (b.drop 23) _ H13.out.rd (by rw [List.length_drop, HB.out]; omega) (by rw [List.length_drop, HB.out]; omega) (fun j hj => (H13.out.d0 j hj).2.2.2)).mono ?_
    rintro e w14 ⟨rfl, hr8, hf8⟩
    simp only [List.drop_drop, Nat.reduceAdd]
    rw [← Hwho.out, ← Hepoch.out, ← Hnonce.out, ← Hmac.out]
    have H14 := hide (H13.out.read hr8 hf8)
    obtain ⟨hfz, c0, c1, c2, c3, c4, c5, c6, c7⟩ := H14.out.cells
    have H15 := hide ((H14.out.set 3 (.int .u16 (who : Int)) (s' := ⟨false, to, 0, who, 0, Z16, Z16, lo, hi, delay⟩) rfl rfl rfl).set 4 (.int .u32 (epoch : Int)) (s' := ⟨false, to, 0, who, epoch, Z16, Z16, lo, hi, delay⟩) rfl rfl rfl)
    have hNc : (cellsB nonce).length = 16 := by rw [cellsB_length]; exact HN16.out
    have hMc : (cellsB mac).length = 16 := by rw [cellsB_length]; exact HM16.out
    have HNc := hide hNc
    have HMc := hide hMc
    clear hr8 hf8 H13 H14 hNc hMc
    go_wp2_with (first
      | ((with_reducible refine wpl_storem aggN rfl (.tmp 55) (.tmp 51) rfl g3 5 (cellsB nonce) _ _ rfl rfl _ H15.out.b3 HNc.out (slotC_len16 _ H15.out.n16 H15.out.m16).1 (slotC_snonce H15.out.n16 nonce HN16.out) (cellsB_one _) ?_); intro w16 hB16 hF16; have H16 := hide (H15.out.put hF16 hB16 HN16.out rfl))
      | ((with_reducible refine wpl_storem aggM rfl (.tmp 56) (.tmp 52) rfl g3 21 (cellsB mac) _ _ rfl rfl _ H16.out.b3 HMc.out (slotC_len16 _ H16.out.n16 H16.out.m16).2 (slotC_smac H16.out.n16 H16.out.m16 mac HM16.out) (cellsB_one _) ?_); intro w17 hB17 hF17; have H17 := hide (H16.out.put hF17 hB17 HN16.out HM16.out); have hB3 : Blk w17 g3 32 (slotC D).toArray := by rw [HD2.out]; exact hB17)
      | (with_reducible refine wpl_loada (op := ⟨some 57, _, _, _, _, _⟩) aggS rfl _ rfl g3 0 rfl _ _ (slotC D) hB3 (by rw [List.drop_zero, List.take_of_length_le (by rw [HDL.out]; exact Nat.le_refl _)]) (by rw [HDL.out]; exact Nat.le_refl _) ?_)
      | ((with_reducible refine wpl_storea aggS rfl (.tmp 2) (.tmp 57) rfl g2 (slotC D) rfl rfl _ _ H17.out.b2 HDL.out slot0_len HDO.out ?_); intro w18 hB18 hF18))
    refine ret_agg aggS rfl rfl g2 _ _ rfl hB18 HDL.out ⟨rfl, ?_⟩
    exact below_frm H17.out.bel hF18 H17.out.bel.size (fun k hk => by have := H17.out.ne; omega)
end Go.Proofs.Ytedodbejbkdplaa
