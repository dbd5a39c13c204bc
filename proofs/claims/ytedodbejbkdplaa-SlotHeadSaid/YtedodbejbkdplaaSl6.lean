/-
  A slot's bytes, written.
-/
import Derived.Test.YtedodbejbkdplaaSl5
namespace Go.Proofs.Ytedodbejbkdplaa
set_option linter.unusedVariables false
set_option linter.unusedSimpArgs false
open Go.RowKit

/-- Two results, the first in a variable. -/
theorem results_ct {ty : TypeId} {n : Nat} (hA : Agg Try.prog ty n) {fn : Func} {p u : Tmp} (h : fn.results = #[.cell p ty, .tmp u]) (tmps : Array Value) (w : World) (g : Nat) (t : TypeId) (cs : List Value) (hp : tmps.getD p undef = .pointer (some ⟨g, 0, none⟩)) (hb : Blk w g t cs.toArray) (hn : cs.length = n) :
    (results fn tmps).run Try.prog w = .ok (.tuple #[.agg cs.toArray, tmps.getD u undef]) w := by
  have hl := run_load_agg hA w g 0 _ cs cs hb (by rw [List.drop_zero, List.take_of_length_le (by omega)]) (by omega)
  rw [results_cell_tmp h, hp]
  simp only [asAddr, Sem.run_pure, Result.andThen_ok, hl]
/-- What Encode tells. -/
def outM (s : Slot) : List UInt8 := if rightB s = true then encM s else zeros 64
theorem outM_length {s : Slot} (h : s.ok) : (outM s).length = 64 := by
  unfold outM
  split
  · exact encM_length h
  · exact zeros_length _
theorem build_64 (w : World) : Sem.run Try.prog (Instr.build 33 #[]) w = .ok (.agg (cellsB (zeros 64)).toArray) w := run_build w _ _ _ (by kernel_rfl)
theorem kfacts (a b c : Nat) : IntKind.u8.wrap 0 = 0 := rfl

set_option maxHeartbeats 8000000 in
set_option maxRecDepth 100000 in
theorem encode_any (s : Slot) (hs : s.ok) (w : World) : Calls Try.prog 15 #[.agg (slotC s).toArray] w fun e w' => e = .returned (.tuple #[.agg (cellsB (outM s)).toArray, .int .i64 (errR s)]) ∧ Below w.heap.size w w' := by
  have HL := hide (slotC_length s hs.nonce hs.mac)
  have HT : Hid (((slotC s).drop 0).take 40 = slotC s) := by show _ = _; rw [List.drop_zero, List.take_of_length_le]; rw [HL.out]; exact Nat.le_refl _
  have HTN := hide (slotC_nonce hs.nonce)
  have HTM := hide (slotC_mac hs.nonce hs.mac)
  have HS := hide hs
  have HRT := hide (right_any s hs)
  have HOUT : Hid (outM s = if rightB s = true then encM s else zeros 64) := rfl
  have HER : Hid (errR s = if rightB s = true then 0 else 1) := rfl
  have HENC : Hid (encM s = be 1 (if s.last = true then 1 else 0) ++ be 2 (if s.last = true then s.box else s.next) ++ be 8 s.lo ++ be 8 s.hi ++ be 4 s.delay ++ be 2 s.who ++ be 4 s.epoch ++ s.nonce ++ s.mac ++ List.replicate 3 0) := rfl
  have HEL := hide (encM_length hs)
  obtain ⟨last, next, box, who, epoch, nonce, mac, lo, hi, delay⟩ := s
  have b1 := hs.next
  have b2 := hs.box
  have b3 := hs.who
  have b4 := hs.epoch
  have b5 := hs.lo
  have b6 := hs.hi
  have b7 := hs.delay
  have HN16 := hide hs.nonce
  have HM16 := hide hs.mac
  simp only at b1 b2 b3 b4 b5 b6 b7 HN16 HM16 HENC HTN HTM
  generalize hC : slotC ⟨last, next, box, who, epoch, nonce, mac, lo, hi, delay⟩ = C at *
  have HC := hide hC
  generalize outM ⟨last, next, box, who, epoch, nonce, mac, lo, hi, delay⟩ = OUT at *
  generalize errR ⟨last, next, box, who, epoch, nonce, mac, lo, hi, delay⟩ = ERR at *
  generalize rightB ⟨last, next, box, who, epoch, nonce, mac, lo, hi, delay⟩ = R at *
  generalize encM ⟨last, next, box, who, epoch, nonce, mac, lo, hi, delay⟩ = ENC at *
  have HCELLS : Hid (∀ (W : World) (g : Nat), Blk W g 32 C.toArray → W.cell? ⟨g, 0, none⟩ = some (.bool last) ∧ W.cell? ⟨g, 1, none⟩ = some (.int .u16 (next : Int)) ∧ W.cell? ⟨g, 2, none⟩ = some (.int .u16 (box : Int)) ∧ W.cell? ⟨g, 3, none⟩ = some (.int .u16 (who : Int)) ∧ W.cell? ⟨g, 4, none⟩ = some (.int .u32 (epoch : Int)) ∧
    W.cell? ⟨g, 37, none⟩ = some (.int .u64 (lo : Int)) ∧ W.cell? ⟨g, 38, none⟩ = some (.int .u64 (hi : Int)) ∧ W.cell? ⟨g, 39, none⟩ = some (.int .u32 (delay : Int))) := by
    intro W g h
    rw [← hC] at h
    exact h.slot HS.out
  clear hC hs
  have harr := fun (g c : Nat) (w : World) => run_arr under64b (some ⟨g, 0, none⟩) 64 c (Nat.le_refl _) w
  go_enter Try.func15, Try.ntmps15
  go_wp2_with (first
    | ((with_reducible refine wpl_boxa (op := ⟨some 1, _, _, _, _, _⟩) rfl _ _ rfl C rfl ?_); intro g1 w1 hB1 hg1 hF1)
    | ((with_reducible refine wpl_alloca (op := ⟨some 2, _, _, _, _, _⟩) rfl _ rfl _ zero64 ?_); intro g2 w2 hB2 hg2 hF2; have hB12 := hB1.frm hF2 (fun h => h))
    | (with_reducible refine wpl_loada (op := ⟨some 8, _, _, _, _, _⟩) aggS rfl _ rfl g1 0 rfl _ _ C hB12 HT.out (by rw [HL.out]; exact Nat.le_refl _) ?_))
  refine (HRT.out w2).mono ?_
  rintro e w3 ⟨rfl, hb3⟩
  have hF3 : Frm (fun _ => False) w2 w3 := Frm.of_below hb3
  have hB13 := hB12.frm hF3 (fun h => h)
  have hB23 := hB2.frm hF3 (fun h => h)
  have HF03 := hide ((hF1.trans hF2 (fun _ _ h => h)).trans hF3 (fun _ _ h => h))
  have HG12 : Hid (g1 < w3.heap.size ∧ g2 < w3.heap.size ∧ w.heap.size ≤ g1 ∧ w.heap.size ≤ g2 ∧ g1 ≠ g2) := ⟨hB13.lt, hB23.lt, hg1, by have := hF1.size; omega, by have := hB1.lt; omega⟩
  clear HRT hb3 hF1 hF2 hF3 hg1 hg2 hB1 hB12 hB2
  rcases hR : R with _ | _
  · have he1 : ERR = 1 := by rw [HER.out, hR]; rfl
    have ho1 : OUT = zeros 64 := by rw [HOUT.out, hR]; rfl
    have HZL : Hid ((cellsB OUT).length = 64) := by show _ = _; rw [ho1, cellsB_length, zeros_length]
    have hbd := build_64
    rw [← ho1] at hbd
    have HO1 := hide ho1
    subst he1
    clear ho1 HER HOUT HENC HEL hR
    go_wp2_with (first
      | (refine wpl_held (op := ⟨some 12, _, _, _, _, _⟩) (.agg (cellsB OUT).toArray) (held_build _ _ rfl _ _ (hbd _) rfl) rfl ?_)
      | ((with_reducible refine wpl_storea agg64b rfl (.tmp 2) (.tmp 12) rfl g2 (cellsB OUT) rfl rfl _ _ hB23 HZL.out z64_len (cellsB_one _) ?_); intro w4 hB4 hF4))
    refine bodyPost_ret (results_ct agg64b rfl _ _ g2 _ _ rfl hB4 HZL.out) rfl ⟨rfl, ?_⟩
    exact below_frm (HF03.out.below (Nat.le_refl _) (fun _ h => h.elim)) hF4 HF03.out.size (fun k hk => by have := HG12.out; omega)
  · have he1 : ERR = 0 := by rw [HER.out, hR]; rfl
    have ho1 : OUT = ENC := by rw [HOUT.out, hR]; rfl
    have HZL : Hid ((cellsB OUT).length = 64) := by show _ = _; rw [ho1, cellsB_length, HEL.out]
    have HO1 := hide ho1
    subst he1
    clear ho1 HER HOUT HEL hR
    obtain ⟨c0, c1, c2, c3, c4, c5, c6, c7⟩ := HCELLS.out w3 g1 hB13
    rcases hlast : last with _ | _
    · rw [hlast] at c0 HENC
      have HEN : Hid (ENC = be 1 0 ++ be 2 next ++ be 8 lo ++ be 8 hi ++ be 4 delay ++ be 2 who ++ be 4 epoch ++ nonce ++ mac ++ List.replicate 3 0) := HENC.out
      clear HENC hlast
      go_wp2_with fail
      go_quiet (fail)
      go_wp2_with ((with_reducible refine wpl_alloca (op := ⟨some 7, _, _, _, _, _⟩) rfl _ rfl _ zeroW ?_); intro g7 w4 hB7 hg7 hF4)
      have hF05 : Frm (fun _ => False) w3 w4.drew := by first | exact ((((Frm.refl _ _).drewN _).trans hF4 (fun _ _ h => h)).drew) | exact (((((Frm.refl _ _).drewN _).drewN _).trans hF4 (fun _ _ h => h)).drew)
      have hB15 : Blk w4.drew g1 32 C.toArray := hB13.frm hF05 (fun h => h)
      have hB25 : Blk w4.drew g2 33 (cellsB (zeros 64)).toArray := hB23.frm hF05 (fun h => h)
      have hW5 : Wr w4.drew g7 none [] := ⟨.slice none 0 0, hB7, ⟨rfl, .inl ⟨rfl, rfl⟩⟩, .inl rfl⟩
      have hP0 := hide (Put.refl hW5)
      have HG7 : Hid (g1 ≠ g7 ∧ g2 ≠ g7 ∧ w.heap.size ≤ g7) := by have h1 := HG12.out; have h2 : w3.heap.size ≤ g7 := hg7; have := HF03.out.size; exact ⟨by omega, by omega, by omega⟩
      have HKEEP : Hid (∀ (W : World) (l : List UInt8), Put g7 none l w4.drew W → W.cell? ⟨g1, 37, none⟩ = some (.int .u64 (lo : Int)) ∧ W.cell? ⟨g1, 38, none⟩ = some (.int .u64 (hi : Int)) ∧ W.cell? ⟨g1, 39, none⟩ = some (.int .u32 (delay : Int))) := by
        intro W l h
        exact (HCELLS.out W g1 (h.keep hB15 HG7.out.1 (fun j hj => by cases hj))).2.2.2.2.2
      have hk0 := HKEEP.out _ _ hP0.out
      have HF5 := hide (HF03.out.trans hF05 (fun _ _ h => h))
      have HB15 := hide hB15
      have HB25 := hide hB25
      clear hF05 hF4 hg7 hB7 hB13 hB23 c0 c1 c2 c3 c4 c5 c6 c7 hW5 hB15 hB25 HF03
      generalize hw5 : w4.drew = w5 at *
      refine wp_region_held_drew (S := fun W => W.cell? ⟨g1, 37, none⟩ = some (.int .u64 (lo : Int)) ∧ W.cell? ⟨g1, 38, none⟩ = some (.int .u64 (hi : Int)) ∧ W.cell? ⟨g1, 39, none⟩ = some (.int .u32 (delay : Int))) (by kernel_rfl) (by rw [hw5]; exact hk0) ?_
      rw [hw5]
      clear hw5
      intro hHeld
      refine wpAnyH_take (i := 0) (v := ?v1) rfl (by kernel_rfl) (by kernel_rfl) (by kernel_rfl) (fun _ _ _ h => h) (Or.inl ⟨by rfl, ?hy1⟩) (by assumption) ?rest1
      case hy1 => (intro w hSw; obtain ⟨s5, s6, s7⟩ := hSw; (try go_simp); try with_reducible rfl)
      try simp only [Act.put, List.getElem_toArray, List.getElem_cons_zero, List.getElem_cons_succ, List.setIfInBounds_toArray, List.set_cons_zero, List.set_cons_succ]
      refine wpAnyH_take (i := 2) (v := ?v2) rfl (by kernel_rfl) (by kernel_rfl) (by kernel_rfl) (fun _ _ _ h => h) (Or.inl ⟨by rfl, ?hy2⟩) (by assumption) ?rest2
      case hy2 => (intro w hSw; obtain ⟨s5, s6, s7⟩ := hSw; (try go_simp); try with_reducible rfl)
      try simp only [Act.put, List.getElem_toArray, List.getElem_cons_zero, List.getElem_cons_succ, List.setIfInBounds_toArray, List.set_cons_zero, List.set_cons_succ]
      refine wpAnyH_take (i := 4) (v := ?v3) rfl (by kernel_rfl) (by kernel_rfl) (by kernel_rfl) (fun _ _ _ h => h) (Or.inl ⟨by rfl, ?hy3⟩) (by assumption) ?rest3
      case hy3 => (intro w hSw; obtain ⟨s5, s6, s7⟩ := hSw; (try go_simp); try with_reducible rfl)
      try simp only [Act.put, List.getElem_toArray, List.getElem_cons_zero, List.getElem_cons_succ, List.setIfInBounds_toArray, List.set_cons_zero, List.set_cons_succ]
      refine wpAnyH_take (i := 5) (v := ?v4) rfl (by kernel_rfl) (by kernel_rfl) (by kernel_rfl) (fun _ _ _ h => h) (Or.inl ⟨by rfl, ?hy4⟩) (by assumption) ?rest4
      case hy4 => (intro w hSw; obtain ⟨s5, s6, s7⟩ := hSw; (try go_simp); try with_reducible rfl)
      try simp only [Act.put, List.getElem_toArray, List.getElem_cons_zero, List.getElem_cons_succ, List.setIfInBounds_toArray, List.set_cons_zero, List.set_cons_succ]
      refine wpAnyH_take (i := 7) (v := ?v5) rfl (by kernel_rfl) (by kernel_rfl) (by kernel_rfl) (fun _ _ _ h => h) (Or.inl ⟨by rfl, ?hy5⟩) (by assumption) ?rest5
      case hy5 => (intro w hSw; obtain ⟨s5, s6, s7⟩ := hSw; (try go_simp); try with_reducible rfl)
      try simp only [Act.put, List.getElem_toArray, List.getElem_cons_zero, List.getElem_cons_succ, List.setIfInBounds_toArray, List.set_cons_zero, List.set_cons_succ]
      refine wpAnyH_take (i := 8) (v := ?v6) rfl (by kernel_rfl) (by kernel_rfl) (by kernel_rfl) (fun _ _ _ h => h) (Or.inl ⟨by rfl, ?hy6⟩) (by assumption) ?rest6
      case hy6 => (intro w hSw; obtain ⟨s5, s6, s7⟩ := hSw; (try go_simp); try with_reducible rfl)
      try simp only [Act.put, List.getElem_toArray, List.getElem_cons_zero, List.getElem_cons_succ, List.setIfInBounds_toArray, List.set_cons_zero, List.set_cons_succ]
      refine wpAnyH_take (i := 10) (v := ?v7) rfl (by kernel_rfl) (by kernel_rfl) (by kernel_rfl) (fun _ _ _ h => h) (Or.inl ⟨by rfl, ?hy7⟩) (by assumption) ?rest7
      case hy7 => (intro w hSw; obtain ⟨s5, s6, s7⟩ := hSw; (try go_simp); try with_reducible rfl)
      try simp only [Act.put, List.getElem_toArray, List.getElem_cons_zero, List.getElem_cons_succ, List.setIfInBounds_toArray, List.set_cons_zero, List.set_cons_succ]
      refine wpAnyH_take (i := 11) (v := ?v8) rfl (by kernel_rfl) (by kernel_rfl) (by kernel_rfl) (fun _ _ _ h => h) (Or.inl ⟨by rfl, ?hy8⟩) (by assumption) ?rest8
      case hy8 => (intro w hSw; obtain ⟨s5, s6, s7⟩ := hSw; (try go_simp); try with_reducible rfl)
      try simp only [Act.put, List.getElem_toArray, List.getElem_cons_zero, List.getElem_cons_succ, List.setIfInBounds_toArray, List.set_cons_zero, List.set_cons_succ]
      refine wpAnyH_ready (rs := [1]) (by kernel_rfl) (by simp) ?_
      refine AllReadyH.cons rfl (fun K hK => ?_) AllReadyH.nil
      go_simp
      obtain ⟨d0, hw0, hd0, hf0⟩ := hP0.out
      refine (wu8_any g7 d0 ([]) _ _ hw0 (by (try simp only [List.length_append, be_length, List.length_nil]); omega) (by omega) (by omega)).mono ?_
      rintro e v1 ⟨rfl, hp0⟩
      try rw [Int.toNat_natCast] at hp0
      try rw [show Int.toNat 0 = 0 from rfl] at hp0
      have hP1 := hide (Put.step hd0 hf0 hp0)
      have hk1 := HKEEP.out v1 _ hP1.out
      clear hw0 hd0 hf0 hp0
      refine hK.out _ _ (hk1) (fun hHeld => ?_)
      clear hK K
      refine wpAnyH_ready (rs := [3]) (by kernel_rfl) (by simp) ?_
      refine AllReadyH.cons rfl (fun K hK => ?_) AllReadyH.nil
      go_simp
      obtain ⟨d1, hw1, hd1, hf1⟩ := hP1.out
      refine (wu16_any g7 d1 ([] ++ be 1 0) _ _ hw1 (by (try simp only [List.length_append, be_length, List.length_nil]); omega) (by omega) (by omega)).mono ?_
      rintro e v2 ⟨rfl, hp1⟩
      try rw [Int.toNat_natCast] at hp1
      try rw [show Int.toNat 0 = 0 from rfl] at hp1
      have hP2 := hide (Put.step hd1 hf1 hp1)
      have hk2 := HKEEP.out v2 _ hP2.out
      clear hw1 hd1 hf1 hp1
      refine hK.out _ _ (hk2) (fun hHeld => ?_)
      clear hK K
      refine wpAnyH_ready (rs := [6]) (by kernel_rfl) (by simp) ?_
      refine AllReadyH.cons rfl (fun K hK => ?_) AllReadyH.nil
      go_simp
      obtain ⟨d2, hw2, hd2, hf2⟩ := hP2.out
      refine (wu64_any g7 d2 (([] ++ be 1 0) ++ be 2 next) _ _ hw2 (by (try simp only [List.length_append, be_length, List.length_nil]); omega) (by omega) (by omega)).mono ?_
      rintro e v3 ⟨rfl, hp2⟩
      try rw [Int.toNat_natCast] at hp2
      try rw [show Int.toNat 0 = 0 from rfl] at hp2
      have hP3 := hide (Put.step hd2 hf2 hp2)
      have hk3 := HKEEP.out v3 _ hP3.out
      clear hw2 hd2 hf2 hp2
      refine hK.out _ _ (hk3) (fun hHeld => ?_)
      clear hK K
      refine wpAnyH_ready (rs := [9]) (by kernel_rfl) (by simp) ?_
      refine AllReadyH.cons rfl (fun K hK => ?_) AllReadyH.nil
      go_simp
      obtain ⟨d3, hw3, hd3, hf3⟩ := hP3.out
      refine (wu64_any g7 d3 ((([] ++ be 1 0) ++ be 2 next) ++ be 8 lo) _ _ hw3 (by (try simp only [List.length_append, be_length, List.length_nil]); omega) (by omega) (by omega)).mono ?_
      rintro e v4 ⟨rfl, hp3⟩
      try rw [Int.toNat_natCast] at hp3
      try rw [show Int.toNat 0 = 0 from rfl] at hp3
      have hP4 := hide (Put.step hd3 hf3 hp3)
      have hk4 := HKEEP.out v4 _ hP4.out
      clear hw3 hd3 hf3 hp3
      refine hK.out _ _ (hk4) (fun hHeld => ?_)
      clear hK K
      refine wpAnyH_ready (rs := [12]) (by kernel_rfl) (by simp) ?_
      refine AllReadyH.cons rfl (fun K hK => ?_) AllReadyH.nil
      go_simp
      obtain ⟨d4, hw4, hd4, hf4⟩ := hP4.out
      refine (wu32_any g7 d4 (((([] ++ be 1 0) ++ be 2 next) ++ be 8 lo) ++ be 8 hi) _ _ hw4 (by (try simp only [List.length_append, be_length, List.length_nil]); omega) (by omega) (by omega)).mono ?_
      rintro e v5 ⟨rfl, hp4⟩
      try rw [Int.toNat_natCast] at hp4
      try rw [show Int.toNat 0 = 0 from rfl] at hp4
      have hP5 := hide (Put.step hd4 hf4 hp4)
      have hk5 := HKEEP.out v5 _ hP5.out
      clear hw4 hd4 hf4 hp4
      refine hK.out _ _ (hk5) (fun hHeld => ?_)
      clear hK K
      refine wpAnyH_done (by kernel_rfl) ?_ _
      have hB16 := hP5.out.keep HB15.out HG7.out.1 (fun j hj => by cases hj)
      obtain ⟨c0, c1, c2, c3, c4, c5, c6, c7⟩ := HCELLS.out v5 g1 hB16
      obtain ⟨d5, hw5a, hd5a, hf5⟩ := hP5.out
      obtain ⟨d5b, hw5b, hd5b⟩ := wr_norm hw5a
      have hd5 : d5b = none ∨ ∃ j, d5b = some j ∧ w5.heap.size ≤ j := by
        rcases d5b with _ | j
        · exact .inl rfl
        · obtain ⟨h1, _⟩ := hd5b j rfl
          rcases hd5a with h2 | ⟨i, h2, h3⟩
          · rw [h2] at h1; cases h1
          · rw [h2] at h1; injection h1 with h1; exact .inr ⟨j, rfl, by omega⟩
      clear hHeld hk0 hk1 hk2 hk3 hk4 hk5 hP0 hP1 hP2 hP3 hP4 hw5a hd5a HKEEP
      go_wp2_with (first
        | (with_reducible refine wpl_loada (op := ⟨some 38, _, _, _, _, _⟩) aggN rfl _ rfl g1 5 rfl _ _ (cellsB nonce) hB16 HTN.out (by rw [HL.out]; decide) ?_)
        | (with_reducible refine wpl_loada (op := ⟨some 40, _, _, _, _, _⟩) aggM rfl _ rfl g1 21 rfl _ _ (cellsB mac) hB16 HTM.out (by rw [HL.out]; decide) ?_))
      refine (putSeal_any g7 d5b ((((([] ++ be 1 0) ++ be 2 next) ++ be 8 lo) ++ be 8 hi) ++ be 4 delay) who epoch nonce mac v5 hw5b (fun j hj => (hd5b j hj).2) (by (try simp only [List.length_append, be_length, List.length_nil]); omega) b3 b4 HN16.out HM16.out).mono ?_
      rintro e v6 ⟨rfl, hp6⟩
      have hP6 := hide (Put.step hd5 hf5 hp6)
      clear hp6 hw5b hd5b hd5 hf5 hP5 hB16 c0 c1 c2 c3 c4 c5 c6 c7
      obtain ⟨d6, hw6, hd6, hf6⟩ := hP6.out
      have HLEN6 : Hid (((((([] ++ be 1 0) ++ be 2 next) ++ be 8 lo) ++ be 8 hi) ++ be 4 delay ++ be 2 who ++ be 4 epoch ++ nonce ++ mac).length = 61) := by show _ = _; simp only [List.length_append, be_length, List.length_nil]; rw [HN16.out, HM16.out]
      go_wp2_with fail
      refine (wzeros_some g7 d6 _ 3 v6 hw6 (by rw [HLEN6.out]; omega) (by omega) (by omega)).mono ?_
      rintro e v7 ⟨rfl, hp7⟩
      rw [show Int.toNat 3 = 3 from rfl] at hp7
      have hP7 := hide (Put.step hd6 hf6 hp7)
      have hE : (((([] ++ be 1 0) ++ be 2 next) ++ be 8 lo) ++ be 8 hi) ++ be 4 delay ++ be 2 who ++ be 4 epoch ++ nonce ++ mac ++ List.replicate 3 0 = OUT := by rw [HO1.out, HEN.out]; simp only [List.nil_append]
      rw [hE] at hP7
      have HOL : Hid (OUT.length = 64) := by have := HZL.out; rwa [cellsB_length] at this
      clear hp7 hw6 hd6 hf6 hP6 hE
      obtain ⟨d7, hw7, hd7, hf7⟩ := hP7.out
      go_wp2_with fail
      refine (wdone_any g7 d7 OUT v7 hw7 (by rw [HOL.out]; omega)).mono ?_
      rintro e v8 ⟨A8, c8, rfl, ho8, hb8⟩
      rw [HZL.out] at ho8 ⊢
      obtain ⟨gb, cb, rfl, hgb, hbb, hsb, htb, hcb⟩ := own_block ho8 (by omega)
      have hF8 : Frm (fun _ => False) v7 v8 := Frm.of_below hb8
      have hB28 := (hP7.out.keep HB25.out HG7.out.2.1 (fun j hj => by cases hj)).frm hF8 (fun h => h)
      rw [← Array.toArray_toList (xs := cb)] at hbb
      have hlb : 64 ≤ cb.toList.length := by rw [Array.length_toList]; exact hsb
      have HBL : Hid (Below w.heap.size w v8) := by
        have h1 : Below w.heap.size w w5 := HF5.out.below (Nat.le_refl _) (fun _ h => h.elim)
        have h2 := below_frm h1 hf7 h1.size (fun k hk => by rcases hk with rfl | hk; exact HG7.out.2.2; cases hk)
        exact below_frm h2 hF8 h2.size (fun _ h => h.elim)
      have HTB : Hid ((cb.toList.drop 0).take 64 = cellsB OUT) := by show _ = _; rw [List.drop_zero]; exact htb
      clear ho8 hgb hsb htb hF8 hb8 hw7 hd7 hf7
      go_wp2_with (first
        | (with_reducible refine wpl_loada (op := ⟨some 45, _, _, _, _, _⟩) agg64b rfl _ rfl gb 0 rfl _ _ (cellsB OUT) hbb HTB.out (by omega) ?_)
        | ((with_reducible refine wpl_storea agg64b rfl (.tmp 2) (.tmp 45) rfl g2 (cellsB OUT) rfl rfl _ _ hB28 HZL.out z64_len (cellsB_one _) ?_); intro v9 hB9 hF9))
      refine bodyPost_ret (results_ct agg64b rfl _ _ g2 _ _ rfl hB9 HZL.out) rfl ⟨rfl, ?_⟩
      exact below_frm HBL.out hF9 HBL.out.size (fun k hk => by have := HG12.out; omega)

    · rw [hlast] at c0 HENC
      have HEN : Hid (ENC = be 1 1 ++ be 2 box ++ be 8 lo ++ be 8 hi ++ be 4 delay ++ be 2 who ++ be 4 epoch ++ nonce ++ mac ++ List.replicate 3 0) := HENC.out
      clear HENC hlast
      go_wp2_with fail
      go_quiet (fail)
      go_wp2_with fail
      go_quiet (fail)
      go_wp2_with ((with_reducible refine wpl_alloca (op := ⟨some 7, _, _, _, _, _⟩) rfl _ rfl _ zeroW ?_); intro g7 w4 hB7 hg7 hF4)
      have hF05 : Frm (fun _ => False) w3 w4.drew := by first | exact ((((Frm.refl _ _).drewN _).trans hF4 (fun _ _ h => h)).drew) | exact (((((Frm.refl _ _).drewN _).drewN _).trans hF4 (fun _ _ h => h)).drew)
      have hB15 : Blk w4.drew g1 32 C.toArray := hB13.frm hF05 (fun h => h)
      have hB25 : Blk w4.drew g2 33 (cellsB (zeros 64)).toArray := hB23.frm hF05 (fun h => h)
      have hW5 : Wr w4.drew g7 none [] := ⟨.slice none 0 0, hB7, ⟨rfl, .inl ⟨rfl, rfl⟩⟩, .inl rfl⟩
      have hP0 := hide (Put.refl hW5)
      have HG7 : Hid (g1 ≠ g7 ∧ g2 ≠ g7 ∧ w.heap.size ≤ g7) := by have h1 := HG12.out; have h2 : w3.heap.size ≤ g7 := hg7; have := HF03.out.size; exact ⟨by omega, by omega, by omega⟩
      have HKEEP : Hid (∀ (W : World) (l : List UInt8), Put g7 none l w4.drew W → W.cell? ⟨g1, 37, none⟩ = some (.int .u64 (lo : Int)) ∧ W.cell? ⟨g1, 38, none⟩ = some (.int .u64 (hi : Int)) ∧ W.cell? ⟨g1, 39, none⟩ = some (.int .u32 (delay : Int))) := by
        intro W l h
        exact (HCELLS.out W g1 (h.keep hB15 HG7.out.1 (fun j hj => by cases hj))).2.2.2.2.2
      have hk0 := HKEEP.out _ _ hP0.out
      have HF5 := hide (HF03.out.trans hF05 (fun _ _ h => h))
      have HB15 := hide hB15
      have HB25 := hide hB25
      clear hF05 hF4 hg7 hB7 hB13 hB23 c0 c1 c2 c3 c4 c5 c6 c7 hW5 hB15 hB25 HF03
      generalize hw5 : w4.drew = w5 at *
      refine wp_region_held_drew (S := fun W => W.cell? ⟨g1, 37, none⟩ = some (.int .u64 (lo : Int)) ∧ W.cell? ⟨g1, 38, none⟩ = some (.int .u64 (hi : Int)) ∧ W.cell? ⟨g1, 39, none⟩ = some (.int .u32 (delay : Int))) (by kernel_rfl) (by rw [hw5]; exact hk0) ?_
      rw [hw5]
      clear hw5
      intro hHeld
      refine wpAnyH_take (i := 0) (v := ?v9) rfl (by kernel_rfl) (by kernel_rfl) (by kernel_rfl) (fun _ _ _ h => h) (Or.inl ⟨by rfl, ?hy9⟩) (by assumption) ?rest9
      case hy9 => (intro w hSw; obtain ⟨s5, s6, s7⟩ := hSw; (try go_simp); try with_reducible rfl)
      try simp only [Act.put, List.getElem_toArray, List.getElem_cons_zero, List.getElem_cons_succ, List.setIfInBounds_toArray, List.set_cons_zero, List.set_cons_succ]
      refine wpAnyH_take (i := 2) (v := ?v10) rfl (by kernel_rfl) (by kernel_rfl) (by kernel_rfl) (fun _ _ _ h => h) (Or.inl ⟨by rfl, ?hy10⟩) (by assumption) ?rest10
      case hy10 => (intro w hSw; obtain ⟨s5, s6, s7⟩ := hSw; (try go_simp); try with_reducible rfl)
      try simp only [Act.put, List.getElem_toArray, List.getElem_cons_zero, List.getElem_cons_succ, List.setIfInBounds_toArray, List.set_cons_zero, List.set_cons_succ]
      refine wpAnyH_take (i := 4) (v := ?v11) rfl (by kernel_rfl) (by kernel_rfl) (by kernel_rfl) (fun _ _ _ h => h) (Or.inl ⟨by rfl, ?hy11⟩) (by assumption) ?rest11
      case hy11 => (intro w hSw; obtain ⟨s5, s6, s7⟩ := hSw; (try go_simp); try with_reducible rfl)
      try simp only [Act.put, List.getElem_toArray, List.getElem_cons_zero, List.getElem_cons_succ, List.setIfInBounds_toArray, List.set_cons_zero, List.set_cons_succ]
      refine wpAnyH_take (i := 5) (v := ?v12) rfl (by kernel_rfl) (by kernel_rfl) (by kernel_rfl) (fun _ _ _ h => h) (Or.inl ⟨by rfl, ?hy12⟩) (by assumption) ?rest12
      case hy12 => (intro w hSw; obtain ⟨s5, s6, s7⟩ := hSw; (try go_simp); try with_reducible rfl)
      try simp only [Act.put, List.getElem_toArray, List.getElem_cons_zero, List.getElem_cons_succ, List.setIfInBounds_toArray, List.set_cons_zero, List.set_cons_succ]
      refine wpAnyH_take (i := 7) (v := ?v13) rfl (by kernel_rfl) (by kernel_rfl) (by kernel_rfl) (fun _ _ _ h => h) (Or.inl ⟨by rfl, ?hy13⟩) (by assumption) ?rest13
      case hy13 => (intro w hSw; obtain ⟨s5, s6, s7⟩ := hSw; (try go_simp); try with_reducible rfl)
      try simp only [Act.put, List.getElem_toArray, List.getElem_cons_zero, List.getElem_cons_succ, List.setIfInBounds_toArray, List.set_cons_zero, List.set_cons_succ]
      refine wpAnyH_take (i := 8) (v := ?v14) rfl (by kernel_rfl) (by kernel_rfl) (by kernel_rfl) (fun _ _ _ h => h) (Or.inl ⟨by rfl, ?hy14⟩) (by assumption) ?rest14
      case hy14 => (intro w hSw; obtain ⟨s5, s6, s7⟩ := hSw; (try go_simp); try with_reducible rfl)
      try simp only [Act.put, List.getElem_toArray, List.getElem_cons_zero, List.getElem_cons_succ, List.setIfInBounds_toArray, List.set_cons_zero, List.set_cons_succ]
      refine wpAnyH_take (i := 10) (v := ?v15) rfl (by kernel_rfl) (by kernel_rfl) (by kernel_rfl) (fun _ _ _ h => h) (Or.inl ⟨by rfl, ?hy15⟩) (by assumption) ?rest15
      case hy15 => (intro w hSw; obtain ⟨s5, s6, s7⟩ := hSw; (try go_simp); try with_reducible rfl)
      try simp only [Act.put, List.getElem_toArray, List.getElem_cons_zero, List.getElem_cons_succ, List.setIfInBounds_toArray, List.set_cons_zero, List.set_cons_succ]
      refine wpAnyH_take (i := 11) (v := ?v16) rfl (by kernel_rfl) (by kernel_rfl) (by kernel_rfl) (fun _ _ _ h => h) (Or.inl ⟨by rfl, ?hy16⟩) (by assumption) ?rest16
      case hy16 => (intro w hSw; obtain ⟨s5, s6, s7⟩ := hSw; (try go_simp); try with_reducible rfl)
      try simp only [Act.put, List.getElem_toArray, List.getElem_cons_zero, List.getElem_cons_succ, List.setIfInBounds_toArray, List.set_cons_zero, List.set_cons_succ]
      refine wpAnyH_ready (rs := [1]) (by kernel_rfl) (by simp) ?_
      refine AllReadyH.cons rfl (fun K hK => ?_) AllReadyH.nil
      go_simp
      obtain ⟨d0, hw0, hd0, hf0⟩ := hP0.out
      refine (wu8_any g7 d0 ([]) _ _ hw0 (by (try simp only [List.length_append, be_length, List.length_nil]); omega) (by omega) (by omega)).mono ?_
      rintro e v1 ⟨rfl, hp0⟩
      try rw [Int.toNat_natCast] at hp0
      try rw [show Int.toNat 1 = 1 from rfl] at hp0
      have hP1 := hide (Put.step hd0 hf0 hp0)
      have hk1 := HKEEP.out v1 _ hP1.out
      clear hw0 hd0 hf0 hp0
      refine hK.out _ _ (hk1) (fun hHeld => ?_)
      clear hK K
      refine wpAnyH_ready (rs := [3]) (by kernel_rfl) (by simp) ?_
      refine AllReadyH.cons rfl (fun K hK => ?_) AllReadyH.nil
      go_simp
      obtain ⟨d1, hw1, hd1, hf1⟩ := hP1.out
      refine (wu16_any g7 d1 ([] ++ be 1 1) _ _ hw1 (by (try simp only [List.length_append, be_length, List.length_nil]); omega) (by omega) (by omega)).mono ?_
      rintro e v2 ⟨rfl, hp1⟩
      try rw [Int.toNat_natCast] at hp1
      try rw [show Int.toNat 1 = 1 from rfl] at hp1
      have hP2 := hide (Put.step hd1 hf1 hp1)
      have hk2 := HKEEP.out v2 _ hP2.out
      clear hw1 hd1 hf1 hp1
      refine hK.out _ _ (hk2) (fun hHeld => ?_)
      clear hK K
      refine wpAnyH_ready (rs := [6]) (by kernel_rfl) (by simp) ?_
      refine AllReadyH.cons rfl (fun K hK => ?_) AllReadyH.nil
      go_simp
      obtain ⟨d2, hw2, hd2, hf2⟩ := hP2.out
      refine (wu64_any g7 d2 (([] ++ be 1 1) ++ be 2 box) _ _ hw2 (by (try simp only [List.length_append, be_length, List.length_nil]); omega) (by omega) (by omega)).mono ?_
      rintro e v3 ⟨rfl, hp2⟩
      try rw [Int.toNat_natCast] at hp2
      try rw [show Int.toNat 1 = 1 from rfl] at hp2
      have hP3 := hide (Put.step hd2 hf2 hp2)
      have hk3 := HKEEP.out v3 _ hP3.out
      clear hw2 hd2 hf2 hp2
      refine hK.out _ _ (hk3) (fun hHeld => ?_)
      clear hK K
      refine wpAnyH_ready (rs := [9]) (by kernel_rfl) (by simp) ?_
      refine AllReadyH.cons rfl (fun K hK => ?_) AllReadyH.nil
      go_simp
      obtain ⟨d3, hw3, hd3, hf3⟩ := hP3.out
      refine (wu64_any g7 d3 ((([] ++ be 1 1) ++ be 2 box) ++ be 8 lo) _ _ hw3 (by (try simp only [List.length_append, be_length, List.length_nil]); omega) (by omega) (by omega)).mono ?_
      rintro e v4 ⟨rfl, hp3⟩
      try rw [Int.toNat_natCast] at hp3
      try rw [show Int.toNat 1 = 1 from rfl] at hp3
      have hP4 := hide (Put.step hd3 hf3 hp3)
      have hk4 := HKEEP.out v4 _ hP4.out
      clear hw3 hd3 hf3 hp3
      refine hK.out _ _ (hk4) (fun hHeld => ?_)
      clear hK K
      refine wpAnyH_ready (rs := [12]) (by kernel_rfl) (by simp) ?_
      refine AllReadyH.cons rfl (fun K hK => ?_) AllReadyH.nil
      go_simp
      obtain ⟨d4, hw4, hd4, hf4⟩ := hP4.out
      refine (wu32_any g7 d4 (((([] ++ be 1 1) ++ be 2 box) ++ be 8 lo) ++ be 8 hi) _ _ hw4 (by (try simp only [List.length_append, be_length, List.length_nil]); omega) (by omega) (by omega)).mono ?_
      rintro e v5 ⟨rfl, hp4⟩
      try rw [Int.toNat_natCast] at hp4
      try rw [show Int.toNat 1 = 1 from rfl] at hp4
      have hP5 := hide (Put.step hd4 hf4 hp4)
      have hk5 := HKEEP.out v5 _ hP5.out
      clear hw4 hd4 hf4 hp4
      refine hK.out _ _ (hk5) (fun hHeld => ?_)
      clear hK K
      refine wpAnyH_done (by kernel_rfl) ?_ _
      have hB16 := hP5.out.keep HB15.out HG7.out.1 (fun j hj => by cases hj)
      obtain ⟨c0, c1, c2, c3, c4, c5, c6, c7⟩ := HCELLS.out v5 g1 hB16
      obtain ⟨d5, hw5a, hd5a, hf5⟩ := hP5.out
      obtain ⟨d5b, hw5b, hd5b⟩ := wr_norm hw5a
      have hd5 : d5b = none ∨ ∃ j, d5b = some j ∧ w5.heap.size ≤ j := by
        rcases d5b with _ | j
        · exact .inl rfl
        · obtain ⟨h1, _⟩ := hd5b j rfl
          rcases hd5a with h2 | ⟨i, h2, h3⟩
          · rw [h2] at h1; cases h1
          · rw [h2] at h1; injection h1 with h1; exact .inr ⟨j, rfl, by omega⟩
      clear hHeld hk0 hk1 hk2 hk3 hk4 hk5 hP0 hP1 hP2 hP3 hP4 hw5a hd5a HKEEP
      go_wp2_with (first
        | (with_reducible refine wpl_loada (op := ⟨some 38, _, _, _, _, _⟩) aggN rfl _ rfl g1 5 rfl _ _ (cellsB nonce) hB16 HTN.out (by rw [HL.out]; decide) ?_)
        | (with_reducible refine wpl_loada (op := ⟨some 40, _, _, _, _, _⟩) aggM rfl _ rfl g1 21 rfl _ _ (cellsB mac) hB16 HTM.out (by rw [HL.out]; decide) ?_))
      refine (putSeal_any g7 d5b ((((([] ++ be 1 1) ++ be 2 box) ++ be 8 lo) ++ be 8 hi) ++ be 4 delay) who epoch nonce mac v5 hw5b (fun j hj => (hd5b j hj).2) (by (try simp only [List.length_append, be_length, List.length_nil]); omega) b3 b4 HN16.out HM16.out).mono ?_
      rintro e v6 ⟨rfl, hp6⟩
      have hP6 := hide (Put.step hd5 hf5 hp6)
      clear hp6 hw5b hd5b hd5 hf5 hP5 hB16 c0 c1 c2 c3 c4 c5 c6 c7
      obtain ⟨d6, hw6, hd6, hf6⟩ := hP6.out
      have HLEN6 : Hid (((((([] ++ be 1 1) ++ be 2 box) ++ be 8 lo) ++ be 8 hi) ++ be 4 delay ++ be 2 who ++ be 4 epoch ++ nonce ++ mac).length = 61) := by show _ = _; simp only [List.length_append, be_length, List.length_nil]; rw [HN16.out, HM16.out]
      go_wp2_with fail
      refine (wzeros_some g7 d6 _ 3 v6 hw6 (by rw [HLEN6.out]; omega) (by omega) (by omega)).mono ?_
      rintro e v7 ⟨rfl, hp7⟩
      rw [show Int.toNat 3 = 3 from rfl] at hp7
      have hP7 := hide (Put.step hd6 hf6 hp7)
      have hE : (((([] ++ be 1 1) ++ be 2 box) ++ be 8 lo) ++ be 8 hi) ++ be 4 delay ++ be 2 who ++ be 4 epoch ++ nonce ++ mac ++ List.replicate 3 0 = OUT := by rw [HO1.out, HEN.out]; simp only [List.nil_append]
      rw [hE] at hP7
      have HOL : Hid (OUT.length = 64) := by have := HZL.out; rwa [cellsB_length] at this
      clear hp7 hw6 hd6 hf6 hP6 hE
      obtain ⟨d7, hw7, hd7, hf7⟩ := hP7.out
      go_wp2_with fail
      refine (wdone_any g7 d7 OUT v7 hw7 (by rw [HOL.out]; omega)).mono ?_
      rintro e v8 ⟨A8, c8, rfl, ho8, hb8⟩
      rw [HZL.out] at ho8 ⊢
      obtain ⟨gb, cb, rfl, hgb, hbb, hsb, htb, hcb⟩ := own_block ho8 (by omega)
      have hF8 : Frm (fun _ => False) v7 v8 := Frm.of_below hb8
      have hB28 := (hP7.out.keep HB25.out HG7.out.2.1 (fun j hj => by cases hj)).frm hF8 (fun h => h)
      rw [← Array.toArray_toList (xs := cb)] at hbb
      have hlb : 64 ≤ cb.toList.length := by rw [Array.length_toList]; exact hsb
      have HBL : Hid (Below w.heap.size w v8) := by
        have h1 : Below w.heap.size w w5 := HF5.out.below (Nat.le_refl _) (fun _ h => h.elim)
        have h2 := below_frm h1 hf7 h1.size (fun k hk => by rcases hk with rfl | hk; exact HG7.out.2.2; cases hk)
        exact below_frm h2 hF8 h2.size (fun _ h => h.elim)
      have HTB : Hid ((cb.toList.drop 0).take 64 = cellsB OUT) := by show _ = _; rw [List.drop_zero]; exact htb
      clear ho8 hgb hsb htb hF8 hb8 hw7 hd7 hf7
      go_wp2_with (first
        | (with_reducible refine wpl_loada (op := ⟨some 45, _, _, _, _, _⟩) agg64b rfl _ rfl gb 0 rfl _ _ (cellsB OUT) hbb HTB.out (by omega) ?_)
        | ((with_reducible refine wpl_storea agg64b rfl (.tmp 2) (.tmp 45) rfl g2 (cellsB OUT) rfl rfl _ _ hB28 HZL.out z64_len (cellsB_one _) ?_); intro v9 hB9 hF9))
      refine bodyPost_ret (results_ct agg64b rfl _ _ g2 _ _ rfl hB9 HZL.out) rfl ⟨rfl, ?_⟩
      exact below_frm HBL.out hF9 HBL.out.size (fun k hk => by have := HG12.out; omega)

end Go.Proofs.Ytedodbejbkdplaa
