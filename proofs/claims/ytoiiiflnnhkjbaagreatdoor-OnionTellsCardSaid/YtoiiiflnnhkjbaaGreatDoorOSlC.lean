/-
  Encode and Decode.
-/
import Derived.Test.YtoiiiflnnhkjbaaGreatDoorHp
import Derived.Test.YtoiiiflnnhkjbaaGreatDoorOSlB
namespace Go.Proofs.YtoiiiflnnhkjbaaGreatDoor
set_option linter.unusedVariables false
set_option linter.unusedSimpArgs false
open Go.RowKit

/-- Two results, the first in a variable. -/
theorem results_ct {ty : TypeId} {n : Nat} (hA : Agg Tryz.prog ty n) {fn : Func} {p u : Tmp} (h : fn.results = #[.cell p ty, .tmp u]) (tmps : Array Value) (w : World) (g : Nat) (t : TypeId) (cs : List Value) (hp : tmps.getD p undef = .pointer (some ⟨g, 0, none⟩)) (hb : Blk w g t cs.toArray) (hn : cs.length = n) :
    (results fn tmps).run Tryz.prog w = .ok (.tuple #[.agg cs.toArray, tmps.getD u undef]) w := by
  have hl := run_load_agg hA w g 0 _ cs cs hb (by rw [List.drop_zero, List.take_of_length_le (by omega)]) (by omega)
  rw [results_cell_tmp h, hp]
  simp only [asAddr, Sem.run_pure, Result.andThen_ok, hl]
/-- What Encode tells. -/
def outM (s : Slot) : List UInt8 := if rightB s = true then encM s else zeros 64
theorem outM_length {s : Slot} (h : s.ok) : (outM s).length = 64 := by
  unfold outM
  split
  · exact encM_length h
  · exact zeros_length _
theorem build_64 (w : World) : Sem.run Tryz.prog (Instr.build 84 #[]) w = .ok (.agg (cellsB (zeros 64)).toArray) w := run_build w _ _ _ (by kernel_rfl)
set_option maxHeartbeats 8000000 in
set_option maxRecDepth 100000 in
theorem encode_any (s : Slot) (hs : s.ok) (w : World) : Calls Tryz.prog 43 #[.agg (slotC s).toArray] w fun e w' => e = .returned (.tuple #[.agg (cellsB (outM s)).toArray, .int .i64 (errR s)]) ∧ Below w.heap.size w w' := by
  have HL := hide (slotC_length s hs.nonce hs.mac)
  have HT : Hid (((slotC s).drop 0).take 40 = slotC s) := by show _ = _; rw [List.drop_zero, List.take_of_length_le]; rw [HL.out]; exact Nat.le_refl _
  have HTN := hide (slotC_nonce hs.nonce)
  have HTM := hide (slotC_mac hs.nonce hs.mac)
  have HS := hide hs
  have HRT := hide (right_any s hs)
  have HOUT : Hid (outM s = if rightB s = true then encM s else zeros 64) := rfl
  have HER : Hid (errR s = if rightB s = true then 0 else 1) := rfl
  have HENC : Hid (encM s = be 1 (if s.last = true then 1 else 0) ++ be 2 (if s.last = true then s.box else s.next) ++ be 8 s.lo ++ be 8 s.hi ++ be 4 s.delay ++ be 2 s.who ++ be 4 s.epoch ++ s.nonce ++ s.mac ++ List.replicate 3 0) := rfl
  have HEL := hide (encM_length hs)
  obtain ⟨last, next, box, who, epoch, nonce, mac, lo, hi, delay⟩ := s
  have b1 := hs.next
  have b2 := hs.box
  have b3 := hs.who
  have b4 := hs.epoch
  have b5 := hs.lo
  have b6 := hs.hi
  have b7 := hs.delay
  have HN16 := hide hs.nonce
  have HM16 := hide hs.mac
  simp only at b1 b2 b3 b4 b5 b6 b7 HN16 HM16 HENC HTN HTM
  generalize hC : slotC ⟨last, next, box, who, epoch, nonce, mac, lo, hi, delay⟩ = C at *
  have HC := hide hC
  generalize outM ⟨last, next, box, who, epoch, nonce, mac, lo, hi, delay⟩ = OUT at *
  generalize errR ⟨last, next, box, who, epoch, nonce, mac, lo, hi, delay⟩ = ERR at *
  generalize rightB ⟨last, next, box, who, epoch, nonce, mac, lo, hi, delay⟩ = R at *
  generalize encM ⟨last, next, box, who, epoch, nonce, mac, lo, hi, delay⟩ = ENC at *
  have HCELLS : Hid (∀ (W : World) (g : Nat), Blk W g 51 C.toArray → W.cell? ⟨g, 0, none⟩ = some (.bool last) ∧ W.cell? ⟨g, 1, none⟩ = some (.int .u16 (next : Int)) ∧ W.cell? ⟨g, 2, none⟩ = some (.int .u16 (box : Int)) ∧ W.cell? ⟨g, 3, none⟩ = some (.int .u16 (who : Int)) ∧ W.cell? ⟨g, 4, none⟩ = some (.int .u32 (epoch : Int)) ∧
    W.cell? ⟨g, 37, none⟩ = some (.int .u64 (lo : Int)) ∧ W.cell? ⟨g, 38, none⟩ = some (.int .u64 (hi : Int)) ∧ W.cell? ⟨g, 39, none⟩ = some (.int .u32 (delay : Int))) := by
    intro W g h
    rw [← hC] at h
    exact h.slot HS.out
  clear hC hs
  have harr := fun (g c : Nat) (w : World) => run_arr under64b (some ⟨g, 0, none⟩) 64 c (Nat.le_refl _) w
  go_enter Tryz.func43, Tryz.ntmps43
  go_wp2_with (first
    | ((with_reducible refine wpl_boxa (op := ⟨some 1, _, _, _, _, _⟩) rfl _ _ rfl C rfl ?_); intro g1 w1 hB1 hg1 hF1)
    | ((with_reducible refine wpl_alloca (op := ⟨some 2, _, _, _, _, _⟩) rfl _ rfl _ zero64 ?_); intro g2 w2 hB2 hg2 hF2; have hB12 := hB1.frm hF2 (fun h => h))
    | (with_reducible refine wpl_loada (op := ⟨some 8, _, _, _, _, _⟩) aggS rfl _ rfl g1 0 rfl _ _ C hB12 HT.out (by rw [HL.out]; exact Nat.le_refl _) ?_))
  refine (HRT.out w2).mono ?_
  rintro e w3 ⟨rfl, hb3⟩
  have hF3 : Frm (fun _ => False) w2 w3 := Frm.of_below hb3
  have hB13 := hB12.frm hF3 (fun h => h)
  have hB23 := hB2.frm hF3 (fun h => h)
  have HF03 := hide ((hF1.trans hF2 (fun _ _ h => h)).trans hF3 (fun _ _ h => h))
  have HG12 : Hid (g1 < w3.heap.size ∧ g2 < w3.heap.size ∧ w.heap.size ≤ g1 ∧ w.heap.size ≤ g2 ∧ g1 ≠ g2) := ⟨hB13.lt, hB23.lt, hg1, by have := hF1.size; omega, by have := hB1.lt; omega⟩
  clear HRT hb3 hF1 hF2 hF3 hg1 hg2 hB1 hB12 hB2
  rcases hR : R with _ | _
  · have he1 : ERR = 1 := by rw [HER.out, hR]; rfl
    have ho1 : OUT = zeros 64 := by rw [HOUT.out, hR]; rfl
    have HZL : Hid ((cellsB OUT).length = 64) := by show _ = _; rw [ho1, cellsB_length, zeros_length]
    have hbd := build_64
    rw [← ho1] at hbd
    have HO1 := hide ho1
    subst he1
    clear ho1 HER HOUT HENC HEL hR
    go_wp2_with (first
      | (refine wpl_held (op := ⟨some 12, _, _, _, _, _⟩) (.agg (cellsB OUT).toArray) (held_build _ _ rfl _ _ (hbd _) rfl) rfl ?_)
      | ((with_reducible refine wpl_storea agg64b rfl (.tmp 2) (.tmp 12) rfl g2 (cellsB OUT) rfl rfl _ _ hB23 HZL.out z64_len (cellsB_one _) ?_); intro w4 hB4 hF4))
    refine bodyPost_ret (results_ct agg64b rfl _ _ g2 _ _ rfl hB4 HZL.out) rfl ⟨rfl, ?_⟩
    exact below_frm (HF03.out.below (Nat.le_refl _) (fun _ h => h.elim)) hF4 HF03.out.size (fun k hk => by have := HG12.out; omega)
  · have he1 : ERR = 0 := by rw [HER.out, hR]; rfl
    have ho1 : OUT = ENC := by rw [HOUT.out, hR]; rfl
    have HZL : Hid ((cellsB OUT).length = 64) := by show _ = _; rw [ho1, cellsB_length, HEL.out]
    have HO1 := hide ho1
    subst he1
    clear ho1 HER HOUT HEL hR
    obtain ⟨c0, c1, c2, c3, c4, c5, c6, c7⟩ := HCELLS.out w3 g1 hB13
    rcases hlast : last with _ | _
    · rw [hlast] at c0 HENC
      have HEN : Hid (ENC = be 1 0 ++ be 2 next ++ be 8 lo ++ be 8 hi ++ be 4 delay ++ be 2 who ++ be 4 epoch ++ nonce ++ mac ++ List.replicate 3 0) := HENC.out
      clear HENC hlast
      go_wp2_with fail
      go_quiet (fail)
      go_wp2_with ((with_reducible refine wpl_alloca (op := ⟨some 7, _, _, _, _, _⟩) rfl _ rfl _ zeroW ?_); intro g7 w4 hB7 hg7 hF4)
      have hF05 : Frm (fun _ => False) w3 w4.drew := by first | exact ((((Frm.refl _ _).drewN _).trans hF4 (fun _ _ h => h)).drew) | exact (((((Frm.refl _ _).drewN _).drewN _).trans hF4 (fun _ _ h => h)).drew)
      have hB15 : Blk w4.drew g1 51 C.toArray := hB13.frm hF05 (fun h => h)
      have hB25 : Blk w4.drew g2 84 (cellsB (zeros 64)).toArray := hB23.frm hF05 (fun h => h)
      have hW5 : Wr w4.drew g7 none [] := ⟨.slice none 0 0, hB7, ⟨rfl, .inl ⟨rfl, rfl⟩⟩, .inl rfl⟩
      have hP0 := hide (Put.refl hW5)
      have HG7 : Hid (g1 ≠ g7 ∧ g2 ≠ g7 ∧ w.heap.size ≤ g7) := by have h1 := HG12.out; have h2 : w3.heap.size ≤ g7 := hg7; have := HF03.out.size; exact ⟨by omega, by omega, by omega⟩
      have HKEEP : Hid (∀ (W : World) (l : List UInt8), Put g7 none l w4.drew W → W.cell? ⟨g1, 37, none⟩ = some (.int .u64 (lo : Int)) ∧ W.cell? ⟨g1, 38, none⟩ = some (.int .u64 (hi : Int)) ∧ W.cell? ⟨g1, 39, none⟩ = some (.int .u32 (delay : Int))) := by
        intro W l h
        exact (HCELLS.out W g1 (h.keep hB15 HG7.out.1 (fun j hj => by cases hj))).2.2.2.2.2
      have hk0 := HKEEP.out _ _ hP0.out
      have HF5 := hide (HF03.out.trans hF05 (fun _ _ h => h))
      have HB15 := hide hB15
      have HB25 := hide hB25
      clear hF05 hF4 hg7 hB7 hB13 hB23 c0 c1 c2 c3 c4 c5 c6 c7 hW5 hB15 hB25 HF03
      generalize hw5 : w4.drew = w5 at *
      refine wp_region_held_drew (S := fun W => W.cell? ⟨g1, 37, none⟩ = some (.int .u64 (lo : Int)) ∧ W.cell? ⟨g1, 38, none⟩ = some (.int .u64 (hi : Int)) ∧ W.cell? ⟨g1, 39, none⟩ = some (.int .u32 (delay : Int))) (by kernel_rfl) (by rw [hw5]; exact hk0) ?_
      rw [hw5]
      clear hw5
      intro hHeld
      refine tkH 0 (v := ?v1) rfl ?hy1 ?rest1
      case hy1 => (intro w hSw; obtain ⟨s5, s6, s7⟩ := hSw; (try go_simp); try with_reducible rfl)
      try simp only [Act.put, PTs]
      refine tkH 2 (v := ?v2) rfl ?hy2 ?rest2
      case hy2 => (intro w hSw; obtain ⟨s5, s6, s7⟩ := hSw; (try go_simp); try with_reducible rfl)
      try simp only [Act.put, PTs]
      refine tkH 4 (v := ?v3) rfl ?hy3 ?rest3
      case hy3 => (intro w hSw; obtain ⟨s5, s6, s7⟩ := hSw; (try go_simp); try with_reducible rfl)
      try simp only [Act.put, PTs]
      refine tkH 5 (v := ?v4) rfl ?hy4 ?rest4
      case hy4 => (intro w hSw; obtain ⟨s5, s6, s7⟩ := hSw; (try go_simp); try with_reducible rfl)
      try simp only [Act.put, PTs]
      refine tkH 7 (v := ?v5) rfl ?hy5 ?rest5
      case hy5 => (intro w hSw; obtain ⟨s5, s6, s7⟩ := hSw; (try go_simp); try with_reducible rfl)
      try simp only [Act.put, PTs]
      refine tkH 8 (v := ?v6) rfl ?hy6 ?rest6
      case hy6 => (intro w hSw; obtain ⟨s5, s6, s7⟩ := hSw; (try go_simp); try with_reducible rfl)
      try simp only [Act.put, PTs]
      refine tkH 10 (v := ?v7) rfl ?hy7 ?rest7
      case hy7 => (intro w hSw; obtain ⟨s5, s6, s7⟩ := hSw; (try go_simp); try with_reducible rfl)
      try simp only [Act.put, PTs]
      refine tkH 11 (v := ?v8) rfl ?hy8 ?rest8
      case hy8 => (intro w hSw; obtain ⟨s5, s6, s7⟩ := hSw; (try go_simp); try with_reducible rfl)
      try simp only [Act.put, PTs]
      refine rdH 1 rfl (by kernel_rfl) (fun K hK => ?_)
      go_simp
      obtain ⟨d0, hw0, hd0, hf0⟩ := hP0.out
      refine (wu8_any g7 d0 ([]) _ _ hw0 (by (try simp only [List.length_append, be_length, List.length_nil]); omega) (by omega) (by omega)).mono ?_
      rintro e v1 ⟨rfl, hp0⟩
      try rw [Int.toNat_natCast] at hp0
      try rw [show Int.toNat 0 = 0 from rfl] at hp0
      have hP1 := hide (Put.step hd0 hf0 hp0)
      have hk1 := HKEEP.out v1 _ hP1.out
      clear hw0 hd0 hf0 hp0
      refine hK.out _ _ (hk1) (fun hHeld => ?_)
      clear hK K
      refine rdH 3 rfl (by kernel_rfl) (fun K hK => ?_)
      go_simp
      obtain ⟨d1, hw1, hd1, hf1⟩ := hP1.out
      refine (wu16_any g7 d1 ([] ++ be 1 0) _ _ hw1 (by (try simp only [List.length_append, be_length, List.length_nil]); omega) (by omega) (by omega)).mono ?_
      rintro e v2 ⟨rfl, hp1⟩
      try rw [Int.toNat_natCast] at hp1
      try rw [show Int.toNat 0 = 0 from rfl] at hp1
      have hP2 := hide (Put.step hd1 hf1 hp1)
      have hk2 := HKEEP.out v2 _ hP2.out
      clear hw1 hd1 hf1 hp1
      refine hK.out _ _ (hk2) (fun hHeld => ?_)
      clear hK K
      refine rdH 6 rfl (by kernel_rfl) (fun K hK => ?_)
      go_simp
      obtain ⟨d2, hw2, hd2, hf2⟩ := hP2.out
      refine (wu64_any g7 d2 (([] ++ be 1 0) ++ be 2 next) _ _ hw2 (by (try simp only [List.length_append, be_length, List.length_nil]); omega) (by omega) (by omega)).mono ?_
      rintro e v3 ⟨rfl, hp2⟩
      try rw [Int.toNat_natCast] at hp2
      try rw [show Int.toNat 0 = 0 from rfl] at hp2
      have hP3 := hide (Put.step hd2 hf2 hp2)
      have hk3 := HKEEP.out v3 _ hP3.out
      clear hw2 hd2 hf2 hp2
      refine hK.out _ _ (hk3) (fun hHeld => ?_)
      clear hK K
      refine rdH 9 rfl (by kernel_rfl) (fun K hK => ?_)
      go_simp
      obtain ⟨d3, hw3, hd3, hf3⟩ := hP3.out
      refine (wu64_any g7 d3 ((([] ++ be 1 0) ++ be 2 next) ++ be 8 lo) _ _ hw3 (by (try simp only [List.length_append, be_length, List.length_nil]); omega) (by omega) (by omega)).mono ?_
      rintro e v4 ⟨rfl, hp3⟩
      try rw [Int.toNat_natCast] at hp3
      try rw [show Int.toNat 0 = 0 from rfl] at hp3
      have hP4 := hide (Put.step hd3 hf3 hp3)
      have hk4 := HKEEP.out v4 _ hP4.out
      clear hw3 hd3 hf3 hp3
      refine hK.out _ _ (hk4) (fun hHeld => ?_)
      clear hK K
      refine rdH 12 rfl (by kernel_rfl) (fun K hK => ?_)
      go_simp
      obtain ⟨d4, hw4, hd4, hf4⟩ := hP4.out
      refine (wu32_any g7 d4 (((([] ++ be 1 0) ++ be 2 next) ++ be 8 lo) ++ be 8 hi) _ _ hw4 (by (try simp only [List.length_append, be_length, List.length_nil]); omega) (by omega) (by omega)).mono ?_
      rintro e v5 ⟨rfl, hp4⟩
      try rw [Int.toNat_natCast] at hp4
      try rw [show Int.toNat 0 = 0 from rfl] at hp4
      have hP5 := hide (Put.step hd4 hf4 hp4)
      have hk5 := HKEEP.out v5 _ hP5.out
      clear hw4 hd4 hf4 hp4
      refine hK.out _ _ (hk5) (fun hHeld => ?_)
      clear hK K
      refine wpAnyH_done (by kernel_rfl) ?_ _
      have hB16 := hP5.out.keep HB15.out HG7.out.1 (fun j hj => by cases hj)
      obtain ⟨c0, c1, c2, c3, c4, c5, c6, c7⟩ := HCELLS.out v5 g1 hB16
      obtain ⟨d5, hw5a, hd5a, hf5⟩ := hP5.out
      obtain ⟨d5b, hw5b, hd5b⟩ := wr_norm hw5a
      have hd5 : d5b = none ∨ ∃ j, d5b = some j ∧ w5.heap.size ≤ j := by
        rcases d5b with _ | j
        · exact .inl rfl
        · obtain ⟨h1, _⟩ := hd5b j rfl
          rcases hd5a with h2 | ⟨i, h2, h3⟩
          · rw [h2] at h1; cases h1
          · rw [h2] at h1; injection h1 with h1; exact .inr ⟨j, rfl, by omega⟩
      clear hHeld hk0 hk1 hk2 hk3 hk4 hk5 hP0 hP1 hP2 hP3 hP4 hw5a hd5a HKEEP
      go_wp2_with (first
        | (with_reducible refine wpl_loada (op := ⟨some 38, _, _, _, _, _⟩) aggN rfl _ rfl g1 5 rfl _ _ (cellsB nonce) hB16 HTN.out (by rw [HL.out]; decide) ?_)
        | (with_reducible refine wpl_loada (op := ⟨some 40, _, _, _, _, _⟩) aggM rfl _ rfl g1 21 rfl _ _ (cellsB mac) hB16 HTM.out (by rw [HL.out]; decide) ?_))
      refine (putSeal_any g7 d5b ((((([] ++ be 1 0) ++ be 2 next) ++ be 8 lo) ++ be 8 hi) ++ be 4 delay) who epoch nonce mac v5 hw5b (fun j hj => (hd5b j hj).2) (by (try simp only [List.length_append, be_length, List.length_nil]); omega) b3 b4 HN16.out HM16.out).mono ?_
      rintro e v6 ⟨rfl, hp6⟩
      have hP6 := hide (Put.step hd5 hf5 hp6)
      clear hp6 hw5b hd5b hd5 hf5 hP5 hB16 c0 c1 c2 c3 c4 c5 c6 c7
      obtain ⟨d6, hw6, hd6, hf6⟩ := hP6.out
      have HLEN6 : Hid (((((([] ++ be 1 0) ++ be 2 next) ++ be 8 lo) ++ be 8 hi) ++ be 4 delay ++ be 2 who ++ be 4 epoch ++ nonce ++ mac).length = 61) := by show _ = _; simp only [List.length_append, be_length, List.length_nil]; rw [HN16.out, HM16.out]
      go_wp2_with fail
      refine (wzeros_some g7 d6 _ 3 v6 hw6 (by rw [HLEN6.out]; omega) (by omega) (by omega)).mono ?_
      rintro e v7 ⟨rfl, hp7⟩
      rw [show Int.toNat 3 = 3 from rfl] at hp7
      have hP7 := hide (Put.step hd6 hf6 hp7)
      have hE : (((([] ++ be 1 0) ++ be 2 next) ++ be 8 lo) ++ be 8 hi) ++ be 4 delay ++ be 2 who ++ be 4 epoch ++ nonce ++ mac ++ List.replicate 3 0 = OUT := by rw [HO1.out, HEN.out]; simp only [List.nil_append]
      rw [hE] at hP7
      have HOL : Hid (OUT.length = 64) := by have := HZL.out; rwa [cellsB_length] at this
      clear hp7 hw6 hd6 hf6 hP6 hE
      obtain ⟨d7, hw7, hd7, hf7⟩ := hP7.out
      go_wp2_with fail
      refine (wdone_any g7 d7 OUT v7 hw7 (by rw [HOL.out]; omega)).mono ?_
      rintro e v8 ⟨A8, c8, rfl, ho8, hb8⟩
      rw [HZL.out] at ho8 ⊢
      obtain ⟨gb, cb, rfl, hgb, hbb, hsb, htb, hcb⟩ := own_block ho8 (by omega)
      have hF8 : Frm (fun _ => False) v7 v8 := Frm.of_below hb8
      have hB28 := (hP7.out.keep HB25.out HG7.out.2.1 (fun j hj => by cases hj)).frm hF8 (fun h => h)
      rw [← Array.toArray_toList (xs := cb)] at hbb
      have hlb : 64 ≤ cb.toList.length := by rw [Array.length_toList]; exact hsb
      have HBL : Hid (Below w.heap.size w v8) := by
        have h1 : Below w.heap.size w w5 := HF5.out.below (Nat.le_refl _) (fun _ h => h.elim)
        have h2 := below_frm h1 hf7 h1.size (fun k hk => by rcases hk with rfl | hk; exact HG7.out.2.2; cases hk)
        exact below_frm h2 hF8 h2.size (fun _ h => h.elim)
      have HTB : Hid ((cb.toList.drop 0).take 64 = cellsB OUT) := by show _ = _; rw [List.drop_zero]; exact htb
      clear ho8 hgb hsb htb hF8 hb8 hw7 hd7 hf7
      go_wp2_with (first
        | (with_reducible refine wpl_loada (op := ⟨some 45, _, _, _, _, _⟩) agg64b rfl _ rfl gb 0 rfl _ _ (cellsB OUT) hbb HTB.out (by omega) ?_)
        | ((with_reducible refine wpl_storea agg64b rfl (.tmp 2) (.tmp 45) rfl g2 (cellsB OUT) rfl rfl _ _ hB28 HZL.out z64_len (cellsB_one _) ?_); intro v9 hB9 hF9))
      refine bodyPost_ret (results_ct agg64b rfl _ _ g2 _ _ rfl hB9 HZL.out) rfl ⟨rfl, ?_⟩
      exact below_frm HBL.out hF9 HBL.out.size (fun k hk => by have := HG12.out; omega)

    · rw [hlast] at c0 HENC
      have HEN : Hid (ENC = be 1 1 ++ be 2 box ++ be 8 lo ++ be 8 hi ++ be 4 delay ++ be 2 who ++ be 4 epoch ++ nonce ++ mac ++ List.replicate 3 0) := HENC.out
      clear HENC hlast
      go_wp2_with fail
      go_quiet (fail)
      go_wp2_with fail
      go_quiet (fail)
      go_wp2_with ((with_reducible refine wpl_alloca (op := ⟨some 7, _, _, _, _, _⟩) rfl _ rfl _ zeroW ?_); intro g7 w4 hB7 hg7 hF4)
      have hF05 : Frm (fun _ => False) w3 w4.drew := by first | exact ((((Frm.refl _ _).drewN _).trans hF4 (fun _ _ h => h)).drew) | exact (((((Frm.refl _ _).drewN _).drewN _).trans hF4 (fun _ _ h => h)).drew)
      have hB15 : Blk w4.drew g1 51 C.toArray := hB13.frm hF05 (fun h => h)
      have hB25 : Blk w4.drew g2 84 (cellsB (zeros 64)).toArray := hB23.frm hF05 (fun h => h)
      have hW5 : Wr w4.drew g7 none [] := ⟨.slice none 0 0, hB7, ⟨rfl, .inl ⟨rfl, rfl⟩⟩, .inl rfl⟩
      have hP0 := hide (Put.refl hW5)
      have HG7 : Hid (g1 ≠ g7 ∧ g2 ≠ g7 ∧ w.heap.size ≤ g7) := by have h1 := HG12.out; have h2 : w3.heap.size ≤ g7 := hg7; have := HF03.out.size; exact ⟨by omega, by omega, by omega⟩
      have HKEEP : Hid (∀ (W : World) (l : List UInt8), Put g7 none l w4.drew W → W.cell? ⟨g1, 37, none⟩ = some (.int .u64 (lo : Int)) ∧ W.cell? ⟨g1, 38, none⟩ = some (.int .u64 (hi : Int)) ∧ W.cell? ⟨g1, 39, none⟩ = some (.int .u32 (delay : Int))) := by
        intro W l h
        exact (HCELLS.out W g1 (h.keep hB15 HG7.out.1 (fun j hj => by cases hj))).2.2.2.2.2
      have hk0 := HKEEP.out _ _ hP0.out
      have HF5 := hide (HF03.out.trans hF05 (fun _ _ h => h))
      have HB15 := hide hB15
      have HB25 := hide hB25
      clear hF05 hF4 hg7 hB7 hB13 hB23 c0 c1 c2 c3 c4 c5 c6 c7 hW5 hB15 hB25 HF03
      generalize hw5 : w4.drew = w5 at *
      refine wp_region_held_drew (S := fun W => W.cell? ⟨g1, 37, none⟩ = some (.int .u64 (lo : Int)) ∧ W.cell? ⟨g1, 38, none⟩ = some (.int .u64 (hi : Int)) ∧ W.cell? ⟨g1, 39, none⟩ = some (.int .u32 (delay : Int))) (by kernel_rfl) (by rw [hw5]; exact hk0) ?_
      rw [hw5]
      clear hw5
      intro hHeld
      refine tkH 0 (v := ?v9) rfl ?hy9 ?rest9
      case hy9 => (intro w hSw; obtain ⟨s5, s6, s7⟩ := hSw; (try go_simp); try with_reducible rfl)
      try simp only [Act.put, PTs]
      refine tkH 2 (v := ?v10) rfl ?hy10 ?rest10
      case hy10 => (intro w hSw; obtain ⟨s5, s6, s7⟩ := hSw; (try go_simp); try with_reducible rfl)
      try simp only [Act.put, PTs]
      refine tkH 4 (v := ?v11) rfl ?hy11 ?rest11
      case hy11 => (intro w hSw; obtain ⟨s5, s6, s7⟩ := hSw; (try go_simp); try with_reducible rfl)
      try simp only [Act.put, PTs]
      refine tkH 5 (v := ?v12) rfl ?hy12 ?rest12
      case hy12 => (intro w hSw; obtain ⟨s5, s6, s7⟩ := hSw; (try go_simp); try with_reducible rfl)
      try simp only [Act.put, PTs]
      refine tkH 7 (v := ?v13) rfl ?hy13 ?rest13
      case hy13 => (intro w hSw; obtain ⟨s5, s6, s7⟩ := hSw; (try go_simp); try with_reducible rfl)
      try simp only [Act.put, PTs]
      refine tkH 8 (v := ?v14) rfl ?hy14 ?rest14
      case hy14 => (intro w hSw; obtain ⟨s5, s6, s7⟩ := hSw; (try go_simp); try with_reducible rfl)
      try simp only [Act.put, PTs]
      refine tkH 10 (v := ?v15) rfl ?hy15 ?rest15
      case hy15 => (intro w hSw; obtain ⟨s5, s6, s7⟩ := hSw; (try go_simp); try with_reducible rfl)
      try simp only [Act.put, PTs]
      refine tkH 11 (v := ?v16) rfl ?hy16 ?rest16
      case hy16 => (intro w hSw; obtain ⟨s5, s6, s7⟩ := hSw; (try go_simp); try with_reducible rfl)
      try simp only [Act.put, PTs]
      refine rdH 1 rfl (by kernel_rfl) (fun K hK => ?_)
      go_simp
      obtain ⟨d0, hw0, hd0, hf0⟩ := hP0.out
      refine (wu8_any g7 d0 ([]) _ _ hw0 (by (try simp only [List.length_append, be_length, List.length_nil]); omega) (by omega) (by omega)).mono ?_
      rintro e v1 ⟨rfl, hp0⟩
      try rw [Int.toNat_natCast] at hp0
      try rw [show Int.toNat 1 = 1 from rfl] at hp0
      have hP1 := hide (Put.step hd0 hf0 hp0)
      have hk1 := HKEEP.out v1 _ hP1.out
      clear hw0 hd0 hf0 hp0
      refine hK.out _ _ (hk1) (fun hHeld => ?_)
      clear hK K
      refine rdH 3 rfl (by kernel_rfl) (fun K hK => ?_)
      go_simp
      obtain ⟨d1, hw1, hd1, hf1⟩ := hP1.out
      refine (wu16_any g7 d1 ([] ++ be 1 1) _ _ hw1 (by (try simp only [List.length_append, be_length, List.length_nil]); omega) (by omega) (by omega)).mono ?_
      rintro e v2 ⟨rfl, hp1⟩
      try rw [Int.toNat_natCast] at hp1
      try rw [show Int.toNat 1 = 1 from rfl] at hp1
      have hP2 := hide (Put.step hd1 hf1 hp1)
      have hk2 := HKEEP.out v2 _ hP2.out
      clear hw1 hd1 hf1 hp1
      refine hK.out _ _ (hk2) (fun hHeld => ?_)
      clear hK K
      refine rdH 6 rfl (by kernel_rfl) (fun K hK => ?_)
      go_simp
      obtain ⟨d2, hw2, hd2, hf2⟩ := hP2.out
      refine (wu64_any g7 d2 (([] ++ be 1 1) ++ be 2 box) _ _ hw2 (by (try simp only [List.length_append, be_length, List.length_nil]); omega) (by omega) (by omega)).mono ?_
      rintro e v3 ⟨rfl, hp2⟩
      try rw [Int.toNat_natCast] at hp2
      try rw [show Int.toNat 1 = 1 from rfl] at hp2
      have hP3 := hide (Put.step hd2 hf2 hp2)
      have hk3 := HKEEP.out v3 _ hP3.out
      clear hw2 hd2 hf2 hp2
      refine hK.out _ _ (hk3) (fun hHeld => ?_)
      clear hK K
      refine rdH 9 rfl (by kernel_rfl) (fun K hK => ?_)
      go_simp
      obtain ⟨d3, hw3, hd3, hf3⟩ := hP3.out
      refine (wu64_any g7 d3 ((([] ++ be 1 1) ++ be 2 box) ++ be 8 lo) _ _ hw3 (by (try simp only [List.length_append, be_length, List.length_nil]); omega) (by omega) (by omega)).mono ?_
      rintro e v4 ⟨rfl, hp3⟩
      try rw [Int.toNat_natCast] at hp3
      try rw [show Int.toNat 1 = 1 from rfl] at hp3
      have hP4 := hide (Put.step hd3 hf3 hp3)
      have hk4 := HKEEP.out v4 _ hP4.out
      clear hw3 hd3 hf3 hp3
      refine hK.out _ _ (hk4) (fun hHeld => ?_)
      clear hK K
      refine rdH 12 rfl (by kernel_rfl) (fun K hK => ?_)
      go_simp
      obtain ⟨d4, hw4, hd4, hf4⟩ := hP4.out
      refine (wu32_any g7 d4 (((([] ++ be 1 1) ++ be 2 box) ++ be 8 lo) ++ be 8 hi) _ _ hw4 (by (try simp only [List.length_append, be_length, List.length_nil]); omega) (by omega) (by omega)).mono ?_
      rintro e v5 ⟨rfl, hp4⟩
      try rw [Int.toNat_natCast] at hp4
      try rw [show Int.toNat 1 = 1 from rfl] at hp4
      have hP5 := hide (Put.step hd4 hf4 hp4)
      have hk5 := HKEEP.out v5 _ hP5.out
      clear hw4 hd4 hf4 hp4
      refine hK.out _ _ (hk5) (fun hHeld => ?_)
      clear hK K
      refine wpAnyH_done (by kernel_rfl) ?_ _
      have hB16 := hP5.out.keep HB15.out HG7.out.1 (fun j hj => by cases hj)
      obtain ⟨c0, c1, c2, c3, c4, c5, c6, c7⟩ := HCELLS.out v5 g1 hB16
      obtain ⟨d5, hw5a, hd5a, hf5⟩ := hP5.out
      obtain ⟨d5b, hw5b, hd5b⟩ := wr_norm hw5a
      have hd5 : d5b = none ∨ ∃ j, d5b = some j ∧ w5.heap.size ≤ j := by
        rcases d5b with _ | j
        · exact .inl rfl
        · obtain ⟨h1, _⟩ := hd5b j rfl
          rcases hd5a with h2 | ⟨i, h2, h3⟩
          · rw [h2] at h1; cases h1
          · rw [h2] at h1; injection h1 with h1; exact .inr ⟨j, rfl, by omega⟩
      clear hHeld hk0 hk1 hk2 hk3 hk4 hk5 hP0 hP1 hP2 hP3 hP4 hw5a hd5a HKEEP
      go_wp2_with (first
        | (with_reducible refine wpl_loada (op := ⟨some 38, _, _, _, _, _⟩) aggN rfl _ rfl g1 5 rfl _ _ (cellsB nonce) hB16 HTN.out (by rw [HL.out]; decide) ?_)
        | (with_reducible refine wpl_loada (op := ⟨some 40, _, _, _, _, _⟩) aggM rfl _ rfl g1 21 rfl _ _ (cellsB mac) hB16 HTM.out (by rw [HL.out]; decide) ?_))
      refine (putSeal_any g7 d5b ((((([] ++ be 1 1) ++ be 2 box) ++ be 8 lo) ++ be 8 hi) ++ be 4 delay) who epoch nonce mac v5 hw5b (fun j hj => (hd5b j hj).2) (by (try simp only [List.length_append, be_length, List.length_nil]); omega) b3 b4 HN16.out HM16.out).mono ?_
      rintro e v6 ⟨rfl, hp6⟩
      have hP6 := hide (Put.step hd5 hf5 hp6)
      clear hp6 hw5b hd5b hd5 hf5 hP5 hB16 c0 c1 c2 c3 c4 c5 c6 c7
      obtain ⟨d6, hw6, hd6, hf6⟩ := hP6.out
      have HLEN6 : Hid (((((([] ++ be 1 1) ++ be 2 box) ++ be 8 lo) ++ be 8 hi) ++ be 4 delay ++ be 2 who ++ be 4 epoch ++ nonce ++ mac).length = 61) := by show _ = _; simp only [List.length_append, be_length, List.length_nil]; rw [HN16.out, HM16.out]
      go_wp2_with fail
      refine (wzeros_some g7 d6 _ 3 v6 hw6 (by rw [HLEN6.out]; omega) (by omega) (by omega)).mono ?_
      rintro e v7 ⟨rfl, hp7⟩
      rw [show Int.toNat 3 = 3 from rfl] at hp7
      have hP7 := hide (Put.step hd6 hf6 hp7)
      have hE : (((([] ++ be 1 1) ++ be 2 box) ++ be 8 lo) ++ be 8 hi) ++ be 4 delay ++ be 2 who ++ be 4 epoch ++ nonce ++ mac ++ List.replicate 3 0 = OUT := by rw [HO1.out, HEN.out]; simp only [List.nil_append]
      rw [hE] at hP7
      have HOL : Hid (OUT.length = 64) := by have := HZL.out; rwa [cellsB_length] at this
      clear hp7 hw6 hd6 hf6 hP6 hE
      obtain ⟨d7, hw7, hd7, hf7⟩ := hP7.out
      go_wp2_with fail
      refine (wdone_any g7 d7 OUT v7 hw7 (by rw [HOL.out]; omega)).mono ?_
      rintro e v8 ⟨A8, c8, rfl, ho8, hb8⟩
      rw [HZL.out] at ho8 ⊢
      obtain ⟨gb, cb, rfl, hgb, hbb, hsb, htb, hcb⟩ := own_block ho8 (by omega)
      have hF8 : Frm (fun _ => False) v7 v8 := Frm.of_below hb8
      have hB28 := (hP7.out.keep HB25.out HG7.out.2.1 (fun j hj => by cases hj)).frm hF8 (fun h => h)
      rw [← Array.toArray_toList (xs := cb)] at hbb
      have hlb : 64 ≤ cb.toList.length := by rw [Array.length_toList]; exact hsb
      have HBL : Hid (Below w.heap.size w v8) := by
        have h1 : Below w.heap.size w w5 := HF5.out.below (Nat.le_refl _) (fun _ h => h.elim)
        have h2 := below_frm h1 hf7 h1.size (fun k hk => by rcases hk with rfl | hk; exact HG7.out.2.2; cases hk)
        exact below_frm h2 hF8 h2.size (fun _ h => h.elim)
      have HTB : Hid ((cb.toList.drop 0).take 64 = cellsB OUT) := by show _ = _; rw [List.drop_zero]; exact htb
      clear ho8 hgb hsb htb hF8 hb8 hw7 hd7 hf7
      go_wp2_with (first
        | (with_reducible refine wpl_loada (op := ⟨some 45, _, _, _, _, _⟩) agg64b rfl _ rfl gb 0 rfl _ _ (cellsB OUT) hbb HTB.out (by omega) ?_)
        | ((with_reducible refine wpl_storea agg64b rfl (.tmp 2) (.tmp 45) rfl g2 (cellsB OUT) rfl rfl _ _ hB28 HZL.out z64_len (cellsB_one _) ?_); intro v9 hB9 hF9))
      refine bodyPost_ret (results_ct agg64b rfl _ _ g2 _ _ rfl hB9 HZL.out) rfl ⟨rfl, ?_⟩
      exact below_frm HBL.out hF9 HBL.out.size (fun k hk => by have := HG12.out; omega)
theorem rd_norm {w : World} {g : Nat} {d : Option Nat} {l : List UInt8} (h : Rd w g d l) : ∃ d', Rd w g d' l ∧ ∀ j, d' = some j → d = some j ∧ j < w.heap.size := by
  obtain ⟨v, hb, A, c, hv, h1, h2, hh⟩ := h
  rcases hh with ⟨rfl, rfl⟩ | ⟨g', off, cur, hA, hd, hg, hs, ht⟩
  · exact ⟨none, ⟨v, hb, none, 0, hv, h1, h2, .inl ⟨rfl, rfl⟩⟩, fun j hj => by cases hj⟩
  · exact ⟨some g', ⟨v, hb, A, c, hv, h1, h2, .inr ⟨g', off, cur, hA, rfl, hg, hs, ht⟩⟩, fun j hj => by injection hj with hj; subst hj; exact ⟨hd, hg.lt⟩⟩
/-- The last reads, and what is told. -/
structure ReadAt (w0 : World) (g2 g3 g : Nat) (d : Option Nat) (l : List UInt8) (s : Slot) (w : World) : Prop where
  rd : Rd w g d l
  d0 : ∀ j, d = some j → w0.heap.size ≤ j ∧ j ≠ g3 ∧ j ≠ g2 ∧ j < w.heap.size
  b2 : Blk w g2 51 (slotC slot0).toArray
  b3 : Blk w g3 51 (slotC s).toArray
  bel : Below w0.heap.size w0 w
  ne : g ≠ g3 ∧ g ≠ g2 ∧ g2 ≠ g3 ∧ w0.heap.size ≤ g ∧ w0.heap.size ≤ g2 ∧ w0.heap.size ≤ g3
  n16 : s.nonce.length = 16
  m16 : s.mac.length = 16
section
variable {w0 w w' : World} {g2 g3 g : Nat} {d : Option Nat} {l l' : List UInt8} {s s' : Slot}
theorem ReadAt.read (h : ReadAt w0 g2 g3 g d l s w) (hr : Rd w' g d l') (f : Frm (fun k => k = g) w w') : ReadAt w0 g2 g3 g d l' s w' :=
  ⟨hr, fun j hj => by have := h.d0 j hj; have := f.size; omega, h.b2.frm f (fun e => h.ne.2.1 e.symm), h.b3.frm f (fun e => h.ne.1 e.symm), below_frm h.bel f h.bel.size (fun k hk => by have := h.ne; omega), h.ne, h.n16, h.m16⟩
theorem ReadAt.put (h : ReadAt w0 g2 g3 g d l s w) (f : Frm (fun k => k = g3) w w') (hb : Blk w' g3 51 (slotC s').toArray) (hn : s'.nonce.length = 16) (hm : s'.mac.length = 16) : ReadAt w0 g2 g3 g d l s' w' :=
  ⟨h.rd.frm f (fun e => h.ne.1 e) (fun j hj e => (h.d0 j hj).2.1 e), fun j hj => by have := h.d0 j hj; have := f.size; omega, h.b2.frm f (fun e => h.ne.2.2.1 e), hb, below_frm h.bel f h.bel.size (fun k hk => by have := h.ne; omega), h.ne, hn, hm⟩
theorem ReadAt.set (h : ReadAt w0 g2 g3 g d l s w) (i : Nat) (v : Value) (he : (slotC s).set i v = slotC s') (hn : s'.nonce = s.nonce) (hm : s'.mac = s.mac) : ReadAt w0 g2 g3 g d l s' (w.setCell ⟨g3, i, none⟩ v) := by
  have hb := h.b3.setL i v
  rw [he] at hb
  exact h.put (Frm.setCell _ ⟨g3, i, none⟩ _ (fun k => k = g3) rfl) hb (by rw [hn]; exact h.n16) (by rw [hm]; exact h.m16)
theorem ReadAt.cells (h : ReadAt w0 g2 g3 g d l s w) : (∀ i, w.frozen? ⟨g3, i, none⟩ = false) ∧ w.cell? ⟨g3, 0, none⟩ = some (.bool s.last) ∧ w.cell? ⟨g3, 1, none⟩ = some (.int .u16 (s.next : Int)) ∧ w.cell? ⟨g3, 2, none⟩ = some (.int .u16 (s.box : Int)) ∧ w.cell? ⟨g3, 3, none⟩ = some (.int .u16 (s.who : Int)) ∧ w.cell? ⟨g3, 4, none⟩ = some (.int .u32 (s.epoch : Int)) ∧
    w.cell? ⟨g3, 37, none⟩ = some (.int .u64 (s.lo : Int)) ∧ w.cell? ⟨g3, 38, none⟩ = some (.int .u64 (s.hi : Int)) ∧ w.cell? ⟨g3, 39, none⟩ = some (.int .u32 (s.delay : Int)) := by
  refine ⟨h.b3.frozen, h.b3.cell 0, h.b3.cell 1, h.b3.cell 2, h.b3.cell 3, h.b3.cell 4, ?_, ?_, ?_⟩
  · rw [h.b3.cell, List.getElem?_toArray]; exact slotC_lo h.n16 h.m16
  · rw [h.b3.cell, List.getElem?_toArray]; exact slotC_hi h.n16 h.m16
  · rw [h.b3.cell, List.getElem?_toArray]; exact slotC_delay h.n16 h.m16
end
theorem slotC_len16 (s : Slot) (h1 : s.nonce.length = 16) (h2 : s.mac.length = 16) : 5 + 16 ≤ (slotC s).length ∧ 21 + 16 ≤ (slotC s).length := by
  rw [slotC_length s h1 h2]
  decide
set_option maxHeartbeats 8000000 in
set_option maxRecDepth 100000 in
theorem sread_any (b : List UInt8) (hb : b.length = 64) (w : World) : Calls Tryz.prog 49 #[.agg (cellsB b).toArray] w fun e w' => e = .returned (.agg (slotC (decM b)).toArray) ∧ Below w.heap.size w w' := by
  have HD : Hid (decM b = ⟨decide (num (b.take 1) = 1), if num (b.take 1) = 1 then 0 else num ((b.drop 1).take 2), if num (b.take 1) = 1 then num ((b.drop 1).take 2) else 0, num ((b.drop 23).take 2), num ((b.drop 25).take 4), (b.drop 29).take 16, (b.drop 45).take 16, num ((b.drop 3).take 8), num ((b.drop 11).take 8), num ((b.drop 19).take 4)⟩) := rfl
  have HDL := hide (slotC_length _ (decM_ok b hb).nonce (decM_ok b hb).mac)
  have HDO := hide (slotC_one (decM b))
  have HN16 : Hid (((b.drop 29).take 16).length = 16) := by show _ = _; rw [List.length_take, List.length_drop]; omega
  have HM16 : Hid (((b.drop 45).take 16).length = 16) := by show _ = _; rw [List.length_take, List.length_drop]; omega
  have hk256 : num (b.take 1) < 256 := num_take_lt b 1 1 (by omega)
  have HB := hide hb
  have h64 := sl64
  generalize decM b = D at *
  obtain ⟨k, hk⟩ : ∃ n, n = num (b.take 1) := ⟨_, rfl⟩
  obtain ⟨to, hto⟩ : ∃ n, n = num ((b.drop 1).take 2) := ⟨_, rfl⟩
  obtain ⟨lo, hlo⟩ : ∃ n, n = num ((b.drop 3).take 8) := ⟨_, rfl⟩
  obtain ⟨hi, hhi⟩ : ∃ n, n = num ((b.drop 11).take 8) := ⟨_, rfl⟩
  obtain ⟨delay, hdelay⟩ : ∃ n, n = num ((b.drop 19).take 4) := ⟨_, rfl⟩
  obtain ⟨who, hwho⟩ : ∃ n, n = num ((b.drop 23).take 2) := ⟨_, rfl⟩
  obtain ⟨epoch, hepoch⟩ : ∃ n, n = num ((b.drop 25).take 4) := ⟨_, rfl⟩
  obtain ⟨nonce, hnonce⟩ : ∃ n, n = (b.drop 29).take 16 := ⟨_, rfl⟩
  obtain ⟨mac, hmac⟩ : ∃ n, n = (b.drop 45).take 16 := ⟨_, rfl⟩
  rw [← hk, ← hto, ← hlo, ← hhi, ← hdelay, ← hwho, ← hepoch, ← hnonce, ← hmac] at HD
  rw [← hnonce] at HN16
  rw [← hmac] at HM16
  rw [← hk] at hk256
  have Hk := hide hk
  have Hto := hide hto
  have Hlo := hide hlo
  have Hhi := hide hhi
  have Hdelay := hide hdelay
  have Hwho := hide hwho
  have Hepoch := hide hepoch
  have Hnonce := hide hnonce
  have Hmac := hide hmac
  clear hk hto hlo hhi hdelay hwho hepoch hnonce hmac hb
  go_enter Tryz.func49, Tryz.ntmps49
  go_wp2_with (first
    | ((with_reducible refine wpl_boxa (op := ⟨some 1, _, _, _, _, _⟩) rfl _ _ rfl (cellsB b) rfl ?_); intro g1 w1 hB1 hg1 hF1)
    | ((with_reducible refine wpl_alloca (op := ⟨some 2, _, _, _, _, _⟩) rfl _ rfl _ zeroS ?_); intro g2 w2 hB2 hg2 hF2)
    | ((with_reducible refine wpl_alloca (op := ⟨some 3, _, _, _, _, _⟩) rfl _ rfl _ zeroS ?_); intro g3 w3 hB3 hg3 hF3))
  have hr1 : Rds w3 (some ⟨g1, 0, none⟩) 64 (cellsB b) := by have h := ((hB1.frm hF2 (fun h => h)).frm hF3 (fun h => h)).rds; rwa [cellsB_length, HB.out] at h
  refine (read_any (some ⟨g1, 0, none⟩) 64 64 b w3 hr1 (by omega)).mono ?_
  rintro e w4 ⟨g, d0, rfl, hr40, hb4, hg4, hd40⟩
  obtain ⟨d, hr4, hd4⟩ := rd_norm hr40
  have hF4 : Frm (fun _ => False) w3 w4 := Frm.of_below hb4
  have H4 : Hid (ReadAt w g2 g3 g d b slot0 w4) := by
    have e1 := hF1.size
    have e2 := hF2.size
    have e3 := hF3.size
    have l2 := hB2.lt
    have l3 := hB3.lt
    refine ⟨hr4, fun j hj => ?_, (hB2.frm hF3 (fun h => h)).frm hF4 (fun h => h), hB3.frm hF4 (fun h => h), (((hF1.trans hF2 (fun _ _ h => h)).trans hF3 (fun _ _ h => h)).trans hF4 (fun _ _ h => h)).below (Nat.le_refl _) (fun _ h => h.elim), by omega, rfl, rfl⟩
    have h1 := hd4 j hj
    have h2 := hd40 j h1.1
    omega
  clear hr1 hr40 hr4 hd4 hd40 hb4 hg4 hF1 hF2 hF3 hF4 hB1 hB2 hB3 hg1 hg2 hg3
  go_wp2_with fail
  refine (u8_ok g d b w4 H4.out.rd (by rw [HB.out]; omega) (by rw [HB.out]; omega)).mono ?_
  rintro e w5 ⟨rfl, hr5, hf5⟩
  rw [← Hk.out]
  have H5 := hide (H4.out.read hr5 hf5)
  clear hr5 hf5 H4
  go_wp2_with fail
  refine (u16_ok g d (b.drop 1) w5 H5.out.rd (by rw [List.length_drop, HB.out]; omega) (by rw [List.length_drop, HB.out]; omega)).mono ?_
  rintro e w6 ⟨rfl, hr6, hf6⟩
  rw [← Hto.out]
  rw [List.drop_drop] at hr6
  have H6 := hide (H5.out.read hr6 hf6)
  clear hr6 hf6 H5
  obtain ⟨hfz, c0, c1, c2, c3, c4, c5, c6, c7⟩ := H6.out.cells
  have both : ∀ w7 s, ReadAt w g2 g3 g d (b.drop 3) s w7 → s.last = decide (k = 1) → s.next = (if k = 1 then 0 else to) → s.box = (if k = 1 then to else 0) → True := fun _ _ _ _ _ _ => trivial
  clear both
  by_cases hk1 : k = 1
  · subst hk1
    go_wp2_with fail
    have H7 := hide ((H6.out.set 0 (.bool true) (s' := { slot0 with last := true }) rfl rfl rfl).set 2 (.int .u16 (to : Int)) (s' := { slot0 with last := true, box := to }) rfl rfl rfl)
    have HD2 : Hid (D = ⟨true, 0, to, who, epoch, nonce, mac, lo, hi, delay⟩) := HD.out
    clear H6 hfz c0 c1 c2 c3 c4 c5 c6 c7 HD
    simp only [slot0] at H7
    refine (u64_ok g d (b.drop 3) _ H7.out.rd (by rw [List.length_drop, HB.out]; omega) (by rw [List.length_drop, HB.out]; omega)).mono ?_
    rintro e w8 ⟨rfl, hr8, hf8⟩
    rw [← Hlo.out]
    rw [List.drop_drop] at hr8
    have H8 := hide (H7.out.read hr8 hf8)
    obtain ⟨hfz, c0, c1, c2, c3, c4, c5, c6, c7⟩ := H8.out.cells
    clear hr8 hf8 H7
    go_wp2_with fail
    have H9 := hide (H8.out.set 37 (.int .u64 (lo : Int)) (slotC_slo H8.out.n16 H8.out.m16 lo) rfl rfl)
    clear H8 hfz c0 c1 c2 c3 c4 c5 c6 c7
    refine (u64_ok g d (b.drop 11) _ H9.out.rd (by rw [List.length_drop, HB.out]; omega) (by rw [List.length_drop, HB.out]; omega)).mono ?_
    rintro e w10 ⟨rfl, hr8, hf8⟩
    rw [← Hhi.out]
    rw [List.drop_drop] at hr8
    have H10 := hide (H9.out.read hr8 hf8)
    obtain ⟨hfz, c0, c1, c2, c3, c4, c5, c6, c7⟩ := H10.out.cells
    clear hr8 hf8 H9
    go_wp2_with fail
    have H11 := hide (H10.out.set 38 (.int .u64 (hi : Int)) (slotC_shi H10.out.n16 H10.out.m16 hi) rfl rfl)
    clear H10 hfz c0 c1 c2 c3 c4 c5 c6 c7
    refine (u32_ok g d (b.drop 19) _ H11.out.rd (by rw [List.length_drop, HB.out]; omega) (by rw [List.length_drop, HB.out]; omega)).mono ?_
    rintro e w12 ⟨rfl, hr8, hf8⟩
    rw [← Hdelay.out]
    rw [List.drop_drop] at hr8
    have H12 := hide (H11.out.read hr8 hf8)
    obtain ⟨hfz, c0, c1, c2, c3, c4, c5, c6, c7⟩ := H12.out.cells
    clear hr8 hf8 H11
    go_wp2_with fail
    have H13 := hide (H12.out.set 39 (.int .u32 (delay : Int)) (slotC_sdelay H12.out.n16 H12.out.m16 delay) rfl rfl)
    clear H12 hfz c0 c1 c2 c3 c4 c5 c6 c7
    refine (takeSeal_any g d (b.drop 23) _ H13.out.rd (by rw [List.length_drop, HB.out]; omega) (by rw [List.length_drop, HB.out]; omega) (fun j hj => (H13.out.d0 j hj).2.2.2)).mono ?_
    rintro e w14 ⟨rfl, hr8, hf8⟩
    simp only [List.drop_drop, Nat.reduceAdd]
    rw [← Hwho.out, ← Hepoch.out, ← Hnonce.out, ← Hmac.out]
    have H14 := hide (H13.out.read hr8 hf8)
    obtain ⟨hfz, c0, c1, c2, c3, c4, c5, c6, c7⟩ := H14.out.cells
    have H15 := hide ((H14.out.set 3 (.int .u16 (who : Int)) (s' := ⟨true, 0, to, who, 0, Z16, Z16, lo, hi, delay⟩) rfl rfl rfl).set 4 (.int .u32 (epoch : Int)) (s' := ⟨true, 0, to, who, epoch, Z16, Z16, lo, hi, delay⟩) rfl rfl rfl)
    have hNc : (cellsB nonce).length = 16 := by rw [cellsB_length]; exact HN16.out
    have hMc : (cellsB mac).length = 16 := by rw [cellsB_length]; exact HM16.out
    have HNc := hide hNc
    have HMc := hide hMc
    clear hr8 hf8 H13 H14 hNc hMc
    go_wp2_with (first
      | ((with_reducible refine wpl_storem aggN rfl (.tmp 55) (.tmp 51) rfl g3 5 (cellsB nonce) _ _ rfl rfl _ H15.out.b3 HNc.out (slotC_len16 _ H15.out.n16 H15.out.m16).1 (slotC_snonce H15.out.n16 nonce HN16.out) (cellsB_one _) ?_); intro w16 hB16 hF16; have H16 := hide (H15.out.put hF16 hB16 HN16.out rfl))
      | ((with_reducible refine wpl_storem aggM rfl (.tmp 56) (.tmp 52) rfl g3 21 (cellsB mac) _ _ rfl rfl _ H16.out.b3 HMc.out (slotC_len16 _ H16.out.n16 H16.out.m16).2 (slotC_smac H16.out.n16 H16.out.m16 mac HM16.out) (cellsB_one _) ?_); intro w17 hB17 hF17; have H17 := hide (H16.out.put hF17 hB17 HN16.out HM16.out); have hB3 : Blk w17 g3 51 (slotC D).toArray := by rw [HD2.out]; exact hB17)
      | (with_reducible refine wpl_loada (op := ⟨some 57, _, _, _, _, _⟩) aggS rfl _ rfl g3 0 rfl _ _ (slotC D) hB3 (by rw [List.drop_zero, List.take_of_length_le (by rw [HDL.out]; exact Nat.le_refl _)]) (by rw [HDL.out]; exact Nat.le_refl _) ?_)
      | ((with_reducible refine wpl_storea aggS rfl (.tmp 2) (.tmp 57) rfl g2 (slotC D) rfl rfl _ _ H17.out.b2 HDL.out slot0_len HDO.out ?_); intro w18 hB18 hF18))
    refine ret_agg aggS rfl rfl g2 _ _ rfl hB18 HDL.out ⟨rfl, ?_⟩
    exact below_frm H17.out.bel hF18 H17.out.bel.size (fun k hk => by have := H17.out.ne; omega)
  · have hk2 : ¬ (k : Int) = 1 := by omega
    go_wp2_with fail
    have H7 := hide (H6.out.set 1 (.int .u16 (to : Int)) (s' := { slot0 with next := to }) rfl rfl rfl)
    have HD2 : Hid (D = ⟨false, to, 0, who, epoch, nonce, mac, lo, hi, delay⟩) := by show _ = _; rw [HD.out]; simp only [decide_eq_false hk1, if_neg hk1]
    clear H6 hfz c0 c1 c2 c3 c4 c5 c6 c7 HD
    simp only [slot0] at H7
    refine (u64_ok g d (b.drop 3) _ H7.out.rd (by rw [List.length_drop, HB.out]; omega) (by rw [List.length_drop, HB.out]; omega)).mono ?_
    rintro e w8 ⟨rfl, hr8, hf8⟩
    rw [← Hlo.out]
    rw [List.drop_drop] at hr8
    have H8 := hide (H7.out.read hr8 hf8)
    obtain ⟨hfz, c0, c1, c2, c3, c4, c5, c6, c7⟩ := H8.out.cells
    clear hr8 hf8 H7
    go_wp2_with fail
    have H9 := hide (H8.out.set 37 (.int .u64 (lo : Int)) (slotC_slo H8.out.n16 H8.out.m16 lo) rfl rfl)
    clear H8 hfz c0 c1 c2 c3 c4 c5 c6 c7
    refine (u64_ok g d (b.drop 11) _ H9.out.rd (by rw [List.length_drop, HB.out]; omega) (by rw [List.length_drop, HB.out]; omega)).mono ?_
    rintro e w10 ⟨rfl, hr8, hf8⟩
    rw [← Hhi.out]
    rw [List.drop_drop] at hr8
    have H10 := hide (H9.out.read hr8 hf8)
    obtain ⟨hfz, c0, c1, c2, c3, c4, c5, c6, c7⟩ := H10.out.cells
    clear hr8 hf8 H9
    go_wp2_with fail
    have H11 := hide (H10.out.set 38 (.int .u64 (hi : Int)) (slotC_shi H10.out.n16 H10.out.m16 hi) rfl rfl)
    clear H10 hfz c0 c1 c2 c3 c4 c5 c6 c7
    refine (u32_ok g d (b.drop 19) _ H11.out.rd (by rw [List.length_drop, HB.out]; omega) (by rw [List.length_drop, HB.out]; omega)).mono ?_
    rintro e w12 ⟨rfl, hr8, hf8⟩
    rw [← Hdelay.out]
    rw [List.drop_drop] at hr8
    have H12 := hide (H11.out.read hr8 hf8)
    obtain ⟨hfz, c0, c1, c2, c3, c4, c5, c6, c7⟩ := H12.out.cells
    clear hr8 hf8 H11
    go_wp2_with fail
    have H13 := hide (H12.out.set 39 (.int .u32 (delay : Int)) (slotC_sdelay H12.out.n16 H12.out.m16 delay) rfl rfl)
    clear H12 hfz c0 c1 c2 c3 c4 c5 c6 c7
    refine (takeSeal_any g d (b.drop 23) _ H13.out.rd (by rw [List.length_drop, HB.out]; omega) (by rw [List.length_drop, HB.out]; omega) (fun j hj => (H13.out.d0 j hj).2.2.2)).mono ?_
    rintro e w14 ⟨rfl, hr8, hf8⟩
    simp only [List.drop_drop, Nat.reduceAdd]
    rw [← Hwho.out, ← Hepoch.out, ← Hnonce.out, ← Hmac.out]
    have H14 := hide (H13.out.read hr8 hf8)
    obtain ⟨hfz, c0, c1, c2, c3, c4, c5, c6, c7⟩ := H14.out.cells
    have H15 := hide ((H14.out.set 3 (.int .u16 (who : Int)) (s' := ⟨false, to, 0, who, 0, Z16, Z16, lo, hi, delay⟩) rfl rfl rfl).set 4 (.int .u32 (epoch : Int)) (s' := ⟨false, to, 0, who, epoch, Z16, Z16, lo, hi, delay⟩) rfl rfl rfl)
    have hNc : (cellsB nonce).length = 16 := by rw [cellsB_length]; exact HN16.out
    have hMc : (cellsB mac).length = 16 := by rw [cellsB_length]; exact HM16.out
    have HNc := hide hNc
    have HMc := hide hMc
    clear hr8 hf8 H13 H14 hNc hMc
    go_wp2_with (first
      | ((with_reducible refine wpl_storem aggN rfl (.tmp 55) (.tmp 51) rfl g3 5 (cellsB nonce) _ _ rfl rfl _ H15.out.b3 HNc.out (slotC_len16 _ H15.out.n16 H15.out.m16).1 (slotC_snonce H15.out.n16 nonce HN16.out) (cellsB_one _) ?_); intro w16 hB16 hF16; have H16 := hide (H15.out.put hF16 hB16 HN16.out rfl))
      | ((with_reducible refine wpl_storem aggM rfl (.tmp 56) (.tmp 52) rfl g3 21 (cellsB mac) _ _ rfl rfl _ H16.out.b3 HMc.out (slotC_len16 _ H16.out.n16 H16.out.m16).2 (slotC_smac H16.out.n16 H16.out.m16 mac HM16.out) (cellsB_one _) ?_); intro w17 hB17 hF17; have H17 := hide (H16.out.put hF17 hB17 HN16.out HM16.out); have hB3 : Blk w17 g3 51 (slotC D).toArray := by rw [HD2.out]; exact hB17)
      | (with_reducible refine wpl_loada (op := ⟨some 57, _, _, _, _, _⟩) aggS rfl _ rfl g3 0 rfl _ _ (slotC D) hB3 (by rw [List.drop_zero, List.take_of_length_le (by rw [HDL.out]; exact Nat.le_refl _)]) (by rw [HDL.out]; exact Nat.le_refl _) ?_)
      | ((with_reducible refine wpl_storea aggS rfl (.tmp 2) (.tmp 57) rfl g2 (slotC D) rfl rfl _ _ H17.out.b2 HDL.out slot0_len HDO.out ?_); intro w18 hB18 hF18))
    refine ret_agg aggS rfl rfl g2 _ _ rfl hB18 HDL.out ⟨rfl, ?_⟩
    exact below_frm H17.out.bel hF18 H17.out.bel.size (fun k hk => by have := H17.out.ne; omega)
def okB (b : List UInt8) : Bool := rightB (decM b) && (encM (decM b) == b)
/-- What Decode tells. -/
def ansM (b : List UInt8) : Slot := if okB b = true then decM b else slot0
def errD (b : List UInt8) : Int := if okB b = true then 0 else 3
theorem ansM_ok {b : List UInt8} (hb : b.length = 64) : (ansM b).ok := by
  unfold ansM
  split
  · exact decM_ok b hb
  · exact slot0_ok
set_option maxHeartbeats 8000000 in
set_option maxRecDepth 100000 in
theorem decode_any (b : List UInt8) (hb : b.length = 64) (w : World) : Calls Tryz.prog 30 #[.agg (cellsB b).toArray] w fun e w' => e = .returned (.tuple #[.agg (slotC (ansM b)).toArray, .int .i64 (errD b)]) ∧ Below w.heap.size w w' := by
  have hok := decM_ok b hb
  have HDL := hide (slotC_length _ hok.nonce hok.mac)
  have HDO := hide (slotC_one (decM b))
  have HAL := hide (slotC_length _ (ansM_ok hb).nonce (ansM_ok hb).mac)
  have HAO := hide (slotC_one (ansM b))
  have HRD := hide (sread_any b hb)
  have HEN := hide (encode_any (decM b) hok)
  have HOL := hide (outM_length hok)
  have HO : Hid (outM (decM b) = if rightB (decM b) = true then encM (decM b) else zeros 64) := rfl
  have HR : Hid (errR (decM b) = if rightB (decM b) = true then 0 else 1) := rfl
  have HA : Hid (ansM b = if okB b = true then decM b else slot0) := rfl
  have HE : Hid (errD b = if okB b = true then 0 else 3) := rfl
  have HK : Hid (okB b = (rightB (decM b) && (encM (decM b) == b))) := rfl
  have HB := hide hb
  have hBc : (cellsB b).length = 64 := by rw [cellsB_length, hb]
  have HBc := hide hBc
  have HBT : Hid (((cellsB b).drop 0).take 64 = cellsB b) := by show _ = _; rw [List.drop_zero, List.take_of_length_le]; rw [hBc]; exact Nat.le_refl _
  have hEQ := fun w => eq_bytes 9998 under64b (outM (decM b)) b HOL.out hb w
  have HEQ := hide hEQ
  clear hok hb hBc hEQ
  generalize hD : decM b = D at *
  generalize ansM b = ANS at *
  generalize errD b = ERRD at *
  generalize okB b = OK at *
  generalize errR D = ERRR at *
  generalize rightB D = R at *
  generalize encM D = ENC at *
  have HOc : Hid ((cellsB (outM D)).length = 64) := by show _ = _; rw [cellsB_length, HOL.out]
  generalize outM D = OUT at *
  clear hD
  go_enter Tryz.func30, Tryz.ntmps30
  go_wp2_with (first
    | ((with_reducible refine wpl_boxa (op := ⟨some 1, _, _, _, _, _⟩) rfl _ _ rfl (cellsB b) rfl ?_); intro g1 w1 hB1 hg1 hF1)
    | ((with_reducible refine wpl_alloca (op := ⟨some 2, _, _, _, _, _⟩) rfl _ rfl _ zeroS ?_); intro g2 w2 hB2 hg2 hF2; have hB12 := hB1.frm hF2 (fun h => h))
    | (with_reducible refine wpl_loada (op := ⟨some 7, _, _, _, _, _⟩) agg64b rfl _ rfl g1 0 rfl _ _ (cellsB b) hB12 HBT.out (by rw [HBc.out]; exact Nat.le_refl _) ?_))
  refine (HRD.out w2).mono ?_
  rintro e w3 ⟨rfl, hb3⟩
  have hF3 : Frm (fun _ => False) w2 w3 := Frm.of_below hb3
  have hB13 := hB12.frm hF3 (fun h => h)
  have hB23 := hB2.frm hF3 (fun h => h)
  have HF03 := hide ((hF1.trans hF2 (fun _ _ h => h)).trans hF3 (fun _ _ h => h))
  have HG12 : Hid (g1 < w3.heap.size ∧ g2 < w3.heap.size ∧ w.heap.size ≤ g1 ∧ w.heap.size ≤ g2 ∧ g1 ≠ g2) := ⟨hB13.lt, hB23.lt, hg1, by have := hF1.size; omega, by have := hB1.lt; omega⟩
  clear HRD hb3 hF1 hF2 hF3 hg1 hg2 hB1 hB12 hB2
  go_wp2_with (first
    | ((with_reducible refine wpl_alloca (op := ⟨some 4, _, _, _, _, _⟩) rfl _ rfl _ zeroS ?_); intro g4 w4 hB4 hg4 hF4)
    | ((with_reducible refine wpl_storea aggS rfl (.tmp 4) (.tmp 8) rfl g4 (slotC D) rfl rfl _ _ hB4 HDL.out slot0_len HDO.out ?_); intro w5 hB5 hF5)
    | (with_reducible refine wpl_loada (op := ⟨some 10, _, _, _, _, _⟩) aggS rfl _ rfl g4 0 rfl _ _ (slotC D) hB5 (by rw [List.drop_zero, List.take_of_length_le (by rw [HDL.out]; exact Nat.le_refl _)]) (by rw [HDL.out]; exact Nat.le_refl _) ?_))
  have hF35 : Frm (fun k => k = g4) w3 w5 := (hF4.mono (fun _ _ h => h.elim)).trans hF5 (fun _ _ h => h)
  have HG4 : Hid (w3.heap.size ≤ g4) := hg4
  have hB15 := hB13.frm hF35 (fun e => by have := HG12.out; omega)
  have hB25 := hB23.frm hF35 (fun e => by have := HG12.out; omega)
  have HB05 : Hid (Below w.heap.size w w5) := below_frm (HF03.out.below (Nat.le_refl _) (fun _ h => h.elim)) hF35 HF03.out.size (fun k hk => by have := HF03.out.size; have := HG4.out; omega)
  clear hF4 hF5 hF35 hg4 hB4 hB13 hB23 HF03
  refine (HEN.out w5).mono ?_
  rintro e w6 ⟨rfl, hb6⟩
  have hF6 : Frm (fun _ => False) w5 w6 := Frm.of_below hb6
  have hB16 := hB15.frm hF6 (fun h => h)
  have hB26 := hB25.frm hF6 (fun h => h)
  have hB46 := hB5.frm hF6 (fun h => h)
  have HB06 : Hid (Below w.heap.size w w6) := below_frm HB05.out hF6 HB05.out.size (fun _ h => h.elim)
  clear hF6 hb6 hB15 hB25 hB5 HB05 HEN
  rcases hR : R with _ | _
  · have he1 : ERRR = 1 := by rw [HR.out, hR]; rfl
    have hok : OK = false := by rw [HK.out, hR]; rfl
    have ha : ANS = slot0 := by rw [HA.out, hok]; rfl
    have hd : ERRD = 3 := by rw [HE.out, hok]; rfl
    subst he1 ha hd
    clear HR HK HA HE HO hR hok
    have hbd := build_slot0
    go_wp2_with (first
      | ((with_reducible refine wpl_alloca (op := ⟨some 5, _, _, _, _, _⟩) rfl _ rfl _ zero64 ?_); intro g5 w7 hB7 hg7 hF7)
      | ((with_reducible refine wpl_storea agg64b rfl (.tmp 5) (.tmp 12) rfl g5 (cellsB OUT) rfl rfl _ _ hB7 HOc.out z64_len (cellsB_one _) ?_); intro w8 hB8 hF8; have hF68 : Frm (fun k => k = g5) w6 w8 := (hF7.mono (fun _ _ h => h.elim)).trans hF8 (fun _ _ h => h); have hB28 := hB26.frm hF68 (fun e => by have := hB26.lt; omega))
      | (refine wpl_held (op := ⟨some 21, _, _, _, _, _⟩) (.agg (slotC slot0).toArray) (held_build _ _ rfl _ _ (hbd _) rfl) rfl ?_)
      | ((with_reducible refine wpl_storea aggS rfl (.tmp 2) (.tmp 21) rfl g2 (slotC slot0) rfl rfl _ _ hB28 HAL.out slot0_len HAO.out ?_); intro w9 hB9 hF9))
    refine bodyPost_ret (results_ct aggS rfl _ _ g2 _ _ rfl hB9 HAL.out) rfl ⟨rfl, ?_⟩
    have h1 := below_frm HB06.out hF68 HB06.out.size (fun k hk => by have := HB06.out.size; omega)
    exact below_frm h1 hF9 h1.size (fun k hk => by have := HG12.out; omega)
  · have he1 : ERRR = 0 := by rw [HR.out, hR]; rfl
    have ho1 : OUT = ENC := by rw [HO.out, hR]; rfl
    have hok : OK = (OUT == b) := by rw [HK.out, hR, ho1, Bool.true_and]
    subst he1
    clear HR HK HO hR ho1
    rcases heq : (OUT == b) with _ | _
    · have ha : ANS = slot0 := by rw [HA.out, hok, heq]; rfl
      have hd : ERRD = 3 := by rw [HE.out, hok, heq]; rfl
      subst ha hd
      rw [heq] at HEQ
      clear HA HE hok heq
      have hbd := build_slot0
      go_wp2_with (first
        | ((with_reducible refine wpl_alloca (op := ⟨some 5, _, _, _, _, _⟩) rfl _ rfl _ zero64 ?_); intro g5 w7 hB7 hg7 hF7)
        | ((with_reducible refine wpl_storea agg64b rfl (.tmp 5) (.tmp 12) rfl g5 (cellsB OUT) rfl rfl _ _ hB7 HOc.out z64_len (cellsB_one _) ?_); intro w8 hB8 hF8; have hF68 : Frm (fun k => k = g5) w6 w8 := (hF7.mono (fun _ _ h => h.elim)).trans hF8 (fun _ _ h => h); have hB28 := hB26.frm hF68 (fun e => by have := hB26.lt; omega); have hB18 := hB16.frm hF68 (fun e => by have := hB16.lt; omega))
        | (refine wpl_held (op := ⟨some 17, _, _, _, _, _⟩) (.agg (cellsB OUT).toArray) (held_loada agg64b _ rfl g5 0 rfl _ _ (cellsB OUT) hB8 (by rw [List.drop_zero, List.take_of_length_le (by rw [HOc.out]; exact Nat.le_refl _)]) (by rw [HOc.out]; exact Nat.le_refl _)) rfl ?_)
        | (refine wpl_held (op := ⟨some 18, _, _, _, _, _⟩) (.agg (cellsB b).toArray) (held_loada agg64b _ rfl g1 0 rfl _ _ (cellsB b) hB18 HBT.out (by rw [HBc.out]; exact Nat.le_refl _)) rfl ?_)
        | (refine wpl_held (op := ⟨some 19, _, _, _, _, _⟩) (.bool (!false)) (held_neq _ _ _ _ rfl (cellsB OUT) (cellsB b) rfl rfl false (HEQ.out _) Tryz.eqGuardType84) rfl ?_)
        | (refine wpl_held (op := ⟨some 21, _, _, _, _, _⟩) (.agg (slotC slot0).toArray) (held_build _ _ rfl _ _ (hbd _) rfl) rfl ?_)
        | ((with_reducible refine wpl_storea aggS rfl (.tmp 2) (.tmp 21) rfl g2 (slotC slot0) rfl rfl _ _ hB28 HAL.out slot0_len HAO.out ?_); intro w9 hB9 hF9))
      refine bodyPost_ret (results_ct aggS rfl _ _ g2 _ _ rfl hB9 HAL.out) rfl ⟨rfl, ?_⟩
      have h1 := below_frm HB06.out hF68 HB06.out.size (fun k hk => by have := HB06.out.size; omega)
      exact below_frm h1 hF9 h1.size (fun k hk => by have := HG12.out; omega)
    · have ha : ANS = D := by rw [HA.out, hok, heq]; rfl
      have hd : ERRD = 0 := by rw [HE.out, hok, heq]; rfl
      subst ha hd
      rw [heq] at HEQ
      clear HA HE hok heq
      go_wp2_with (first
        | ((with_reducible refine wpl_alloca (op := ⟨some 5, _, _, _, _, _⟩) rfl _ rfl _ zero64 ?_); intro g5 w7 hB7 hg7 hF7)
        | ((with_reducible refine wpl_storea agg64b rfl (.tmp 5) (.tmp 12) rfl g5 (cellsB OUT) rfl rfl _ _ hB7 HOc.out z64_len (cellsB_one _) ?_); intro w8 hB8 hF8; have hF68 : Frm (fun k => k = g5) w6 w8 := (hF7.mono (fun _ _ h => h.elim)).trans hF8 (fun _ _ h => h); have hB28 := hB26.frm hF68 (fun e => by have := hB26.lt; omega); have hB18 := hB16.frm hF68 (fun e => by have := hB16.lt; omega); have hB48 := hB46.frm hF68 (fun e => by have := hB46.lt; omega))
        | (refine wpl_held (op := ⟨some 17, _, _, _, _, _⟩) (.agg (cellsB OUT).toArray) (held_loada agg64b _ rfl g5 0 rfl _ _ (cellsB OUT) hB8 (by rw [List.drop_zero, List.take_of_length_le (by rw [HOc.out]; exact Nat.le_refl _)]) (by rw [HOc.out]; exact Nat.le_refl _)) rfl ?_)
        | (refine wpl_held (op := ⟨some 18, _, _, _, _, _⟩) (.agg (cellsB b).toArray) (held_loada agg64b _ rfl g1 0 rfl _ _ (cellsB b) hB18 HBT.out (by rw [HBc.out]; exact Nat.le_refl _)) rfl ?_)
        | (refine wpl_held (op := ⟨some 19, _, _, _, _, _⟩) (.bool (!true)) (held_neq _ _ _ _ rfl (cellsB OUT) (cellsB b) rfl rfl true (HEQ.out _) Tryz.eqGuardType84) rfl ?_)
        | (with_reducible refine wpl_loada (op := ⟨some 22, _, _, _, _, _⟩) aggS rfl _ rfl g4 0 rfl _ _ (slotC ANS) hB48 (by rw [List.drop_zero, List.take_of_length_le (by rw [HAL.out]; exact Nat.le_refl _)]) (by rw [HAL.out]; exact Nat.le_refl _) ?_)
        | ((with_reducible refine wpl_storea aggS rfl (.tmp 2) (.tmp 22) rfl g2 (slotC ANS) rfl rfl _ _ hB28 HAL.out slot0_len HAO.out ?_); intro w9 hB9 hF9))
      refine bodyPost_ret (results_ct aggS rfl _ _ g2 _ _ rfl hB9 HAL.out) rfl ⟨rfl, ?_⟩
      have h1 := below_frm HB06.out hF68 HB06.out.size (fun k hk => by have := HB06.out.size; omega)
      exact below_frm h1 hF9 h1.size (fun k hk => by have := HG12.out; omega)
theorem step_held {P : Program} {ops : Array Oper} {op : Oper} {a : Act} {w : World} {K : Act → World → Prop} {Q : Exit → Act → World → Prop} {E : Prop} (v : Value) (hv : (execOp a.eval op).run P w = .ok (.value v) w) (hw : Region.wanted op (yielded ops a.tmps) = true)
    (h : K (a.put op.dst v) w) : if Region.wanted op (yielded ops a.tmps) = true then Oper.wp P op a w K Q else E := by
  rw [if_pos hw]
  unfold Oper.wp
  rw [hv]
  exact h
theorem step_storem {P : Program} {ty : TypeId} {n : Nat} (hA : Agg P ty n) {ops : Array Oper} {op : Oper} {a : Act} {w : World} {K : Act → World → Prop} {Q : Exit → Act → World → Prop} {E : Prop} (hgd : op.guard = none) (x y : Operand) (ho : op.op = .store ty x y)
    (g off : Nat) (vs cs cs' : List Value) (hx : a.eval x = .pointer (some ⟨g, off, none⟩)) (hy : a.eval y = .agg vs.toArray) (t : TypeId) (hb : Blk w g t cs.toArray) (hn : vs.length = n) (hfit : off + n ≤ cs.length) (hc : splice cs off vs = cs') (h1 : ∀ v ∈ vs, v.oneCell' = true)
    (h : ∀ w', Blk w' g t cs'.toArray → Frm (fun k => k = g) w w' → K (a.put op.dst undef) w') : if Region.wanted op (yielded ops a.tmps) = true then Oper.wp P op a w K Q else E := by
  have hw : Region.wanted op (yielded ops a.tmps) = true := by simp [Region.wanted, hgd]
  rw [if_pos hw]
  refine wp_store_mid ty x y ho g off vs.toArray hx hy (fun q hq => ⟨?_, hb.frozen _⟩) ?_ (all_oneCell_toArray h1) ?_
  · have hq4 : q < n := by rw [← hn]; simpa using hq
    rw [hb.cell, Array.getElem?_eq_getElem (by rw [List.size_toArray]; omega)]; rfl
  · rw [hA.2, ← hn]; simp
  · obtain ⟨h2, h3⟩ := blk_setCellsL vs off w cs hb (by omega)
    rw [hc] at h2
    exact h _ h2 h3
theorem build_pkt0 (w : World) : Sem.run Tryz.prog (Instr.build 34 #[]) w = .ok (.agg (pktC pkt0).toArray) w := run_build w _ _ _ (by kernel_rfl)
theorem pktC_fits {p : Pkt} (h : p.ok) : 2 + 16 ≤ (pktC p).length ∧ 18 + 16 ≤ (pktC p).length ∧ 34 + 320 ≤ (pktC p).length ∧ 354 + 256 ≤ (pktC p).length := by
  rw [pktC_length h]
  decide
end Go.Proofs.YtoiiiflnnhkjbaaGreatDoor
