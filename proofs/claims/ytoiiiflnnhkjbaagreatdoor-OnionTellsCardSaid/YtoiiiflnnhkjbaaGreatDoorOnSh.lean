/-
  What must be in any case.
-/
import Derived.Test.YtoiiiflnnhkjbaaGreatDoorOnT
namespace Go.Proofs.YtoiiiflnnhkjbaaGreatDoor
set_option linter.unusedVariables false
set_option linter.unusedSimpArgs false
open Go.RowKit

theorem oneBool : (Tryz.prog.info? 4).map (·.size) = some 1 := by kernel_rfl
def shK (b : UInt8) : List UInt8 := b :: List.replicate 31 0
def shN (b : UInt8) : List UInt8 := b :: List.replicate 15 0
def shA : HopL := ⟨1, 7, shK 1, 0, shN 3, 0, 9, 4⟩
def shB : HopL := ⟨2, 8, shK 2, 0, shN 4, 5, 6, 0⟩
def shBody : List UInt8 := [1, 2, 3] ++ zeros 253
theorem shA_ok : shA.ok := ⟨by decide, by decide, rfl, by decide, rfl, by decide, by decide, by decide⟩
theorem shB_ok : shB.ok := ⟨by decide, by decide, rfl, by decide, rfl, by decide, by decide, by decide⟩
theorem shBody_len : shBody.length = 256 := by rw [shBody, List.length_append, zeros_length]; rfl
theorem sh_right : rightH [shA, shB] = true := by decide
theorem sh_hops : ∀ h ∈ [shA, shB], h.ok := by
  intro h hh
  simp at hh
  rcases hh with rfl | rfl
  · exact shA_ok
  · exact shB_ok
theorem sh_wins : ∀ h ∈ [shA, shB], h.lo ≤ h.hi := by
  intro h hh
  simp at hh
  rcases hh with rfl | rfl <;> decide
theorem turned_ne (l : List UInt8) (hl : l.length = 16) : l ≠ l.set 0 (l.getD 0 0 ^^^ 1) := by
  match l, hl with
  | a :: t, _ =>
    intro h
    have : a = a ^^^ 1 := by injection h
    have h2 : a ^^^ a = a ^^^ (a ^^^ 1) := by rw [← this]
    rw [UInt8.xor_self, ← UInt8.xor_assoc, UInt8.xor_self, UInt8.zero_xor] at h2
    cases h2
theorem turn_four (k : List UInt8) (P : Pkt) (hp : P.ok) (h0 : peelE k P = 0) : peelE k { P with mac := P.mac.set 0 (P.mac.getD 0 0 ^^^ 1) } = 4 := by
  rw [peelE_four, macO_mac]
  by_cases h : macO k P = P.mac
  · rw [h]; exact turned_ne _ hp.mac
  · have h4 := (peelE_four _ _).2 h
    rw [h0] at h4
    cases h4
structure ShF (P0 P1 P2 Px : Pkt) (S0 S1 Sx : Slot) (Py : Pkt) : Prop where
  b : buildP [shA, shB] 77 shBody = P0 ∧ buildE [shA, shB] = 0
  p0 : peelE (shK 1) P0 = 0 ∧ peelS (shK 1) P0 = S0 ∧ peelP (shK 1) P0 = P1
  p1 : peelE (shK 2) P1 = 0 ∧ peelS (shK 2) P1 = S1 ∧ peelP (shK 2) P1 = P2
  px : peelE (shK 1) Px = 4 ∧ peelS (shK 1) Px = Sx ∧ peelP (shK 1) Px = Py
  x : Px = { P0 with mac := P0.mac.set 0 (P0.mac.getD 0 0 ^^^ 1) }
  ok : P0.ok ∧ P1.ok ∧ P2.ok ∧ Px.ok ∧ S0.ok ∧ S1.ok ∧ Sx.ok ∧ Py.ok
  s0 : S0.last = false ∧ S0.next = 2 ∧ S0.delay = 4 ∧ S0.hi = 9
  s1 : S1.last = true ∧ S1.box = 77 ∧ S1.lo = 5
  bd : P2.body = shBody
theorem sh_facts : ∃ P0 P1 P2 Px S0 S1 Sx Py, ShF P0 P1 P2 Px S0 S1 Sx Py := by
  have h0 := peel_build [shA, shB] (by decide) sh_hops sh_wins shBody shBody_len 77 (by decide) 0 (by decide)
  have h1 := peel_build [shA, shB] (by decide) sh_hops sh_wins shBody shBody_len 77 (by decide) 1 (by decide)
  have hb := build_first [shA, shB] 77 shBody sh_right
  have hok0 : (pktAt [shA, shB] 77 shBody 0).ok := by rw [← hb]; exact buildP_ok sh_hops shBody_len (by decide)
  have hok1 : (pktAt [shA, shB] 77 shBody 1).ok := by rw [← h0.2.2]; exact peelP_ok _ hok0
  have hok2 : (pktAt [shA, shB] 77 shBody 2).ok := by rw [← h1.2.2]; exact peelP_ok _ hok1
  have hs0 : (slotAt [shA, shB] 77 shBody 0).ok := by rw [← h0.2.1]; exact peelS_ok _ hok0
  have hs1 : (slotAt [shA, shB] 77 shBody 1).ok := by rw [← h1.2.1]; exact peelS_ok _ hok1
  have hokx := hok0.setM 0 ((pktAt [shA, shB] 77 shBody 0).mac.getD 0 0 ^^^ 1)
  refine ⟨pktAt [shA, shB] 77 shBody 0, pktAt [shA, shB] 77 shBody 1, pktAt [shA, shB] 77 shBody 2, _, slotAt [shA, shB] 77 shBody 0, slotAt [shA, shB] 77 shBody 1, _, _, ⟨⟨hb, by unfold buildE; rw [if_pos sh_right]⟩, h0, h1, ⟨turn_four _ _ hok0 h0.1, rfl, rfl⟩, rfl, ⟨hok0, hok1, hok2, hokx, hs0, hs1, peelS_ok _ hokx, peelP_ok _ hokx⟩, ⟨rfl, rfl, rfl, rfl⟩, ⟨rfl, rfl, rfl⟩, rfl⟩⟩
theorem bK (b : UInt8) (w : World) : Sem.run Tryz.prog (Instr.build 26 #[(0, .int .u8 (b.toNat : Int))]) w = .ok (.agg (cellsB (shK b)).toArray) w := run_build w _ _ _ (by kernel_rfl)
theorem bN (b : UInt8) (w : World) : Sem.run Tryz.prog (Instr.build 30 #[(0, .int .u8 (b.toNat : Int))]) w = .ok (.agg (cellsB (shN b)).toArray) w := run_build w _ _ _ (by kernel_rfl)
theorem bA (w : World) : Sem.run Tryz.prog (Instr.build 63 #[(0, .int .u16 1), (1, .int .u16 7), (2, .agg (cellsB (shK 1)).toArray), (4, .agg (cellsB (shN 3)).toArray), (6, .int .u64 9), (7, .int .u32 4)]) w = .ok (.agg (hopC shA).toArray) w := run_build w _ _ _ (by kernel_rfl)
theorem bB (w : World) : Sem.run Tryz.prog (Instr.build 63 #[(0, .int .u16 2), (1, .int .u16 8), (2, .agg (cellsB (shK 2)).toArray), (4, .agg (cellsB (shN 4)).toArray), (5, .int .u64 5), (6, .int .u64 6)]) w = .ok (.agg (hopC shB).toArray) w := run_build w _ _ _ (by kernel_rfl)
theorem bBody (w : World) : Sem.run Tryz.prog (Instr.build 24 #[(0, .int .u8 1), (1, .int .u8 2), (2, .int .u8 3)]) w = .ok (.agg (cellsB shBody).toArray) w := run_build w _ _ _ (by kernel_rfl)

set_option maxHeartbeats 16000000 in
set_option maxRecDepth 100000 in
theorem shown_o (w : World) (hT : Tb w) : Calls Tryz.prog 4 #[] w fun e w' => e = .returned (.bool true) ∧ Below w.heap.size w w' := by
  have H := hide (OAt.start hT)
  obtain ⟨P0, P1, P2, Px, S0, S1, Sx, Py, F⟩ := sh_facts
  have hb1 : Hid (∀ w, Sem.run Tryz.prog (Instr.build 26 #[(0, .int .u8 1)]) w = .ok (.agg (cellsB (shK 1)).toArray) w) := bK 1
  have hb2 : Hid (∀ w, Sem.run Tryz.prog (Instr.build 26 #[(0, .int .u8 2)]) w = .ok (.agg (cellsB (shK 2)).toArray) w) := bK 2
  have hb3 : Hid (∀ w, Sem.run Tryz.prog (Instr.build 30 #[(0, .int .u8 3)]) w = .ok (.agg (cellsB (shN 3)).toArray) w) := bN 3
  have hb4 : Hid (∀ w, Sem.run Tryz.prog (Instr.build 30 #[(0, .int .u8 4)]) w = .ok (.agg (cellsB (shN 4)).toArray) w) := bN 4
  have hbA := hide bA
  have hbB := hide bB
  have hbY := hide bBody
  have HLA := hide (hopC_length shA_ok)
  have HLB := hide (hopC_length shB_ok)
  have HLY := hide (cl shBody_len)
  have HBU : Hid (∀ (W : World) (g : Nat), Tb W → HRow W (some ⟨g, 0, none⟩) 2 [shA, shB] → Calls Tryz.prog 5 #[.slice (some ⟨g, 0, none⟩) 2 2, .int .u16 77, .agg (cellsB shBody).toArray] W fun e w' => e = .returned (.tuple #[.agg (pktC P0).toArray, .int .i64 0]) ∧ Below W.heap.size W w') := fun W g hT hr => by
    have := build_any (some ⟨g, 0, none⟩) 2 2 77 [shA, shB] shBody W hr (by decide) (by decide) shBody_len hT
    rw [F.b.1, F.b.2] at this
    exact this
  have peel : ∀ (k : List UInt8) (p q : Pkt) (s : Slot) (e0 : Int), k.length = 32 → p.ok → (peelE k p = e0 ∧ peelS k p = s ∧ peelP k p = q) → Hid (∀ W, Tb W → Calls Tryz.prog 9 #[.agg (cellsB k).toArray, .agg (pktC p).toArray] W fun e w' => e = .returned (.tuple #[.agg (slotC s).toArray, .agg (pktC q).toArray, .int .i64 e0]) ∧ Below W.heap.size W w') := by
    rintro k p q s e0 hk hp ⟨rfl, rfl, rfl⟩
    exact fun W hT => peel_any k p hk hp W hT
  have HP0 := peel (shK 1) P0 P1 S0 0 rfl F.ok.1 F.p0
  have HP1 := peel (shK 2) P1 P2 S1 0 rfl F.ok.2.1 F.p1
  have HPx := peel (shK 1) Px Py Sx 4 rfl F.ok.2.2.2.1 F.px
  clear peel
  obtain ⟨o0, o1, o2, ox, t0, t1, tx, oy⟩ := F.ok
  have HL0 := hide (pktC_length o0)
  have HL1 := hide (pktC_length o1)
  have HL2 := hide (pktC_length o2)
  have HLx := hide (pktC_length ox)
  have HLy := hide (pktC_length oy)
  have HS0 := hide (slotC_length S0 t0.nonce t0.mac)
  have HS1 := hide (slotC_length S1 t1.nonce t1.mac)
  have HSx := hide (slotC_length Sx tx.nonce tx.mac)
  have c0 : Hid ((slotC S0)[0]? = some (.bool false)) := by show _ = _; rw [← F.s0.1]; rfl
  have c1 : Hid ((slotC S0)[1]? = some (.int .u16 2)) := by show _ = _; rw [slotC_at1, F.s0.2.1]; rfl
  have c39 : Hid ((slotC S0)[39]? = some (.int .u32 4)) := by show _ = _; rw [slotC_delay t0.nonce t0.mac, F.s0.2.2.1]; rfl
  have c38 : Hid ((slotC S0)[38]? = some (.int .u64 9)) := by show _ = _; rw [slotC_hi t0.nonce t0.mac, F.s0.2.2.2]; rfl
  have d0 : Hid ((slotC S1)[0]? = some (.bool true)) := by show _ = _; rw [← F.s1.1]; rfl
  have d2 : Hid ((slotC S1)[2]? = some (.int .u16 77)) := by show _ = _; rw [slotC_at2, F.s1.2.1]; rfl
  have d37 : Hid ((slotC S1)[37]? = some (.int .u64 5)) := by show _ = _; rw [slotC_lo t1.nonce t1.mac, F.s1.2.2]; rfl
  have HM0 : Hid ((pktC P0)[18]? = some (.int .u8 ((P0.mac.getD 0 0).toNat : Int))) := pktC_getM o0 0 (by decide)
  have HMx : Hid ((pktC P0).set 18 (.int .u8 ((P0.mac.getD 0 0 ^^^ 1).toNat : Int)) = pktC Px) := by show _ = _; rw [F.x]; exact pktC_setM o0 0 _ (by decide)
  have hxor : bits .xor .u8 ((P0.mac.getD 0 0).toNat : Int) 1 = ((P0.mac.getD 0 0 ^^^ 1).toNat : Int) := byte_xor _ 1
  have HBd : Hid (((pktC P2).drop 354).take 256 = cellsB shBody) := by show _ = _; rw [pktC_body o2, F.bd]
  have HEQ := hide (fun w => eq_bytes 9998 under256 shBody shBody shBody_len shBody_len w)
  have hself : (shBody == shBody) = true := by simp
  rw [hself] at HEQ
  clear F o0 o1 o2 ox oy t0 t1 tx hself
  generalize P0.mac.getD 0 0 = m0 at *
  generalize m0 ^^^ 1 = m1 at *
  generalize shK 1 = K1 at *
  generalize shK 2 = K2 at *
  generalize shN 3 = N3 at *
  generalize shN 4 = N4 at *
  generalize shBody = BD at *
  have HKA := hide shA_ok
  have HKB := hide shB_ok
  generalize shA = hA at *
  generalize shB = hB at *
  clear hT
  go_enter Tryz.func4, Tryz.ntmps4
  go_wp2_with (first
    | (with_reducible refine at_op (op := ⟨some 15, _, _, _, _, _⟩) ?_; refine wpl_held (op := ⟨some 15, _, _, _, _, _⟩) (.agg (cellsB K1).toArray) (held_build _ _ rfl _ _ (hb1.out _) rfl) rfl ?_)
    | (with_reducible refine at_op (op := ⟨some 16, _, _, _, _, _⟩) ?_; refine wpl_held (op := ⟨some 16, _, _, _, _, _⟩) (.agg (cellsB N3).toArray) (held_build _ _ rfl _ _ (hb3.out _) rfl) rfl ?_)
    | (with_reducible refine at_op (op := ⟨some 17, _, _, _, _, _⟩) ?_; refine wpl_held (op := ⟨some 17, _, _, _, _, _⟩) (.agg (hopC hA).toArray) (held_build _ _ rfl _ _ (hbA.out _) rfl) rfl ?_)
    | (with_reducible refine at_op (op := ⟨some 1, _, _, _, _, _⟩) ?_; (with_reducible refine wpl_alloca (op := ⟨some 1, _, _, _, _, _⟩) rfl _ rfl _ zeroH ?_); intro g1 V1 hB1 hg1 hF1; go_simp; (with_reducible refine wpl_storea aggH rfl (.tmp 1) (.tmp 17) rfl g1 (hopC hA) rfl rfl _ _ hB1 HLA.out hop0_len (hopC_one _) ?_); intro W1 hB2 hF2; replace H := hide (H.out.var hg1 hF1 hF2 hB2); clear hB1 hg1 hF1 hB2 hF2)
    | (with_reducible refine at_op (op := ⟨some 18, _, _, _, _, _⟩) ?_; refine wpl_held (op := ⟨some 18, _, _, _, _, _⟩) (.agg (cellsB K2).toArray) (held_build _ _ rfl _ _ (hb2.out _) rfl) rfl ?_)
    | (with_reducible refine at_op (op := ⟨some 19, _, _, _, _, _⟩) ?_; refine wpl_held (op := ⟨some 19, _, _, _, _, _⟩) (.agg (cellsB N4).toArray) (held_build _ _ rfl _ _ (hb4.out _) rfl) rfl ?_)
    | (with_reducible refine at_op (op := ⟨some 20, _, _, _, _, _⟩) ?_; refine wpl_held (op := ⟨some 20, _, _, _, _, _⟩) (.agg (hopC hB).toArray) (held_build _ _ rfl _ _ (hbB.out _) rfl) rfl ?_)
    | (with_reducible refine at_op (op := ⟨some 2, _, _, _, _, _⟩) ?_; (with_reducible refine wpl_alloca (op := ⟨some 2, _, _, _, _, _⟩) rfl _ rfl _ zeroH ?_); intro g2 V2 hB1 hg1 hF1; go_simp; (with_reducible refine wpl_storea aggH rfl (.tmp 2) (.tmp 20) rfl g2 (hopC hB) rfl rfl _ _ hB1 HLB.out hop0_len (hopC_one _) ?_); intro W2 hB2 hF2; replace H := hide (H.out.var hg1 hF1 hF2 hB2); clear hB1 hg1 hF1 hB2 hF2)
    | (with_reducible refine at_op (op := ⟨some 21, _, _, _, _, _⟩) ?_; refine wpl_held (op := ⟨some 21, _, _, _, _, _⟩) (.agg (cellsB BD).toArray) (held_build _ _ rfl _ _ (hbY.out _) rfl) rfl ?_)
    | (with_reducible refine at_op (op := ⟨some 3, _, _, _, _, _⟩) ?_; (with_reducible refine wpl_alloca (op := ⟨some 3, _, _, _, _, _⟩) rfl _ rfl _ zero256 ?_); intro g3 V3 hB1 hg1 hF1; go_simp; (with_reducible refine wpl_storea agg256 rfl (.tmp 3) (.tmp 21) rfl g3 (cellsB BD) rfl rfl _ _ hB1 HLY.out zl_256 (cellsB_one _) ?_); intro W3 hB2 hF2; replace H := hide (H.out.var hg1 hF1 hF2 hB2); clear hB1 hg1 hF1 hB2 hF2)
    | (with_reducible refine at_op (op := ⟨some 23, _, _, _, _, _⟩) ?_; refine wpl_held (op := ⟨some 23, _, _, _, _, _⟩) (.agg (hopC hA).toArray) (held_loadf aggH _ rfl g1 rfl _ (hopC hA) (H.out.get 0 rfl) HLA.out) rfl ?_)
    | (with_reducible refine at_op (op := ⟨some 24, _, _, _, _, _⟩) ?_; refine wpl_held (op := ⟨some 24, _, _, _, _, _⟩) (.agg (hopC hB).toArray) (held_loadf aggH _ rfl g2 rfl _ (hopC hB) (H.out.get 1 rfl) HLB.out) rfl ?_)
    | (with_reducible refine at_op (op := ⟨some 25, _, _, _, _, _⟩) ?_; refine wpl_made2 (op := ⟨some 25, _, _, _, _, _⟩) rfl (.tmp 23) (.tmp 24) rfl hA hB HKA.out HKB.out rfl rfl ?_; intro gr W4 hrow hfr; replace H := hide (H.out.frm hfr); clear hfr)
    | (with_reducible refine at_op (op := ⟨some 26, _, _, _, _, _⟩) ?_; refine wpl_held (op := ⟨some 26, _, _, _, _, _⟩) (.agg (cellsB BD).toArray) (held_loadf agg256 _ rfl g3 rfl _ (cellsB BD) (H.out.get 2 rfl) HLY.out) rfl ?_)
    | (go_at_call 5; refine (HBU.out _ gr H.out.tb hrow).mono ?_; rintro e W5 ⟨rfl, hbc⟩; replace H := hide (H.out.call hbc); clear hbc hrow)
    | (with_reducible refine at_op (op := ⟨some 4, _, _, _, _, _⟩) ?_; (with_reducible refine wpl_alloca (op := ⟨some 4, _, _, _, _, _⟩) rfl _ rfl _ zeroP ?_); intro g4 V4 hB1 hg1 hF1; go_simp; (with_reducible refine wpl_storea aggP rfl (.tmp 4) (.tmp 28) rfl g4 (pktC P0) rfl rfl _ _ hB1 HL0.out pkt0_len (pktC_one _) ?_); intro W6 hB2 hF2; replace H := hide (H.out.var hg1 hF1 hF2 hB2); clear hB1 hg1 hF1 hB2 hF2)
    | (with_reducible refine at_op (op := ⟨some 31, _, _, _, _, _⟩) ?_; refine wpl_held (op := ⟨some 31, _, _, _, _, _⟩) (.agg (cellsB K1).toArray) (held_build _ _ rfl _ _ (hb1.out _) rfl) rfl ?_)
    | (with_reducible refine at_op (op := ⟨some 32, _, _, _, _, _⟩) ?_; refine wpl_held (op := ⟨some 32, _, _, _, _, _⟩) (.agg (pktC P0).toArray) (held_loadf aggP _ rfl g4 rfl _ (pktC P0) (H.out.get 3 rfl) HL0.out) rfl ?_)
    | (go_at_call 9; with_reducible refine (HP0.out _ H.out.tb).mono ?_; rintro e Xa ⟨rfl, hbc⟩; replace H := hide (H.out.call hbc); clear hbc)
    | (with_reducible refine at_op (op := ⟨some 6, _, _, _, _, _⟩) ?_; (with_reducible refine wpl_alloca (op := ⟨some 6, _, _, _, _, _⟩) rfl _ rfl _ zeroS ?_); intro g6 Xb hB1 hg1 hF1; replace H := hide (H.out.box hg1 hF1 hB1); clear hB1 hg1 hF1)
    | (with_reducible refine at_op (op := ⟨some 7, _, _, _, _, _⟩) ?_; (with_reducible refine wpl_alloca (op := ⟨some 7, _, _, _, _, _⟩) rfl _ rfl _ zeroP ?_); intro g7 Xc hB1 hg1 hF1; replace H := hide (H.out.box hg1 hF1 hB1); clear hB1 hg1 hF1)
    | (with_reducible refine at_op (op := ⟨none, .store _ (.tmp 6) (.tmp 34), _, _, _, _⟩) ?_; (with_reducible refine wpl_storea aggS rfl (.tmp 6) (.tmp 34) rfl g6 (slotC S0) rfl rfl _ _ (H.out.get 4 rfl) HS0.out (slot0_len) (slotC_one _) ?_); intro Xd hB1 hF1; replace H := hide (H.out.store 4 rfl hF1 hB1); clear hB1 hF1)
    | (with_reducible refine at_op (op := ⟨none, .store _ (.tmp 7) (.tmp 35), _, _, _, _⟩) ?_; (with_reducible refine wpl_storea aggP rfl (.tmp 7) (.tmp 35) rfl g7 (pktC P1) rfl rfl _ _ (H.out.get 5 rfl) HL1.out (pkt0_len) (pktC_one _) ?_); intro Xe hB1 hF1; replace H := hide (H.out.store 5 rfl hF1 hB1); clear hB1 hF1)
    | (with_reducible refine at_op (op := ⟨some 38, _, _, _, _, _⟩) ?_; refine wpl_held (op := ⟨some 38, _, _, _, _, _⟩) (.agg (cellsB K2).toArray) (held_build _ _ rfl _ _ (hb2.out _) rfl) rfl ?_)
    | (with_reducible refine at_op (op := ⟨some 39, _, _, _, _, _⟩) ?_; refine wpl_held (op := ⟨some 39, _, _, _, _, _⟩) (.agg (pktC P1).toArray) (held_loadf aggP _ rfl g7 rfl _ (pktC P1) (H.out.get 5 rfl) HL1.out) rfl ?_)
    | (go_at_call 9; with_reducible refine (HP1.out _ H.out.tb).mono ?_; rintro e Ya ⟨rfl, hbc⟩; replace H := hide (H.out.call hbc); clear hbc)
    | (with_reducible refine at_op (op := ⟨some 9, _, _, _, _, _⟩) ?_; (with_reducible refine wpl_alloca (op := ⟨some 9, _, _, _, _, _⟩) rfl _ rfl _ zeroS ?_); intro g9 Yb hB1 hg1 hF1; replace H := hide (H.out.box hg1 hF1 hB1); clear hB1 hg1 hF1)
    | (with_reducible refine at_op (op := ⟨some 10, _, _, _, _, _⟩) ?_; (with_reducible refine wpl_alloca (op := ⟨some 10, _, _, _, _, _⟩) rfl _ rfl _ zeroP ?_); intro g10 Yc hB1 hg1 hF1; replace H := hide (H.out.box hg1 hF1 hB1); clear hB1 hg1 hF1)
    | (with_reducible refine at_op (op := ⟨none, .store _ (.tmp 9) (.tmp 41), _, _, _, _⟩) ?_; (with_reducible refine wpl_storea aggS rfl (.tmp 9) (.tmp 41) rfl g9 (slotC S1) rfl rfl _ _ (H.out.get 6 rfl) HS1.out (slot0_len) (slotC_one _) ?_); intro Yd hB1 hF1; replace H := hide (H.out.store 6 rfl hF1 hB1); clear hB1 hF1)
    | (with_reducible refine at_op (op := ⟨none, .store _ (.tmp 10) (.tmp 42), _, _, _, _⟩) ?_; (with_reducible refine wpl_storea aggP rfl (.tmp 10) (.tmp 42) rfl g10 (pktC P2) rfl rfl _ _ (H.out.get 7 rfl) HL2.out (pkt0_len) (pktC_one _) ?_); intro Ye hB1 hF1; replace H := hide (H.out.store 7 rfl hF1 hB1); clear hB1 hF1)
    | (with_reducible refine at_op (op := ⟨some 46, _, _, _, _, _⟩) ?_; refine wpl_held (op := ⟨some 46, _, _, _, _, _⟩) (.int .u8 (m0.toNat : Int)) (held_load1 Tryz.underlying5 rfl one8 _ rfl g4 18 rfl _ _ (.int .u8 (m0.toNat : Int)) (H.out.get 3 rfl) HM0.out) rfl ?_)
    | (with_reducible refine at_op (op := ⟨none, .store _ (.tmp 49) _, _, _, _, _⟩) ?_; (refine wpl_store1 (op := ⟨none, _, _, _, _, _⟩) one8 rfl (.tmp 49) (.tmp 47) rfl g4 18 (.int .u8 (m1.toNat : Int)) (pktC P0) (pktC Px) rfl rfl rfl _ (H.out.get 3 rfl) (by rw [HL0.out]; decide) HMx.out ?_); intro W7 hB1 hF1; replace H := hide (H.out.store 3 rfl hF1 hB1); clear hB1 hF1)
    | (with_reducible refine at_op (op := ⟨some 51, _, _, _, _, _⟩) ?_; refine wpl_held (op := ⟨some 51, _, _, _, _, _⟩) (.agg (cellsB K1).toArray) (held_build _ _ rfl _ _ (hb1.out _) rfl) rfl ?_)
    | (with_reducible refine at_op (op := ⟨some 52, _, _, _, _, _⟩) ?_; refine wpl_held (op := ⟨some 52, _, _, _, _, _⟩) (.agg (pktC Px).toArray) (held_loadf aggP _ rfl g4 rfl _ (pktC Px) (H.out.get 3 rfl) HLx.out) rfl ?_)
    | (go_at_call 9; with_reducible refine (HPx.out _ H.out.tb).mono ?_; rintro e Za ⟨rfl, hbc⟩; replace H := hide (H.out.call hbc); clear hbc)
    | (with_reducible refine at_op (op := ⟨some 12, _, _, _, _, _⟩) ?_; (with_reducible refine wpl_alloca (op := ⟨some 12, _, _, _, _, _⟩) rfl _ rfl _ zeroS ?_); intro g12 Zb hB1 hg1 hF1; replace H := hide (H.out.box hg1 hF1 hB1); clear hB1 hg1 hF1)
    | (with_reducible refine at_op (op := ⟨some 13, _, _, _, _, _⟩) ?_; (with_reducible refine wpl_alloca (op := ⟨some 13, _, _, _, _, _⟩) rfl _ rfl _ zeroP ?_); intro g13 Zc hB1 hg1 hF1; replace H := hide (H.out.box hg1 hF1 hB1); clear hB1 hg1 hF1)
    | (with_reducible refine at_op (op := ⟨none, .store _ (.tmp 12) (.tmp 54), _, _, _, _⟩) ?_; (with_reducible refine wpl_storea aggS rfl (.tmp 12) (.tmp 54) rfl g12 (slotC Sx) rfl rfl _ _ (H.out.get 8 rfl) HSx.out (slot0_len) (slotC_one _) ?_); intro Zd hB1 hF1; replace H := hide (H.out.store 8 rfl hF1 hB1); clear hB1 hF1)
    | (with_reducible refine at_op (op := ⟨none, .store _ (.tmp 13) (.tmp 55), _, _, _, _⟩) ?_; (with_reducible refine wpl_storea aggP rfl (.tmp 13) (.tmp 55) rfl g13 (pktC Py) rfl rfl _ _ (H.out.get 9 rfl) HLy.out (pkt0_len) (pktC_one _) ?_); intro Ze hB1 hF1; replace H := hide (H.out.store 9 rfl hF1 hB1); clear hB1 hF1)
    | (with_reducible refine at_op (op := ⟨some 73, _, _, _, _, _⟩) ?_; refine wpl_held (op := ⟨some 73, _, _, _, _, _⟩) (.bool false) (held_load1 Tryz.underlying4 rfl oneBool _ rfl g6 0 rfl _ _ (.bool false) (H.out.get 4 rfl) c0.out) rfl ?_)
    | (with_reducible refine at_op (op := ⟨some 78, _, _, _, _, _⟩) ?_; refine wpl_held (op := ⟨some 78, _, _, _, _, _⟩) (.int .u16 2) (held_load1 Tryz.underlying48 rfl one16a _ rfl g6 1 rfl _ _ (.int .u16 2) (H.out.get 4 rfl) c1.out) rfl ?_)
    | (with_reducible refine at_op (op := ⟨some 83, _, _, _, _, _⟩) ?_; refine wpl_held (op := ⟨some 83, _, _, _, _, _⟩) (.int .u32 4) (held_load1 Tryz.underlying28 rfl one32 _ rfl g6 39 rfl _ _ (.int .u32 4) (H.out.get 4 rfl) c39.out) rfl ?_)
    | (with_reducible refine at_op (op := ⟨some 88, _, _, _, _, _⟩) ?_; refine wpl_held (op := ⟨some 88, _, _, _, _, _⟩) (.int .u64 9) (held_load1 Tryz.underlying49 rfl one64 _ rfl g6 38 rfl _ _ (.int .u64 9) (H.out.get 4 rfl) c38.out) rfl ?_)
    | (with_reducible refine at_op (op := ⟨some 93, _, _, _, _, _⟩) ?_; refine wpl_held (op := ⟨some 93, _, _, _, _, _⟩) (.bool true) (held_load1 Tryz.underlying4 rfl oneBool _ rfl g9 0 rfl _ _ (.bool true) (H.out.get 6 rfl) d0.out) rfl ?_)
    | (with_reducible refine at_op (op := ⟨some 97, _, _, _, _, _⟩) ?_; refine wpl_held (op := ⟨some 97, _, _, _, _, _⟩) (.int .u16 77) (held_load1 Tryz.underlying39 rfl one16b _ rfl g9 2 rfl _ _ (.int .u16 77) (H.out.get 6 rfl) d2.out) rfl ?_)
    | (with_reducible refine at_op (op := ⟨some 102, _, _, _, _, _⟩) ?_; refine wpl_held (op := ⟨some 102, _, _, _, _, _⟩) (.int .u64 5) (held_load1 Tryz.underlying49 rfl one64 _ rfl g9 37 rfl _ _ (.int .u64 5) (H.out.get 6 rfl) d37.out) rfl ?_)
    | (with_reducible refine at_op (op := ⟨some 107, _, _, _, _, _⟩) ?_; refine wpl_held (op := ⟨some 107, _, _, _, _, _⟩) (.agg (cellsB BD).toArray) (held_loada agg256 _ rfl g10 354 rfl _ (pktC P2) (cellsB BD) (H.out.get 7 rfl) HBd.out (by rw [HL2.out]; decide)) rfl ?_)
    | (with_reducible refine at_op (op := ⟨some 108, _, _, _, _, _⟩) ?_; refine wpl_held (op := ⟨some 108, _, _, _, _, _⟩) (.agg (cellsB BD).toArray) (held_loadf agg256 _ rfl g3 rfl _ (cellsB BD) (H.out.get 2 rfl) HLY.out) rfl ?_)
    | (with_reducible refine at_op (op := ⟨some 109, _, _, _, _, _⟩) ?_; refine wpl_held (op := ⟨some 109, _, _, _, _, _⟩) (.bool true) (held_eql _ _ _ _ rfl (cellsB BD) (cellsB BD) rfl rfl true (HEQ.out _) Tryz.eqGuardType24) rfl ?_))
  go_ret
  exact ⟨rfl, H.out.bel⟩
end Go.Proofs.YtoiiiflnnhkjbaaGreatDoor
