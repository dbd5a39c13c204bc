/-
  A slot's own kind, and whether it is right.
-/
import Derived.Test.YtedodbejbkdplaaSl1
import Derived.Test.YtedodbejbkdplaaQuietC
namespace Go.Proofs.Ytedodbejbkdplaa
set_option linter.unusedVariables false
set_option linter.unusedSimpArgs false
open Go.RowKit

/-- The cells of a slot in its block. -/
theorem Blk.slot {w : World} {g : Nat} {t : TypeId} {s : Slot} (h : Blk w g t (slotC s).toArray) (hs : s.ok) :
    w.cell? ⟨g, 0, none⟩ = some (.bool s.last) ∧ w.cell? ⟨g, 1, none⟩ = some (.int .u16 (s.next : Int)) ∧ w.cell? ⟨g, 2, none⟩ = some (.int .u16 (s.box : Int)) ∧ w.cell? ⟨g, 3, none⟩ = some (.int .u16 (s.who : Int)) ∧ w.cell? ⟨g, 4, none⟩ = some (.int .u32 (s.epoch : Int)) ∧
    w.cell? ⟨g, 37, none⟩ = some (.int .u64 (s.lo : Int)) ∧ w.cell? ⟨g, 38, none⟩ = some (.int .u64 (s.hi : Int)) ∧ w.cell? ⟨g, 39, none⟩ = some (.int .u32 (s.delay : Int)) := by
  refine ⟨h.cell 0, h.cell 1, h.cell 2, h.cell 3, h.cell 4, ?_, ?_, ?_⟩
  · rw [h.cell, List.getElem?_toArray]; exact slotC_lo hs.nonce hs.mac
  · rw [h.cell, List.getElem?_toArray]; exact slotC_hi hs.nonce hs.mac
  · rw [h.cell, List.getElem?_toArray]; exact slotC_delay hs.nonce hs.mac
theorem build_last (box lo hi delay : Nat) (w : World) : Sem.run Try.prog (Instr.build 32 #[(0, .bool true), (2, .int .u16 (box : Int)), (7, .int .u64 (lo : Int)), (8, .int .u64 (hi : Int)), (9, .int .u32 (delay : Int))]) w = .ok (.agg (slotC ⟨true, 0, box, 0, 0, Z16, Z16, lo, hi, delay⟩).toArray) w :=
  run_build w _ _ _ (by kernel_rfl)
theorem build_slot0 (w : World) : Sem.run Try.prog (Instr.build 32 #[]) w = .ok (.agg (slotC slot0).toArray) w := run_build w _ _ _ (by kernel_rfl)

set_option maxHeartbeats 1000000 in
set_option maxRecDepth 100000 in
theorem kind_any (s : Slot) (hs : s.ok) (w : World) : Calls Try.prog 30 #[.agg (slotC s).toArray] w fun e w' => e = .returned (.agg (slotC (kindM s)).toArray) ∧ Below w.heap.size w w' := by
  have hl := slotC_length s hs.nonce hs.mac
  have HL := hide hl
  have HO := hide (slotC_one s)
  have HS := hide hs
  clear hl hs
  have HK : Hid (slotC (kindM s) = slotC (if s.last = true then ⟨true, 0, s.box, 0, 0, Z16, Z16, s.lo, s.hi, s.delay⟩ else ⟨s.last, s.next, 0, s.who, s.epoch, s.nonce, s.mac, s.lo, s.hi, s.delay⟩)) := rfl
  have HKL : Hid ((slotC (kindM s)).length = 40) := slotC_length _ (kindM_ok HS.out).nonce (kindM_ok HS.out).mac
  have HKO := hide (slotC_one (kindM s))
  rcases hb : s.last with _ | _
  · have hk : slotC (kindM s) = (slotC s).set 2 (.int .u16 0) := by rw [HK.out, if_neg (by rw [hb]; decide)]; rfl
    have HK := hide hk
    clear hk
    go_enter Try.func30, Try.ntmps30
    go_wp2_with (first
      | ((with_reducible refine wpl_boxa (op := ⟨some 1, _, _, _, _, _⟩) rfl _ _ rfl (slotC s) rfl ?_); intro g1 w1 hB1 hg1 hF1)
      | ((with_reducible refine wpl_alloca (op := ⟨some 2, _, _, _, _, _⟩) rfl _ rfl _ zeroS ?_); intro g2 w2 hB2 hg2 hF2; have hC := hB1.frm hF2 (fun h => h); obtain ⟨c0, c1, c2, c3, c4, c5, c6, c7⟩ := hC.slot HS.out; rw [hb] at c0; have f2 := hC.frozen 2; have hx := hC.setL 2 (.int .u16 0); rw [← HK.out] at hx)
      | (with_reducible refine wpl_loada (op := ⟨some 15, _, _, _, _, _⟩) aggS rfl _ rfl g1 0 rfl _ _ (slotC (kindM s)) hx (by rw [List.drop_zero, List.take_of_length_le (by rw [HKL.out]; exact Nat.le_refl _)]) (by rw [HKL.out]; decide) ?_)
      | ((with_reducible refine wpl_storea aggS rfl (.tmp 2) (.tmp 15) rfl g2 (slotC (kindM s)) rfl rfl _ _ (hB2.frm (Frm.setCell _ ⟨g1, 2, none⟩ _ (fun k => k = g1) rfl) (by have := hB1.lt; omega)) HKL.out slot0_len HKO.out ?_); intro w3 hB3 hF3))
    refine ret_agg aggS rfl rfl g2 _ _ rfl hB3 HKL.out ⟨rfl, ?_⟩
    have h1 : Below w.heap.size w w2 := below_frm ((Frm.below hF1 (Nat.le_refl _) (fun _ h => h.elim))) hF2 hF1.size (fun _ h => h.elim)
    exact below_frm (below_frm h1 (Frm.setCell _ ⟨g1, 2, none⟩ _ (fun k => k = g1) rfl) h1.size (fun k hk => by omega)) hF3 (by have := h1.size; simpa [World.setCell] using this) (fun k hk => by have := hF1.size; omega)
  · have hk : slotC (kindM s) = slotC ⟨true, 0, s.box, 0, 0, Z16, Z16, s.lo, s.hi, s.delay⟩ := by rw [HK.out, if_pos hb]
    have hbd := build_last s.box s.lo s.hi s.delay
    rw [← hk] at hbd
    clear hk HK
    generalize slotC (kindM s) = C at *
    go_enter Try.func30, Try.ntmps30
    go_wp2_with (first
      | ((with_reducible refine wpl_boxa (op := ⟨some 1, _, _, _, _, _⟩) rfl _ _ rfl (slotC s) rfl ?_); intro g1 w1 hB1 hg1 hF1)
      | ((with_reducible refine wpl_alloca (op := ⟨some 2, _, _, _, _, _⟩) rfl _ rfl _ zeroS ?_); intro g2 w2 hB2 hg2 hF2; have hC := hB1.frm hF2 (fun h => h); obtain ⟨c0, c1, c2, c3, c4, c5, c6, c7⟩ := hC.slot HS.out; rw [hb] at c0)
      | (refine wpl_held (op := ⟨some 13, _, _, _, _, _⟩) (.agg C.toArray) (held_build _ _ rfl _ _ (hbd _) rfl) rfl ?_)
      | ((with_reducible refine wpl_storea aggS rfl (.tmp 2) (.tmp 13) rfl g2 C rfl rfl _ _ hB2 HKL.out slot0_len HKO.out ?_); intro w3 hB3 hF3))
    refine ret_agg aggS rfl rfl g2 _ _ rfl hB3 HKL.out ⟨rfl, ?_⟩
    have h1 : Below w.heap.size w w2 := below_frm ((Frm.below hF1 (Nat.le_refl _) (fun _ h => h.elim))) hF2 hF1.size (fun _ h => h.elim)
    exact below_frm h1 hF3 h1.size (fun k hk => by have := hF1.size; omega)
end Go.Proofs.Ytedodbejbkdplaa
