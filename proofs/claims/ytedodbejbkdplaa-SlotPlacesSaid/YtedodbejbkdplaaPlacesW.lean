/-
  SlotPlaces: the walk.
-/
import Derived.Test.YtedodbejbkdplaaCutsW
namespace Go.Proofs.Ytedodbejbkdplaa
set_option linter.unusedVariables false
set_option linter.unusedSimpArgs false
open Go.RowKit

structure RAt (w : World) (l : List (Nat × TypeId × List Value)) (gr : Nat) (d : Option Nat) (b : List UInt8) (W : World) : Prop where
  rd : Rd W gr d b
  at_ : At w l W
  ne : ∀ x ∈ l, x.1 ≠ gr
  wg : w.heap.size ≤ gr
section
variable {w W W1 : World} {l : List (Nat × TypeId × List Value)} {gr : Nat} {d : Option Nat} {b b' : List UInt8}
theorem At.frmNe (h : At w l W) (f : Frm (fun k => k = gr) W W1) (hne : ∀ x ∈ l, x.1 ≠ gr) (hw : w.heap.size ≤ gr) : At w l W1 :=
  ⟨fun x hx => (h.has x hx).frm f (hne x hx), h.low, h.nd, below_frm h.bel f h.bel.size (fun k hk => by omega)⟩
theorem RAt.step (h : RAt w l gr d b W) (hr : Rd W1 gr d b') (f : Frm (fun k => k = gr) W W1) : RAt w l gr d b' W1 := ⟨hr, h.at_.frmNe f h.ne h.wg, h.ne, h.wg⟩
theorem RAt.row (h : RAt w l gr d b W) (hr : Rd W1 gr d b') (f : Frm (fun k => k = gr) W W1) {g : Nat} {t : TypeId} {cs : List Value} (hb : Blk W1 g t cs.toArray) (hg : W.heap.size ≤ g) : RAt w (l ++ [(g, t, cs)]) gr d b' W1 := by
  have hlt := h.rd.lt
  have hw := h.at_.bel.size
  have ha := h.at_.frmNe f h.ne h.wg
  refine ⟨hr, ⟨fun x hx => ?_, fun x hx => ?_, ?_, ha.bel⟩, fun x hx => ?_, h.wg⟩
  · rcases List.mem_append.1 hx with hx | hx
    · exact ha.has x hx
    · rw [List.mem_singleton] at hx; subst hx; exact hb
  · rcases List.mem_append.1 hx with hx | hx
    · exact ha.low x hx
    · rw [List.mem_singleton] at hx; subst hx; exact Nat.le_trans hw hg
  · rw [List.map_append, List.nodup_append]
    refine ⟨ha.nd, by simp, fun a ha' b hb' => ?_⟩
    obtain ⟨x, hx, rfl⟩ := List.mem_map.1 ha'
    have : b = g := by simpa using hb'
    subst this
    have := (h.at_.has x hx).lt
    omega
  · rcases List.mem_append.1 hx with hx | hx
    · exact h.ne x hx
    · rw [List.mem_singleton] at hx; subst hx; show g ≠ gr; omega
end

set_option maxHeartbeats 16000000 in
set_option maxRecDepth 100000 in
theorem places_walk (s : Slot) (hs : s.ok) (w : World) : Calls Try.prog 7 #[.agg (slotC s).toArray] w fun e w' => e = .returned (.bool true) ∧ Below w.heap.size w w' := by
  have hsh := hide shown_any
  have hen := hide (encode_any s hs)
  have h0 := hide (slotC_length s hs.nonce hs.mac)
  have hX : Hid ((cellsB (outM s)).length = 64) := by show _ = _; rw [cellsB_length]; exact outM_length hs
  have hXl := hide (outM_length hs)
  cases hR : rightB s
  · have h : errR s = 1 := by unfold errR; rw [hR]; rfl
    rw [h] at hen
    clear hR hs h
    generalize slotC s = C0 at *
    generalize outM s = X at *
    have H := hide (At.start w)
    go_enter Try.func7, Try.ntmps7
    go_wp2_with (first
      | (with_reducible refine at_op (op := ⟨some 1, _, _, _, _, _⟩) ?_; (refine wpl_boxa (op := ⟨some 1, _, _, _, _, _⟩) rfl _ _ rfl (C0) rfl ?_); intro g1 W1 hB1 hg1 hF1; replace H := hide (H.out.box hg1 hF1 hB1); clear hB1 hg1 hF1)
      | (go_at_call 12; with_reducible refine (hsh.out _).mono ?_; rintro e Wc ⟨rfl, hbc⟩; replace H := hide (H.out.call hbc); clear hbc)
      | (with_reducible refine at_op (op := ⟨some 29, _, _, _, _, _⟩) ?_; refine wpl_held (op := ⟨some 29, _, _, _, _, _⟩) (.agg (C0).toArray) (held_loadf aggS _ rfl g1 rfl _ (C0) (H.out.get 0 rfl) h0.out) rfl ?_)
      | (go_at_call 15; with_reducible refine (hen.out _).mono ?_; rintro e Wc ⟨rfl, hbc⟩; replace H := hide (H.out.call hbc); clear hbc)
      | ((with_reducible refine wpl_alloca (op := ⟨some 4, _, _, _, _, _⟩) rfl _ rfl _ zero64 ?_); intro g4 W1 hB1 hg1 hF1)
      | ((with_reducible refine wpl_storea agg64b rfl (.tmp 4) (.tmp 31) rfl g4 (cellsB X) rfl rfl _ _ hB1 hX.out z64_len (cellsB_one _) ?_); intro W2 hB2 hF2; replace H := hide (H.out.var hg1 hF1 hF2 hB2); clear hB1 hg1 hF1 hB2 hF2))
    go_ret
    exact ⟨rfl, H.out.bel⟩
  · have h : errR s = 0 := by unfold errR; rw [hR]; rfl
    rw [h] at hen
    have hO : outM s = encM s := by unfold outM; rw [hR]; rfl
    have hd := dec_enc hs (rightB_iff.1 hR).2
    obtain ⟨ek1, ek2⟩ := enc_kind hs
    rw [← hO] at hd ek1 ek2
    have htn := hide (slotC_nonce hs.nonce)
    have htm := hide (slotC_mac hs.nonce hs.mac)
    have hc37 := hide (slotC_lo hs.nonce hs.mac)
    have hc38 := hide (slotC_hi hs.nonce hs.mac)
    have hc39 := hide (slotC_delay hs.nonce hs.mac)
    have hNl := hide hs.nonce
    have hMl := hide hs.mac
    obtain ⟨last, next, box, who, epoch, nonce, mac, lo, hi, delay⟩ := s
    have hcl : Hid ((slotC ⟨last, next, box, who, epoch, nonce, mac, lo, hi, delay⟩)[0]? = some (.bool last)) := rfl
    have hcn : Hid ((slotC ⟨last, next, box, who, epoch, nonce, mac, lo, hi, delay⟩)[1]? = some (.int .u16 (next : Int))) := rfl
    have hcb : Hid ((slotC ⟨last, next, box, who, epoch, nonce, mac, lo, hi, delay⟩)[2]? = some (.int .u16 (box : Int))) := rfl
    have hc3 : Hid ((slotC ⟨last, next, box, who, epoch, nonce, mac, lo, hi, delay⟩)[3]? = some (.int .u16 (who : Int))) := rfl
    have hc4 : Hid ((slotC ⟨last, next, box, who, epoch, nonce, mac, lo, hi, delay⟩)[4]? = some (.int .u32 (epoch : Int))) := rfl
    simp only at ek1 hNl hMl htn htm hc37 hc38 hc39
    generalize outM ⟨last, next, box, who, epoch, nonce, mac, lo, hi, delay⟩ = X at *
    generalize slotC ⟨last, next, box, who, epoch, nonce, mac, lo, hi, delay⟩ = C0 at *
    have flo : Hid (num ((X.drop 3).take 8) = lo) := congrArg Slot.lo hd
    have fhi : Hid (num ((X.drop 11).take 8) = hi) := congrArg Slot.hi hd
    have fdelay : Hid (num ((X.drop 19).take 4) = delay) := congrArg Slot.delay hd
    have fwho : Hid (num ((X.drop 23).take 2) = who) := congrArg Slot.who hd
    have fepoch : Hid (num ((X.drop 25).take 4) = epoch) := congrArg Slot.epoch hd
    have fnonce : Hid ((X.drop 29).take 16 = nonce) := congrArg Slot.nonce hd
    have fmac : Hid ((X.drop 45).take 16 = mac) := congrArg Slot.mac hd
    have frest : Hid (X.drop 61 = [0, 0, 0]) := ek2
    have fnx := congrArg Slot.next hd
    have fbx := congrArg Slot.box hd
    simp only [decM] at fnx fbx
    clear hs hR h hO hd ek2
    cases last
    · have fk : Hid (num (X.take 1) = 0) := ek1
      have fto : Hid (num ((X.drop 1).take 2) = next) := by show _ = _; rw [if_neg (by rw [fk.out]; decide)] at fnx; exact fnx
      clear ek1 fnx fbx
      have H := hide (At.start w)
      go_enter Try.func7, Try.ntmps7
      go_wp2_with (first
        | (with_reducible refine at_op (op := ⟨some 1, _, _, _, _, _⟩) ?_; (refine wpl_boxa (op := ⟨some 1, _, _, _, _, _⟩) rfl _ _ rfl (C0) rfl ?_); intro g1 W1 hB1 hg1 hF1; replace H := hide (H.out.box hg1 hF1 hB1); clear hB1 hg1 hF1)
        | (go_at_call 12; with_reducible refine (hsh.out _).mono ?_; rintro e Wc ⟨rfl, hbc⟩; replace H := hide (H.out.call hbc); clear hbc)
        | (with_reducible refine at_op (op := ⟨some 29, _, _, _, _, _⟩) ?_; refine wpl_held (op := ⟨some 29, _, _, _, _, _⟩) (.agg (C0).toArray) (held_loadf aggS _ rfl g1 rfl _ (C0) (H.out.get 0 rfl) h0.out) rfl ?_)
        | (go_at_call 15; with_reducible refine (hen.out _).mono ?_; rintro e Wc ⟨rfl, hbc⟩; replace H := hide (H.out.call hbc); clear hbc)
        | ((with_reducible refine wpl_alloca (op := ⟨some 4, _, _, _, _, _⟩) rfl _ rfl _ zero64 ?_); intro g4 W1 hB1 hg1 hF1)
        | ((with_reducible refine wpl_storea agg64b rfl (.tmp 4) (.tmp 31) rfl g4 (cellsB X) rfl rfl _ _ hB1 hX.out z64_len (cellsB_one _) ?_); intro W2 hB2 hF2; replace H := hide (H.out.var hg1 hF1 hF2 hB2); clear hB1 hg1 hF1 hB2 hF2))
      refine (read_any (some ⟨g4, 0, none⟩) 64 64 X _ (by have h := (H.out.get 1 rfl).rds; rwa [hX.out] at h) (by omega)).mono ?_
      rintro e Wc ⟨gr, d, rfl, hr, hb, hg, hd⟩
      have HR : Hid (RAt w _ gr d X Wc) := ⟨hr, H.out.call hb, fun x hx => by have := (H.out.has x hx).lt; omega, Nat.le_trans H.out.bel.size hg⟩
      clear hr hb hg hd
      go_wp2_with fail
      refine (u8_ok gr d _ _ HR.out.rd (by rw [hXl.out]; omega) (by rw [hXl.out]; omega)).mono ?_
      rintro e Wc ⟨rfl, hr, hf⟩
      rw [fk.out]
      replace HR := hide (HR.out.step hr hf)
      clear hr hf
      go_wp2_with fail
      refine (u16_ok gr d _ _ HR.out.rd (by rw [List.length_drop]; rw [hXl.out]; omega) (by rw [List.length_drop]; rw [hXl.out]; omega)).mono ?_
      rintro e Wc ⟨rfl, hr, hf⟩
      rw [List.drop_drop] at hr
      rw [fto.out]
      replace HR := hide (HR.out.step hr hf)
      clear hr hf
      go_wp2_with fail
      refine (u64_ok gr d _ _ HR.out.rd (by rw [List.length_drop]; rw [hXl.out]; omega) (by rw [List.length_drop]; rw [hXl.out]; omega)).mono ?_
      rintro e Wc ⟨rfl, hr, hf⟩
      rw [List.drop_drop] at hr
      rw [flo.out]
      replace HR := hide (HR.out.step hr hf)
      clear hr hf
      go_wp2_with fail
      refine (u64_ok gr d _ _ HR.out.rd (by rw [List.length_drop]; rw [hXl.out]; omega) (by rw [List.length_drop]; rw [hXl.out]; omega)).mono ?_
      rintro e Wc ⟨rfl, hr, hf⟩
      rw [List.drop_drop] at hr
      rw [fhi.out]
      replace HR := hide (HR.out.step hr hf)
      clear hr hf
      go_wp2_with fail
      refine (u32_ok gr d _ _ HR.out.rd (by rw [List.length_drop]; rw [hXl.out]; omega) (by rw [List.length_drop]; rw [hXl.out]; omega)).mono ?_
      rintro e Wc ⟨rfl, hr, hf⟩
      rw [List.drop_drop] at hr
      rw [fdelay.out]
      replace HR := hide (HR.out.step hr hf)
      clear hr hf
      go_wp2_with fail
      refine (u16_ok gr d _ _ HR.out.rd (by rw [List.length_drop]; rw [hXl.out]; omega) (by rw [List.length_drop]; rw [hXl.out]; omega)).mono ?_
      rintro e Wc ⟨rfl, hr, hf⟩
      rw [List.drop_drop] at hr
      rw [fwho.out]
      replace HR := hide (HR.out.step hr hf)
      clear hr hf
      go_wp2_with fail
      refine (u32_ok gr d _ _ HR.out.rd (by rw [List.length_drop]; rw [hXl.out]; omega) (by rw [List.length_drop]; rw [hXl.out]; omega)).mono ?_
      rintro e Wc ⟨rfl, hr, hf⟩
      rw [List.drop_drop] at hr
      rw [fepoch.out]
      replace HR := hide (HR.out.step hr hf)
      clear hr hf
      go_wp2_with fail
      refine (bytes_ok gr d _ 16 _ HR.out.rd (by omega) (by rw [List.length_drop]; rw [hXl.out]; omega) (by rw [List.length_drop]; rw [hXl.out]; omega)).mono ?_
      rintro e Wc ⟨Anonce, cnonce, rfl, ho, hr, hf⟩
      rw [List.drop_drop, show Int.toNat 16 = 16 from rfl] at hr
      rw [show Int.toNat 16 = 16 from rfl] at ho ⊢
      rw [fnonce.out] at ho
      obtain ⟨gnonce, cunonce, rfl, hg, hb, hs, ht, hc⟩ := own_block ho (by omega)
      rw [← Array.toArray_toList (xs := cunonce)] at hb
      replace HR := hide (HR.out.row hr hf hb hg)
      have HTnonce : Hid ((cunonce.toList.drop 0).take 16 = cellsB nonce) := by show _ = _; rw [List.drop_zero]; exact ht
      clear hr hf hb hg hs ht hc ho
      go_wp2_with fail
      refine (bytes_ok gr d _ 16 _ HR.out.rd (by omega) (by rw [List.length_drop]; rw [hXl.out]; omega) (by rw [List.length_drop]; rw [hXl.out]; omega)).mono ?_
      rintro e Wc ⟨Amac, cmac, rfl, ho, hr, hf⟩
      rw [List.drop_drop, show Int.toNat 16 = 16 from rfl] at hr
      rw [show Int.toNat 16 = 16 from rfl] at ho ⊢
      rw [fmac.out] at ho
      obtain ⟨gmac, cumac, rfl, hg, hb, hs, ht, hc⟩ := own_block ho (by omega)
      rw [← Array.toArray_toList (xs := cumac)] at hb
      replace HR := hide (HR.out.row hr hf hb hg)
      have HTmac : Hid ((cumac.toList.drop 0).take 16 = cellsB mac) := by show _ = _; rw [List.drop_zero]; exact ht
      clear hr hf hb hg hs ht hc ho
      go_wp2_with fail
      refine (rest_any gr d _ _ HR.out.rd (by rw [List.length_drop]; rw [hXl.out]; omega)).mono ?_
      rintro e Wc ⟨Arr, crr, rfl, ho, hr, hf⟩
      rw [frest.out] at ho ⊢
      rw [show ([0, 0, 0] : List UInt8).length = 3 from rfl] at ho ⊢
      obtain ⟨grr, curr, rfl, hg, hb, hs, ht, hc⟩ := own_block ho (by omega)
      rw [← Array.toArray_toList (xs := curr)] at hb
      replace HR := hide (HR.out.row hr hf hb hg)
      have HTrr : Hid ((curr.toList.drop 0).take 3 = cellsB [0, 0, 0]) := by show _ = _; rw [List.drop_zero]; exact ht
      clear hr hf hb hg hs ht hc ho
      replace H := hide HR.out.at_
      clear HR
      go_wp2_with (first
        | (with_reducible refine at_op (op := ⟨some 92, _, _, _, _, _⟩) ?_; refine wpl_held (op := ⟨some 92, _, _, _, _, _⟩) (.int .u16 (box : Int)) (held_load1 Try.underlying24 rfl one16b _ rfl g1 2 rfl _ _ (.int .u16 (box : Int)) (H.out.get 0 rfl) hcb.out) rfl ?_)
        | (with_reducible refine at_op (op := ⟨some 96, _, _, _, _, _⟩) ?_; refine wpl_held (op := ⟨some 96, _, _, _, _, _⟩) (.bool false) (held_load1 Try.underlying4 rfl oneBool _ rfl g1 0 rfl _ _ (.bool false) (H.out.get 0 rfl) hcl.out) rfl ?_)
        | (with_reducible refine at_op (op := ⟨some 103, _, _, _, _, _⟩) ?_; refine wpl_held (op := ⟨some 103, _, _, _, _, _⟩) (.int .u16 (next : Int)) (held_load1 Try.underlying23 rfl one16a _ rfl g1 1 rfl _ _ (.int .u16 (next : Int)) (H.out.get 0 rfl) hcn.out) rfl ?_))
      obtain ⟨N, hN⟩ : ∃ N, N = Wc.heap.size := ⟨_, rfl⟩
      have hq : Below N Wc Wc := hN ▸ Below.refl _ _
      have HA := hide (fun W' (h : Below N Wc W') => H.out.call (hN ▸ h))
      have HC := hide (fun W' (h : Below N Wc W') W'' (k : Below W'.heap.size W' W'') => h.trans (k.mono (by rw [hN]; exact h.size)))
      clear hN
      refine wp_region_class (fun W' => Below N Wc W') (by kernel_rfl) (by kernel_rfl) (below_drewN hq 1) ?_
      with_reducible refine wpQuiet_step ?_
      intro K hK
      go_simp
      first | (refine hK _ ?_; clear hK K) | (refine ⟨_, fun w' hw' => rfl, hK _ ?_⟩; clear hK K)
      with_reducible refine wpQuiet_step ?_
      intro K hK
      go_simp
      first | (refine hK _ ?_; clear hK K) | (refine ⟨_, fun w' hw' => rfl, hK _ ?_⟩; clear hK K)
      with_reducible refine wpQuiet_step ?_
      intro K hK
      go_simp
      first | (refine hK _ ?_; clear hK K) | (refine ⟨_, fun w' hw' => rfl, hK _ ?_⟩; clear hK K)
      with_reducible refine wpQuiet_step ?_
      intro K hK
      go_simp
      first | (refine hK _ ?_; clear hK K) | (refine ⟨_, fun w' hw' => rfl, hK _ ?_⟩; clear hK K)
      with_reducible refine wpQuiet_step ?_
      intro K hK
      go_simp
      first | (refine hK _ ?_; clear hK K) | (refine ⟨_, fun w' hw' => rfl, hK _ ?_⟩; clear hK K)
      with_reducible refine wpQuiet_step ?_
      intro K hK
      go_simp
      first | (refine hK _ ?_; clear hK K) | (refine ⟨_, fun w' hw' => rfl, hK _ ?_⟩; clear hK K)
      with_reducible refine wpQuiet_step ?_
      intro K hK
      go_simp
      first | (refine hK _ ?_; clear hK K) | (refine ⟨_, fun w' hw' => rfl, hK _ ?_⟩; clear hK K)
      with_reducible refine wpQuiet_step ?_
      intro K hK
      refine quiet_val (.int .u64 (lo : Int)) (fun w' hw' => held_load1 Try.underlying30 rfl one64 _ rfl g1 37 rfl _ _ (.int .u64 (lo : Int)) ((HA.out w' hw').get 0 rfl) hc37.out) ?_ rfl
      go_simp
      refine hK _ ?_
      clear hK K
      with_reducible refine wpQuiet_step ?_
      intro K hK
      go_simp
      first | (refine hK _ ?_; clear hK K) | (refine ⟨_, fun w' hw' => rfl, hK _ ?_⟩; clear hK K)
      with_reducible refine wpQuiet_step ?_
      intro K hK
      go_simp
      first | (refine hK _ ?_; clear hK K) | (refine ⟨_, fun w' hw' => rfl, hK _ ?_⟩; clear hK K)
      with_reducible refine wpQuiet_step ?_
      intro K hK
      go_simp
      first | (refine hK _ ?_; clear hK K) | (refine ⟨_, fun w' hw' => rfl, hK _ ?_⟩; clear hK K)
      with_reducible refine wpQuiet_step ?_
      intro K hK
      go_simp
      first | (refine hK _ ?_; clear hK K) | (refine ⟨_, fun w' hw' => rfl, hK _ ?_⟩; clear hK K)
      with_reducible refine wpQuiet_step ?_
      intro K hK
      go_simp
      first | (refine hK _ ?_; clear hK K) | (refine ⟨_, fun w' hw' => rfl, hK _ ?_⟩; clear hK K)
      with_reducible refine wpQuiet_step ?_
      intro K hK
      refine quiet_val (.int .u64 (hi : Int)) (fun w' hw' => held_load1 Try.underlying30 rfl one64 _ rfl g1 38 rfl _ _ (.int .u64 (hi : Int)) ((HA.out w' hw').get 0 rfl) hc38.out) ?_ rfl
      go_simp
      refine hK _ ?_
      clear hK K
      with_reducible refine wpQuiet_step ?_
      intro K hK
      go_simp
      first | (refine hK _ ?_; clear hK K) | (refine ⟨_, fun w' hw' => rfl, hK _ ?_⟩; clear hK K)
      with_reducible refine wpQuiet_step ?_
      intro K hK
      go_simp
      first | (refine hK _ ?_; clear hK K) | (refine ⟨_, fun w' hw' => rfl, hK _ ?_⟩; clear hK K)
      with_reducible refine wpQuiet_step ?_
      intro K hK
      go_simp
      first | (refine hK _ ?_; clear hK K) | (refine ⟨_, fun w' hw' => rfl, hK _ ?_⟩; clear hK K)
      with_reducible refine wpQuiet_step ?_
      intro K hK
      go_simp
      first | (refine hK _ ?_; clear hK K) | (refine ⟨_, fun w' hw' => rfl, hK _ ?_⟩; clear hK K)
      with_reducible refine wpQuiet_step ?_
      intro K hK
      go_simp
      first | (refine hK _ ?_; clear hK K) | (refine ⟨_, fun w' hw' => rfl, hK _ ?_⟩; clear hK K)
      with_reducible refine wpQuiet_step ?_
      intro K hK
      refine quiet_val (.int .u32 (delay : Int)) (fun w' hw' => held_load1 Try.underlying26 rfl one32 _ rfl g1 39 rfl _ _ (.int .u32 (delay : Int)) ((HA.out w' hw').get 0 rfl) hc39.out) ?_ rfl
      go_simp
      refine hK _ ?_
      clear hK K
      with_reducible refine wpQuiet_step ?_
      intro K hK
      go_simp
      first | (refine hK _ ?_; clear hK K) | (refine ⟨_, fun w' hw' => rfl, hK _ ?_⟩; clear hK K)
      with_reducible refine wpQuiet_step ?_
      intro K hK
      go_simp
      first | (refine hK _ ?_; clear hK K) | (refine ⟨_, fun w' hw' => rfl, hK _ ?_⟩; clear hK K)
      with_reducible refine wpQuiet_step ?_
      intro K hK
      go_simp
      first | (refine hK _ ?_; clear hK K) | (refine ⟨_, fun w' hw' => rfl, hK _ ?_⟩; clear hK K)
      with_reducible refine wpQuiet_step ?_
      intro K hK
      go_simp
      first | (refine hK _ ?_; clear hK K) | (refine ⟨_, fun w' hw' => rfl, hK _ ?_⟩; clear hK K)
      with_reducible refine wpQuiet_step ?_
      intro K hK
      go_simp
      first | (refine hK _ ?_; clear hK K) | (refine ⟨_, fun w' hw' => rfl, hK _ ?_⟩; clear hK K)
      with_reducible refine wpQuiet_step ?_
      intro K hK
      refine quiet_val (.int .u16 (who : Int)) (fun w' hw' => held_load1 Try.underlying25 rfl one16w _ rfl g1 3 rfl _ _ (.int .u16 (who : Int)) ((HA.out w' hw').get 0 rfl) hc3.out) ?_ rfl
      go_simp
      refine hK _ ?_
      clear hK K
      with_reducible refine wpQuiet_step ?_
      intro K hK
      go_simp
      first | (refine hK _ ?_; clear hK K) | (refine ⟨_, fun w' hw' => rfl, hK _ ?_⟩; clear hK K)
      with_reducible refine wpQuiet_step ?_
      intro K hK
      go_simp
      first | (refine hK _ ?_; clear hK K) | (refine ⟨_, fun w' hw' => rfl, hK _ ?_⟩; clear hK K)
      with_reducible refine wpQuiet_step ?_
      intro K hK
      go_simp
      first | (refine hK _ ?_; clear hK K) | (refine ⟨_, fun w' hw' => rfl, hK _ ?_⟩; clear hK K)
      with_reducible refine wpQuiet_step ?_
      intro K hK
      go_simp
      first | (refine hK _ ?_; clear hK K) | (refine ⟨_, fun w' hw' => rfl, hK _ ?_⟩; clear hK K)
      with_reducible refine wpQuiet_step ?_
      intro K hK
      go_simp
      first | (refine hK _ ?_; clear hK K) | (refine ⟨_, fun w' hw' => rfl, hK _ ?_⟩; clear hK K)
      with_reducible refine wpQuiet_step ?_
      intro K hK
      refine quiet_val (.int .u32 (epoch : Int)) (fun w' hw' => held_load1 Try.underlying26 rfl one32 _ rfl g1 4 rfl _ _ (.int .u32 (epoch : Int)) ((HA.out w' hw').get 0 rfl) hc4.out) ?_ rfl
      go_simp
      refine hK _ ?_
      clear hK K
      with_reducible refine wpQuiet_step ?_
      intro K hK
      go_simp
      first | (refine hK _ ?_; clear hK K) | (refine ⟨_, fun w' hw' => rfl, hK _ ?_⟩; clear hK K)
      with_reducible refine wpQuiet_step ?_
      intro K hK
      go_simp
      first | (refine hK _ ?_; clear hK K) | (refine ⟨_, fun w' hw' => rfl, hK _ ?_⟩; clear hK K)
      with_reducible refine wpQuiet_step ?_
      intro K hK
      go_simp
      first | (refine hK _ ?_; clear hK K) | (refine ⟨_, fun w' hw' => rfl, hK _ ?_⟩; clear hK K)
      with_reducible refine wpQuiet_step ?_
      intro K hK
      go_simp
      first | (refine hK _ ?_; clear hK K) | (refine ⟨_, fun w' hw' => rfl, hK _ ?_⟩; clear hK K)
      with_reducible refine wpQuiet_step ?_
      intro K hK
      refine quiet_val (.string ⟨(nonce).toArray⟩) (fun w' hw' => held_convR _ rfl (some ⟨gnonce, 0, none⟩) 16 cnonce rfl (nonce) (((HA.out w' hw').get 2 rfl).mid 0 16 (nonce) HTnonce.out hNl.out)) ?_ rfl
      go_simp
      refine hK _ ?_
      clear hK K
      with_reducible refine wpQuiet_step ?_
      intro K hK
      go_simp
      first | (refine hK _ ?_; clear hK K) | (refine ⟨_, fun w' hw' => rfl, hK _ ?_⟩; clear hK K)
      with_reducible refine wpQuiet_step ?_
      intro K hK
      go_simp
      first | (refine hK _ ?_; clear hK K) | (refine ⟨_, fun w' hw' => rfl, hK _ ?_⟩; clear hK K)
      with_reducible refine wpQuiet_step ?_
      intro K hK
      refine quiet_val (.string ⟨(nonce).toArray⟩) (fun w' hw' => held_convm _ rfl g1 5 16 16 rfl (nonce) (((HA.out w' hw').get 0 rfl).mid 5 16 (nonce) htn.out hNl.out)) ?_ rfl
      go_simp
      refine hK _ ?_
      clear hK K
      with_reducible refine wpQuiet_step ?_
      intro K hK
      go_simp
      first | (refine hK _ ?_; clear hK K) | (refine ⟨_, fun w' hw' => rfl, hK _ ?_⟩; clear hK K)
      with_reducible refine wpQuiet_step ?_
      intro K hK
      go_simp
      first | (refine hK _ ?_; clear hK K) | (refine ⟨_, fun w' hw' => rfl, hK _ ?_⟩; clear hK K)
      with_reducible refine wpQuiet_step ?_
      intro K hK
      go_simp
      first | (refine hK _ ?_; clear hK K) | (refine ⟨_, fun w' hw' => rfl, hK _ ?_⟩; clear hK K)
      with_reducible refine wpQuiet_step ?_
      intro K hK
      go_simp
      first | (refine hK _ ?_; clear hK K) | (refine ⟨_, fun w' hw' => rfl, hK _ ?_⟩; clear hK K)
      with_reducible refine wpQuiet_step ?_
      intro K hK
      refine quiet_val (.string ⟨(mac).toArray⟩) (fun w' hw' => held_convR _ rfl (some ⟨gmac, 0, none⟩) 16 cmac rfl (mac) (((HA.out w' hw').get 3 rfl).mid 0 16 (mac) HTmac.out hMl.out)) ?_ rfl
      go_simp
      refine hK _ ?_
      clear hK K
      with_reducible refine wpQuiet_step ?_
      intro K hK
      go_simp
      first | (refine hK _ ?_; clear hK K) | (refine ⟨_, fun w' hw' => rfl, hK _ ?_⟩; clear hK K)
      with_reducible refine wpQuiet_step ?_
      intro K hK
      go_simp
      first | (refine hK _ ?_; clear hK K) | (refine ⟨_, fun w' hw' => rfl, hK _ ?_⟩; clear hK K)
      with_reducible refine wpQuiet_step ?_
      intro K hK
      refine quiet_val (.string ⟨(mac).toArray⟩) (fun w' hw' => held_convm _ rfl g1 21 16 16 rfl (mac) (((HA.out w' hw').get 0 rfl).mid 21 16 (mac) htm.out hMl.out)) ?_ rfl
      go_simp
      refine hK _ ?_
      clear hK K
      with_reducible refine wpQuiet_step ?_
      intro K hK
      go_simp
      first | (refine hK _ ?_; clear hK K) | (refine ⟨_, fun w' hw' => rfl, hK _ ?_⟩; clear hK K)
      with_reducible refine wpQuiet_step ?_
      intro K hK
      go_simp
      first | (refine hK _ ?_; clear hK K) | (refine ⟨_, fun w' hw' => rfl, hK _ ?_⟩; clear hK K)
      with_reducible refine wpQuiet_step ?_
      intro K hK
      go_simp
      first | (refine hK _ ?_; clear hK K) | (refine ⟨_, fun w' hw' => rfl, hK _ ?_⟩; clear hK K)
      with_reducible refine wpQuiet_step ?_
      intro K hK
      go_simp
      first | (refine hK _ ?_; clear hK K) | (refine ⟨_, fun w' hw' => rfl, hK _ ?_⟩; clear hK K)
      with_reducible refine wpQuiet_step ?_
      intro K hK
      refine quiet_val (.string ⟨([0, 0, 0]).toArray⟩) (fun w' hw' => held_convR _ rfl (some ⟨grr, 0, none⟩) 3 crr rfl ([0, 0, 0]) (((HA.out w' hw').get 4 rfl).mid 0 3 ([0, 0, 0]) HTrr.out rfl)) ?_ rfl
      go_simp
      refine hK _ ?_
      clear hK K
      with_reducible refine wpQuiet_step ?_
      intro K hK
      go_simp
      first | (refine hK _ ?_; clear hK K) | (refine ⟨_, fun w' hw' => rfl, hK _ ?_⟩; clear hK K)
      with_reducible refine wpQuiet_step ?_
      intro K hK
      go_simp
      first | (refine hK _ ?_; clear hK K) | (refine ⟨_, fun w' hw' => rfl, hK _ ?_⟩; clear hK K)
      with_reducible refine wpQuiet_step ?_
      intro K hK
      go_simp
      first | (refine hK _ ?_; clear hK K) | (refine ⟨_, fun w' hw' => rfl, hK _ ?_⟩; clear hK K)
      refine wpQuiet_nil ?_
      clear hq
      intro wq hwq
      replace H := hide (HA.out wq hwq)
      clear HA HC hwq
      go_wp2_with fail
      go_ret
      exact ⟨rfl, H.out.bel⟩
    · have fk : Hid (num (X.take 1) = 1) := ek1
      have fto : Hid (num ((X.drop 1).take 2) = box) := by show _ = _; rw [if_pos fk.out] at fbx; exact fbx
      clear ek1 fnx fbx
      have H := hide (At.start w)
      go_enter Try.func7, Try.ntmps7
      go_wp2_with (first
        | (with_reducible refine at_op (op := ⟨some 1, _, _, _, _, _⟩) ?_; (refine wpl_boxa (op := ⟨some 1, _, _, _, _, _⟩) rfl _ _ rfl (C0) rfl ?_); intro g1 W1 hB1 hg1 hF1; replace H := hide (H.out.box hg1 hF1 hB1); clear hB1 hg1 hF1)
        | (go_at_call 12; with_reducible refine (hsh.out _).mono ?_; rintro e Wc ⟨rfl, hbc⟩; replace H := hide (H.out.call hbc); clear hbc)
        | (with_reducible refine at_op (op := ⟨some 29, _, _, _, _, _⟩) ?_; refine wpl_held (op := ⟨some 29, _, _, _, _, _⟩) (.agg (C0).toArray) (held_loadf aggS _ rfl g1 rfl _ (C0) (H.out.get 0 rfl) h0.out) rfl ?_)
        | (go_at_call 15; with_reducible refine (hen.out _).mono ?_; rintro e Wc ⟨rfl, hbc⟩; replace H := hide (H.out.call hbc); clear hbc)
        | ((with_reducible refine wpl_alloca (op := ⟨some 4, _, _, _, _, _⟩) rfl _ rfl _ zero64 ?_); intro g4 W1 hB1 hg1 hF1)
        | ((with_reducible refine wpl_storea agg64b rfl (.tmp 4) (.tmp 31) rfl g4 (cellsB X) rfl rfl _ _ hB1 hX.out z64_len (cellsB_one _) ?_); intro W2 hB2 hF2; replace H := hide (H.out.var hg1 hF1 hF2 hB2); clear hB1 hg1 hF1 hB2 hF2))
      refine (read_any (some ⟨g4, 0, none⟩) 64 64 X _ (by have h := (H.out.get 1 rfl).rds; rwa [hX.out] at h) (by omega)).mono ?_
      rintro e Wc ⟨gr, d, rfl, hr, hb, hg, hd⟩
      have HR : Hid (RAt w _ gr d X Wc) := ⟨hr, H.out.call hb, fun x hx => by have := (H.out.has x hx).lt; omega, Nat.le_trans H.out.bel.size hg⟩
      clear hr hb hg hd
      go_wp2_with fail
      refine (u8_ok gr d _ _ HR.out.rd (by rw [hXl.out]; omega) (by rw [hXl.out]; omega)).mono ?_
      rintro e Wc ⟨rfl, hr, hf⟩
      rw [fk.out]
      replace HR := hide (HR.out.step hr hf)
      clear hr hf
      go_wp2_with fail
      refine (u16_ok gr d _ _ HR.out.rd (by rw [List.length_drop]; rw [hXl.out]; omega) (by rw [List.length_drop]; rw [hXl.out]; omega)).mono ?_
      rintro e Wc ⟨rfl, hr, hf⟩
      rw [List.drop_drop] at hr
      rw [fto.out]
      replace HR := hide (HR.out.step hr hf)
      clear hr hf
      go_wp2_with fail
      refine (u64_ok gr d _ _ HR.out.rd (by rw [List.length_drop]; rw [hXl.out]; omega) (by rw [List.length_drop]; rw [hXl.out]; omega)).mono ?_
      rintro e Wc ⟨rfl, hr, hf⟩
      rw [List.drop_drop] at hr
      rw [flo.out]
      replace HR := hide (HR.out.step hr hf)
      clear hr hf
      go_wp2_with fail
      refine (u64_ok gr d _ _ HR.out.rd (by rw [List.length_drop]; rw [hXl.out]; omega) (by rw [List.length_drop]; rw [hXl.out]; omega)).mono ?_
      rintro e Wc ⟨rfl, hr, hf⟩
      rw [List.drop_drop] at hr
      rw [fhi.out]
      replace HR := hide (HR.out.step hr hf)
      clear hr hf
      go_wp2_with fail
      refine (u32_ok gr d _ _ HR.out.rd (by rw [List.length_drop]; rw [hXl.out]; omega) (by rw [List.length_drop]; rw [hXl.out]; omega)).mono ?_
      rintro e Wc ⟨rfl, hr, hf⟩
      rw [List.drop_drop] at hr
      rw [fdelay.out]
      replace HR := hide (HR.out.step hr hf)
      clear hr hf
      go_wp2_with fail
      refine (u16_ok gr d _ _ HR.out.rd (by rw [List.length_drop]; rw [hXl.out]; omega) (by rw [List.length_drop]; rw [hXl.out]; omega)).mono ?_
      rintro e Wc ⟨rfl, hr, hf⟩
      rw [List.drop_drop] at hr
      rw [fwho.out]
      replace HR := hide (HR.out.step hr hf)
      clear hr hf
      go_wp2_with fail
      refine (u32_ok gr d _ _ HR.out.rd (by rw [List.length_drop]; rw [hXl.out]; omega) (by rw [List.length_drop]; rw [hXl.out]; omega)).mono ?_
      rintro e Wc ⟨rfl, hr, hf⟩
      rw [List.drop_drop] at hr
      rw [fepoch.out]
      replace HR := hide (HR.out.step hr hf)
      clear hr hf
      go_wp2_with fail
      refine (bytes_ok gr d _ 16 _ HR.out.rd (by omega) (by rw [List.length_drop]; rw [hXl.out]; omega) (by rw [List.length_drop]; rw [hXl.out]; omega)).mono ?_
      rintro e Wc ⟨Anonce, cnonce, rfl, ho, hr, hf⟩
      rw [List.drop_drop, show Int.toNat 16 = 16 from rfl] at hr
      rw [show Int.toNat 16 = 16 from rfl] at ho ⊢
      rw [fnonce.out] at ho
      obtain ⟨gnonce, cunonce, rfl, hg, hb, hs, ht, hc⟩ := own_block ho (by omega)
      rw [← Array.toArray_toList (xs := cunonce)] at hb
      replace HR := hide (HR.out.row hr hf hb hg)
      have HTnonce : Hid ((cunonce.toList.drop 0).take 16 = cellsB nonce) := by show _ = _; rw [List.drop_zero]; exact ht
      clear hr hf hb hg hs ht hc ho
      go_wp2_with fail
      refine (bytes_ok gr d _ 16 _ HR.out.rd (by omega) (by rw [List.length_drop]; rw [hXl.out]; omega) (by rw [List.length_drop]; rw [hXl.out]; omega)).mono ?_
      rintro e Wc ⟨Amac, cmac, rfl, ho, hr, hf⟩
      rw [List.drop_drop, show Int.toNat 16 = 16 from rfl] at hr
      rw [show Int.toNat 16 = 16 from rfl] at ho ⊢
      rw [fmac.out] at ho
      obtain ⟨gmac, cumac, rfl, hg, hb, hs, ht, hc⟩ := own_block ho (by omega)
      rw [← Array.toArray_toList (xs := cumac)] at hb
      replace HR := hide (HR.out.row hr hf hb hg)
      have HTmac : Hid ((cumac.toList.drop 0).take 16 = cellsB mac) := by show _ = _; rw [List.drop_zero]; exact ht
      clear hr hf hb hg hs ht hc ho
      go_wp2_with fail
      refine (rest_any gr d _ _ HR.out.rd (by rw [List.length_drop]; rw [hXl.out]; omega)).mono ?_
      rintro e Wc ⟨Arr, crr, rfl, ho, hr, hf⟩
      rw [frest.out] at ho ⊢
      rw [show ([0, 0, 0] : List UInt8).length = 3 from rfl] at ho ⊢
      obtain ⟨grr, curr, rfl, hg, hb, hs, ht, hc⟩ := own_block ho (by omega)
      rw [← Array.toArray_toList (xs := curr)] at hb
      replace HR := hide (HR.out.row hr hf hb hg)
      have HTrr : Hid ((curr.toList.drop 0).take 3 = cellsB [0, 0, 0]) := by show _ = _; rw [List.drop_zero]; exact ht
      clear hr hf hb hg hs ht hc ho
      replace H := hide HR.out.at_
      clear HR
      go_wp2_with (first
        | (with_reducible refine at_op (op := ⟨some 92, _, _, _, _, _⟩) ?_; refine wpl_held (op := ⟨some 92, _, _, _, _, _⟩) (.int .u16 (box : Int)) (held_load1 Try.underlying24 rfl one16b _ rfl g1 2 rfl _ _ (.int .u16 (box : Int)) (H.out.get 0 rfl) hcb.out) rfl ?_)
        | (with_reducible refine at_op (op := ⟨some 96, _, _, _, _, _⟩) ?_; refine wpl_held (op := ⟨some 96, _, _, _, _, _⟩) (.bool true) (held_load1 Try.underlying4 rfl oneBool _ rfl g1 0 rfl _ _ (.bool true) (H.out.get 0 rfl) hcl.out) rfl ?_)
        | (with_reducible refine at_op (op := ⟨some 103, _, _, _, _, _⟩) ?_; refine wpl_held (op := ⟨some 103, _, _, _, _, _⟩) (.int .u16 (next : Int)) (held_load1 Try.underlying23 rfl one16a _ rfl g1 1 rfl _ _ (.int .u16 (next : Int)) (H.out.get 0 rfl) hcn.out) rfl ?_))
      obtain ⟨N, hN⟩ : ∃ N, N = Wc.heap.size := ⟨_, rfl⟩
      have hq : Below N Wc Wc := hN ▸ Below.refl _ _
      have HA := hide (fun W' (h : Below N Wc W') => H.out.call (hN ▸ h))
      have HC := hide (fun W' (h : Below N Wc W') W'' (k : Below W'.heap.size W' W'') => h.trans (k.mono (by rw [hN]; exact h.size)))
      clear hN
      refine wp_region_class (fun W' => Below N Wc W') (by kernel_rfl) (by kernel_rfl) (below_drewN hq 1) ?_
      with_reducible refine wpQuiet_step ?_
      intro K hK
      go_simp
      first | (refine hK _ ?_; clear hK K) | (refine ⟨_, fun w' hw' => rfl, hK _ ?_⟩; clear hK K)
      with_reducible refine wpQuiet_step ?_
      intro K hK
      go_simp
      first | (refine hK _ ?_; clear hK K) | (refine ⟨_, fun w' hw' => rfl, hK _ ?_⟩; clear hK K)
      with_reducible refine wpQuiet_step ?_
      intro K hK
      go_simp
      first | (refine hK _ ?_; clear hK K) | (refine ⟨_, fun w' hw' => rfl, hK _ ?_⟩; clear hK K)
      with_reducible refine wpQuiet_step ?_
      intro K hK
      go_simp
      first | (refine hK _ ?_; clear hK K) | (refine ⟨_, fun w' hw' => rfl, hK _ ?_⟩; clear hK K)
      with_reducible refine wpQuiet_step ?_
      intro K hK
      go_simp
      first | (refine hK _ ?_; clear hK K) | (refine ⟨_, fun w' hw' => rfl, hK _ ?_⟩; clear hK K)
      with_reducible refine wpQuiet_step ?_
      intro K hK
      go_simp
      first | (refine hK _ ?_; clear hK K) | (refine ⟨_, fun w' hw' => rfl, hK _ ?_⟩; clear hK K)
      with_reducible refine wpQuiet_step ?_
      intro K hK
      go_simp
      first | (refine hK _ ?_; clear hK K) | (refine ⟨_, fun w' hw' => rfl, hK _ ?_⟩; clear hK K)
      with_reducible refine wpQuiet_step ?_
      intro K hK
      refine quiet_val (.int .u64 (lo : Int)) (fun w' hw' => held_load1 Try.underlying30 rfl one64 _ rfl g1 37 rfl _ _ (.int .u64 (lo : Int)) ((HA.out w' hw').get 0 rfl) hc37.out) ?_ rfl
      go_simp
      refine hK _ ?_
      clear hK K
      with_reducible refine wpQuiet_step ?_
      intro K hK
      go_simp
      first | (refine hK _ ?_; clear hK K) | (refine ⟨_, fun w' hw' => rfl, hK _ ?_⟩; clear hK K)
      with_reducible refine wpQuiet_step ?_
      intro K hK
      go_simp
      first | (refine hK _ ?_; clear hK K) | (refine ⟨_, fun w' hw' => rfl, hK _ ?_⟩; clear hK K)
      with_reducible refine wpQuiet_step ?_
      intro K hK
      go_simp
      first | (refine hK _ ?_; clear hK K) | (refine ⟨_, fun w' hw' => rfl, hK _ ?_⟩; clear hK K)
      with_reducible refine wpQuiet_step ?_
      intro K hK
      go_simp
      first | (refine hK _ ?_; clear hK K) | (refine ⟨_, fun w' hw' => rfl, hK _ ?_⟩; clear hK K)
      with_reducible refine wpQuiet_step ?_
      intro K hK
      go_simp
      first | (refine hK _ ?_; clear hK K) | (refine ⟨_, fun w' hw' => rfl, hK _ ?_⟩; clear hK K)
      with_reducible refine wpQuiet_step ?_
      intro K hK
      refine quiet_val (.int .u64 (hi : Int)) (fun w' hw' => held_load1 Try.underlying30 rfl one64 _ rfl g1 38 rfl _ _ (.int .u64 (hi : Int)) ((HA.out w' hw').get 0 rfl) hc38.out) ?_ rfl
      go_simp
      refine hK _ ?_
      clear hK K
      with_reducible refine wpQuiet_step ?_
      intro K hK
      go_simp
      first | (refine hK _ ?_; clear hK K) | (refine ⟨_, fun w' hw' => rfl, hK _ ?_⟩; clear hK K)
      with_reducible refine wpQuiet_step ?_
      intro K hK
      go_simp
      first | (refine hK _ ?_; clear hK K) | (refine ⟨_, fun w' hw' => rfl, hK _ ?_⟩; clear hK K)
      with_reducible refine wpQuiet_step ?_
      intro K hK
      go_simp
      first | (refine hK _ ?_; clear hK K) | (refine ⟨_, fun w' hw' => rfl, hK _ ?_⟩; clear hK K)
      with_reducible refine wpQuiet_step ?_
      intro K hK
      go_simp
      first | (refine hK _ ?_; clear hK K) | (refine ⟨_, fun w' hw' => rfl, hK _ ?_⟩; clear hK K)
      with_reducible refine wpQuiet_step ?_
      intro K hK
      go_simp
      first | (refine hK _ ?_; clear hK K) | (refine ⟨_, fun w' hw' => rfl, hK _ ?_⟩; clear hK K)
      with_reducible refine wpQuiet_step ?_
      intro K hK
      refine quiet_val (.int .u32 (delay : Int)) (fun w' hw' => held_load1 Try.underlying26 rfl one32 _ rfl g1 39 rfl _ _ (.int .u32 (delay : Int)) ((HA.out w' hw').get 0 rfl) hc39.out) ?_ rfl
      go_simp
      refine hK _ ?_
      clear hK K
      with_reducible refine wpQuiet_step ?_
      intro K hK
      go_simp
      first | (refine hK _ ?_; clear hK K) | (refine ⟨_, fun w' hw' => rfl, hK _ ?_⟩; clear hK K)
      with_reducible refine wpQuiet_step ?_
      intro K hK
      go_simp
      first | (refine hK _ ?_; clear hK K) | (refine ⟨_, fun w' hw' => rfl, hK _ ?_⟩; clear hK K)
      with_reducible refine wpQuiet_step ?_
      intro K hK
      go_simp
      first | (refine hK _ ?_; clear hK K) | (refine ⟨_, fun w' hw' => rfl, hK _ ?_⟩; clear hK K)
      with_reducible refine wpQuiet_step ?_
      intro K hK
      go_simp
      first | (refine hK _ ?_; clear hK K) | (refine ⟨_, fun w' hw' => rfl, hK _ ?_⟩; clear hK K)
      with_reducible refine wpQuiet_step ?_
      intro K hK
      go_simp
      first | (refine hK _ ?_; clear hK K) | (refine ⟨_, fun w' hw' => rfl, hK _ ?_⟩; clear hK K)
      with_reducible refine wpQuiet_step ?_
      intro K hK
      refine quiet_val (.int .u16 (who : Int)) (fun w' hw' => held_load1 Try.underlying25 rfl one16w _ rfl g1 3 rfl _ _ (.int .u16 (who : Int)) ((HA.out w' hw').get 0 rfl) hc3.out) ?_ rfl
      go_simp
      refine hK _ ?_
      clear hK K
      with_reducible refine wpQuiet_step ?_
      intro K hK
      go_simp
      first | (refine hK _ ?_; clear hK K) | (refine ⟨_, fun w' hw' => rfl, hK _ ?_⟩; clear hK K)
      with_reducible refine wpQuiet_step ?_
      intro K hK
      go_simp
      first | (refine hK _ ?_; clear hK K) | (refine ⟨_, fun w' hw' => rfl, hK _ ?_⟩; clear hK K)
      with_reducible refine wpQuiet_step ?_
      intro K hK
      go_simp
      first | (refine hK _ ?_; clear hK K) | (refine ⟨_, fun w' hw' => rfl, hK _ ?_⟩; clear hK K)
      with_reducible refine wpQuiet_step ?_
      intro K hK
      go_simp
      first | (refine hK _ ?_; clear hK K) | (refine ⟨_, fun w' hw' => rfl, hK _ ?_⟩; clear hK K)
      with_reducible refine wpQuiet_step ?_
      intro K hK
      go_simp
      first | (refine hK _ ?_; clear hK K) | (refine ⟨_, fun w' hw' => rfl, hK _ ?_⟩; clear hK K)
      with_reducible refine wpQuiet_step ?_
      intro K hK
      refine quiet_val (.int .u32 (epoch : Int)) (fun w' hw' => held_load1 Try.underlying26 rfl one32 _ rfl g1 4 rfl _ _ (.int .u32 (epoch : Int)) ((HA.out w' hw').get 0 rfl) hc4.out) ?_ rfl
      go_simp
      refine hK _ ?_
      clear hK K
      with_reducible refine wpQuiet_step ?_
      intro K hK
      go_simp
      first | (refine hK _ ?_; clear hK K) | (refine ⟨_, fun w' hw' => rfl, hK _ ?_⟩; clear hK K)
      with_reducible refine wpQuiet_step ?_
      intro K hK
      go_simp
      first | (refine hK _ ?_; clear hK K) | (refine ⟨_, fun w' hw' => rfl, hK _ ?_⟩; clear hK K)
      with_reducible refine wpQuiet_step ?_
      intro K hK
      go_simp
      first | (refine hK _ ?_; clear hK K) | (refine ⟨_, fun w' hw' => rfl, hK _ ?_⟩; clear hK K)
      with_reducible refine wpQuiet_step ?_
      intro K hK
      go_simp
      first | (refine hK _ ?_; clear hK K) | (refine ⟨_, fun w' hw' => rfl, hK _ ?_⟩; clear hK K)
      with_reducible refine wpQuiet_step ?_
      intro K hK
      refine quiet_val (.string ⟨(nonce).toArray⟩) (fun w' hw' => held_convR _ rfl (some ⟨gnonce, 0, none⟩) 16 cnonce rfl (nonce) (((HA.out w' hw').get 2 rfl).mid 0 16 (nonce) HTnonce.out hNl.out)) ?_ rfl
      go_simp
      refine hK _ ?_
      clear hK K
      with_reducible refine wpQuiet_step ?_
      intro K hK
      go_simp
      first | (refine hK _ ?_; clear hK K) | (refine ⟨_, fun w' hw' => rfl, hK _ ?_⟩; clear hK K)
      with_reducible refine wpQuiet_step ?_
      intro K hK
      go_simp
      first | (refine hK _ ?_; clear hK K) | (refine ⟨_, fun w' hw' => rfl, hK _ ?_⟩; clear hK K)
      with_reducible refine wpQuiet_step ?_
      intro K hK
      refine quiet_val (.string ⟨(nonce).toArray⟩) (fun w' hw' => held_convm _ rfl g1 5 16 16 rfl (nonce) (((HA.out w' hw').get 0 rfl).mid 5 16 (nonce) htn.out hNl.out)) ?_ rfl
      go_simp
      refine hK _ ?_
      clear hK K
      with_reducible refine wpQuiet_step ?_
      intro K hK
      go_simp
      first | (refine hK _ ?_; clear hK K) | (refine ⟨_, fun w' hw' => rfl, hK _ ?_⟩; clear hK K)
      with_reducible refine wpQuiet_step ?_
      intro K hK
      go_simp
      first | (refine hK _ ?_; clear hK K) | (refine ⟨_, fun w' hw' => rfl, hK _ ?_⟩; clear hK K)
      with_reducible refine wpQuiet_step ?_
      intro K hK
      go_simp
      first | (refine hK _ ?_; clear hK K) | (refine ⟨_, fun w' hw' => rfl, hK _ ?_⟩; clear hK K)
      with_reducible refine wpQuiet_step ?_
      intro K hK
      go_simp
      first | (refine hK _ ?_; clear hK K) | (refine ⟨_, fun w' hw' => rfl, hK _ ?_⟩; clear hK K)
      with_reducible refine wpQuiet_step ?_
      intro K hK
      refine quiet_val (.string ⟨(mac).toArray⟩) (fun w' hw' => held_convR _ rfl (some ⟨gmac, 0, none⟩) 16 cmac rfl (mac) (((HA.out w' hw').get 3 rfl).mid 0 16 (mac) HTmac.out hMl.out)) ?_ rfl
      go_simp
      refine hK _ ?_
      clear hK K
      with_reducible refine wpQuiet_step ?_
      intro K hK
      go_simp
      first | (refine hK _ ?_; clear hK K) | (refine ⟨_, fun w' hw' => rfl, hK _ ?_⟩; clear hK K)
      with_reducible refine wpQuiet_step ?_
      intro K hK
      go_simp
      first | (refine hK _ ?_; clear hK K) | (refine ⟨_, fun w' hw' => rfl, hK _ ?_⟩; clear hK K)
      with_reducible refine wpQuiet_step ?_
      intro K hK
      refine quiet_val (.string ⟨(mac).toArray⟩) (fun w' hw' => held_convm _ rfl g1 21 16 16 rfl (mac) (((HA.out w' hw').get 0 rfl).mid 21 16 (mac) htm.out hMl.out)) ?_ rfl
      go_simp
      refine hK _ ?_
      clear hK K
      with_reducible refine wpQuiet_step ?_
      intro K hK
      go_simp
      first | (refine hK _ ?_; clear hK K) | (refine ⟨_, fun w' hw' => rfl, hK _ ?_⟩; clear hK K)
      with_reducible refine wpQuiet_step ?_
      intro K hK
      go_simp
      first | (refine hK _ ?_; clear hK K) | (refine ⟨_, fun w' hw' => rfl, hK _ ?_⟩; clear hK K)
      with_reducible refine wpQuiet_step ?_
      intro K hK
      go_simp
      first | (refine hK _ ?_; clear hK K) | (refine ⟨_, fun w' hw' => rfl, hK _ ?_⟩; clear hK K)
      with_reducible refine wpQuiet_step ?_
      intro K hK
      go_simp
      first | (refine hK _ ?_; clear hK K) | (refine ⟨_, fun w' hw' => rfl, hK _ ?_⟩; clear hK K)
      with_reducible refine wpQuiet_step ?_
      intro K hK
      refine quiet_val (.string ⟨([0, 0, 0]).toArray⟩) (fun w' hw' => held_convR _ rfl (some ⟨grr, 0, none⟩) 3 crr rfl ([0, 0, 0]) (((HA.out w' hw').get 4 rfl).mid 0 3 ([0, 0, 0]) HTrr.out rfl)) ?_ rfl
      go_simp
      refine hK _ ?_
      clear hK K
      with_reducible refine wpQuiet_step ?_
      intro K hK
      go_simp
      first | (refine hK _ ?_; clear hK K) | (refine ⟨_, fun w' hw' => rfl, hK _ ?_⟩; clear hK K)
      with_reducible refine wpQuiet_step ?_
      intro K hK
      go_simp
      first | (refine hK _ ?_; clear hK K) | (refine ⟨_, fun w' hw' => rfl, hK _ ?_⟩; clear hK K)
      with_reducible refine wpQuiet_step ?_
      intro K hK
      go_simp
      first | (refine hK _ ?_; clear hK K) | (refine ⟨_, fun w' hw' => rfl, hK _ ?_⟩; clear hK K)
      refine wpQuiet_nil ?_
      clear hq
      intro wq hwq
      replace H := hide (HA.out wq hwq)
      clear HA HC hwq
      go_wp2_with fail
      go_ret
      exact ⟨rfl, H.out.bel⟩
end Go.Proofs.Ytedodbejbkdplaa
