/-
  Packets' bytes.
-/
import Derived.Test.YtedodbejbkdplaaSl8
namespace Go.Proofs.Ytedodbejbkdplaa
set_option linter.unusedVariables false
set_option linter.unusedSimpArgs false
open Go.RowKit

/-- The cells of a packet in its block. -/
theorem Blk.pkt {w : World} {g : Nat} {t : TypeId} {p : Pkt} (h : Blk w g t (pktC p).toArray) : w.cell? ⟨g, 0, none⟩ = some (.int .u16 (p.who : Int)) ∧ w.cell? ⟨g, 1, none⟩ = some (.int .u32 (p.epoch : Int)) := ⟨h.cell 0, h.cell 1⟩
theorem step_held {P : Program} {ops : Array Oper} {op : Oper} {a : Act} {w : World} {K : Act → World → Prop} {Q : Exit → Act → World → Prop} {E : Prop} (v : Value) (hv : (execOp a.eval op).run P w = .ok (.value v) w) (hw : Region.wanted op (yielded ops a.tmps) = true)
    (h : K (a.put op.dst v) w) : if Region.wanted op (yielded ops a.tmps) = true then Oper.wp P op a w K Q else E := by
  rw [if_pos hw]
  unfold Oper.wp
  rw [hv]
  exact h
theorem step_storem {P : Program} {ty : TypeId} {n : Nat} (hA : Agg P ty n) {ops : Array Oper} {op : Oper} {a : Act} {w : World} {K : Act → World → Prop} {Q : Exit → Act → World → Prop} {E : Prop} (hgd : op.guard = none) (x y : Operand) (ho : op.op = .store ty x y)
    (g off : Nat) (vs cs cs' : List Value) (hx : a.eval x = .pointer (some ⟨g, off, none⟩)) (hy : a.eval y = .agg vs.toArray) (t : TypeId) (hb : Blk w g t cs.toArray) (hn : vs.length = n) (hfit : off + n ≤ cs.length) (hc : splice cs off vs = cs') (h1 : ∀ v ∈ vs, v.oneCell' = true)
    (h : ∀ w', Blk w' g t cs'.toArray → Frm (fun k => k = g) w w' → K (a.put op.dst undef) w') : if Region.wanted op (yielded ops a.tmps) = true then Oper.wp P op a w K Q else E := by
  have hw : Region.wanted op (yielded ops a.tmps) = true := by simp [Region.wanted, hgd]
  rw [if_pos hw]
  refine wp_store_mid ty x y ho g off vs.toArray hx hy (fun q hq => ⟨?_, hb.frozen _⟩) ?_ (all_oneCell_toArray h1) ?_
  · have hq4 : q < n := by rw [← hn]; simpa using hq
    rw [hb.cell, Array.getElem?_eq_getElem (by rw [List.size_toArray]; omega)]; rfl
  · rw [hA.2, ← hn]; simp
  · obtain ⟨h2, h3⟩ := blk_setCellsL vs off w cs hb (by omega)
    rw [hc] at h2
    exact h _ h2 h3

set_option maxHeartbeats 8000000 in
set_option maxRecDepth 100000 in
theorem pack_any (p : Pkt) (hp : p.ok) (w : World) : Calls Try.prog 19 #[.agg (pktC p).toArray] w (New w.heap.size 5 (cellsB (packM p)) w) := by
  have HL := hide (pktC_length hp)
  have HTN := hide (pktC_nonce hp)
  have HTM := hide (pktC_mac hp)
  have HTH := hide (pktC_head hp)
  have HTB := hide (pktC_body hp)
  have HPK : Hid (packM p = be 2 p.who ++ be 4 p.epoch ++ p.nonce ++ p.mac ++ p.head ++ p.body) := rfl
  obtain ⟨who, epoch, nonce, mac, head, body⟩ := p
  obtain ⟨b3, b4, b8, b9, b10, b11⟩ := hp
  simp only at b3 b4 b8 b9 b10 b11 HPK HTN HTM HTH HTB
  have HN16 := hide b8
  have HM16 := hide b9
  have HH := hide b10
  have HY := hide b11
  generalize hC : pktC ⟨who, epoch, nonce, mac, head, body⟩ = C at *
  have HC := hide hC
  have h320 := sl320
  have h256 := sl256
  generalize packM ⟨who, epoch, nonce, mac, head, body⟩ = PK at *
  have HCELLS : Hid (∀ (W : World) (g : Nat), Blk W g 50 C.toArray → W.cell? ⟨g, 0, none⟩ = some (.int .u16 (who : Int)) ∧ W.cell? ⟨g, 1, none⟩ = some (.int .u32 (epoch : Int))) := by
    intro W g h
    rw [← hC] at h
    exact h.pkt
  clear hC b8 b9 b10 b11
  go_enter Try.func19, Try.ntmps19
  go_wp2_with (first
    | ((with_reducible refine wpl_boxa (op := ⟨some 1, _, _, _, _, _⟩) rfl _ _ rfl C rfl ?_); intro g1 w1 hB1 hg1 hF1)
    | ((with_reducible refine wpl_alloca (op := ⟨some 3, _, _, _, _, _⟩) rfl _ rfl _ zeroW ?_); intro g3 w3 hB3 hg3 hF3; have hB13 := hB1.frm hF3 (fun h => h); obtain ⟨c0, c1⟩ := HCELLS.out w3 g1 hB13)
    | (with_reducible refine wpl_loada (op := ⟨some 9, _, _, _, _, _⟩) aggN rfl _ rfl g1 2 rfl _ _ (cellsB nonce) hB13 HTN.out (by rw [HL.out]; decide) ?_)
    | (with_reducible refine wpl_loada (op := ⟨some 11, _, _, _, _, _⟩) aggM rfl _ rfl g1 18 rfl _ _ (cellsB mac) hB13 HTM.out (by rw [HL.out]; decide) ?_))
  have HG1 : Hid (g1 ≠ g3 ∧ w.heap.size ≤ g1 ∧ w.heap.size ≤ g3) := ⟨by have := hB1.lt; omega, hg1, by have := hF1.size; omega⟩
  have HF03 := hide (hF1.trans hF3 (fun _ _ h => h))
  have hW3 : Wr w3 g3 none [] := ⟨.slice none 0 0, hB3, ⟨rfl, .inl ⟨rfl, rfl⟩⟩, .inl rfl⟩
  have HB13 := hide hB13
  clear hB1 hB3 hF1 hF3 hg1 hg3 c0 c1 hB13
  refine (putSeal_any g3 none [] who epoch nonce mac w3 hW3 (fun j hj => by cases hj) (by decide) b3 b4 HN16.out HM16.out).mono ?_
  rintro e w4 ⟨rfl, hp4⟩
  clear hW3
  obtain ⟨d4, hw4, hd4, hf4⟩ := hp4
  have HP4 : Hid (Put g3 none ([] ++ be 2 who ++ be 4 epoch ++ nonce ++ mac) w3 w4) := ⟨d4, hw4, hd4, hf4⟩
  have HP5 : Hid (Put g3 none ([] ++ be 2 who ++ be 4 epoch ++ nonce ++ mac) w3 w4.drew) := Put.to HP4.out ((Frm.refl _ _).drew)
  have HLL : Hid (([] ++ be 2 who ++ be 4 epoch ++ nonce ++ mac).length = 38) := by show _ = _; simp only [List.length_append, be_length, List.length_nil]; rw [HN16.out, HM16.out]
  clear hw4 hd4 hf4 HP4
  go_wp2_with fail
  generalize hL : [] ++ be 2 who ++ be 4 epoch ++ nonce ++ mac = LL at *
  have HEQ : Hid (LL ++ head ++ body = PK) := by show _ = _; rw [HPK.out, ← hL]; simp only [List.nil_append]
  clear hL
  refine wp_region_held_drew (S := fun _ => True) (by kernel_rfl) trivial ?_
  intro hHeld
  refine wpAnyH_take (i := 0) (v := ?v1) rfl (by kernel_rfl) (by kernel_rfl) (by kernel_rfl) (fun _ _ _ h => h) (Or.inl ⟨by rfl, ?hy1⟩) (by assumption) ?rest1
  case hy1 => (intro w hSw; (try go_simp); try with_reducible rfl)
  try simp only [Act.put, List.getElem_toArray, List.getElem_cons_zero, List.getElem_cons_succ, List.setIfInBounds_toArray, List.set_cons_zero, List.set_cons_succ]
  refine wpAnyH_take (i := 1) (v := ?v2) rfl (by kernel_rfl) (by kernel_rfl) (by kernel_rfl) (fun _ _ _ h => h) (Or.inl ⟨by rfl, ?hy2⟩) (by assumption) ?rest2
  case hy2 => (intro w hSw; (try go_simp); try with_reducible rfl)
  try simp only [Act.put, List.getElem_toArray, List.getElem_cons_zero, List.getElem_cons_succ, List.setIfInBounds_toArray, List.set_cons_zero, List.set_cons_succ]
  refine wpAnyH_take (i := 3) (v := ?v3) rfl (by kernel_rfl) (by kernel_rfl) (by kernel_rfl) (fun _ _ _ h => h) (Or.inl ⟨by rfl, ?hy3⟩) (by assumption) ?rest3
  case hy3 => (intro w hSw; (try go_simp); try with_reducible rfl)
  try simp only [Act.put, List.getElem_toArray, List.getElem_cons_zero, List.getElem_cons_succ, List.setIfInBounds_toArray, List.set_cons_zero, List.set_cons_succ]
  refine wpAnyH_take (i := 4) (v := ?v4) rfl (by kernel_rfl) (by kernel_rfl) (by kernel_rfl) (fun _ _ _ h => h) (Or.inl ⟨by rfl, ?hy4⟩) (by assumption) ?rest4
  case hy4 => (intro w hSw; (try go_simp); try with_reducible rfl)
  try simp only [Act.put, List.getElem_toArray, List.getElem_cons_zero, List.getElem_cons_succ, List.setIfInBounds_toArray, List.set_cons_zero, List.set_cons_succ]
  refine wpAnyH_ready (rs := [2]) (by kernel_rfl) (by simp) ?_
  refine AllReadyH.cons rfl (fun K hK => ?_) AllReadyH.nil
  go_simp
  obtain ⟨d5, hw5, hd5, hf5⟩ := HP5.out
  have hr5 := (HP5.out.keep HB13.out HG1.out.1 (fun j hj => by cases hj)).mid 34 320 head HTH.out HH.out
  refine (wbytes_any g3 d5 (LL) head (some ⟨g1, 34, none⟩) 320 320 _ hw5 (by rw [HLL.out]; omega) hr5 (by omega)).mono ?_
  rintro e v6 ⟨rfl, hp5⟩
  have HP6 := hide (Put.step hd5 hf5 hp5)
  clear hw5 hd5 hf5 hp5
  refine hK.out _ _ (trivial) (fun hHeld => ?_)
  clear hK K
  refine wpAnyH_ready (rs := [5]) (by kernel_rfl) (by simp) ?_
  refine AllReadyH.cons rfl (fun K hK => ?_) AllReadyH.nil
  go_simp
  obtain ⟨d6, hw6, hd6, hf6⟩ := HP6.out
  have hr6 := (HP6.out.keep HB13.out HG1.out.1 (fun j hj => by cases hj)).mid 354 256 body HTB.out HY.out
  refine (wbytes_any g3 d6 (LL ++ head) body (some ⟨g1, 354, none⟩) 256 256 _ hw6 (by rw [List.length_append, HLL.out, HH.out]; omega) hr6 (by omega)).mono ?_
  rintro e v7 ⟨rfl, hp6⟩
  have HP7 := hide (Put.step hd6 hf6 hp6)
  clear hw6 hd6 hf6 hp6
  refine hK.out _ _ (trivial) (fun hHeld => ?_)
  clear hK K
  refine wpAnyH_ready (rs := [6]) (by kernel_rfl) (by simp) ?_
  refine AllReadyH.cons rfl (fun K hK => ?_) AllReadyH.nil
  go_simp
  rw [HEQ.out] at HP7
  obtain ⟨d7, hw7, hd7, hf7⟩ := HP7.out
  refine (wdone_any g3 d7 PK _ hw7 (by rw [← HEQ.out]; simp only [List.length_append]; rw [HLL.out, HH.out, HY.out]; omega)).mono ?_
  rintro e v8 ⟨A8, c8, rfl, ho8, hb8⟩
  have HO8 := hide ho8
  have HB8 := hide hb8
  have HF7 := hide hf7
  clear hw7 hd7 hf7 ho8 hb8
  refine hK.out _ _ (trivial) (fun hHeld => ?_)
  clear hK K
  refine wpAnyH_take (i := 7) (v := ?v5) rfl (by kernel_rfl) (by kernel_rfl) (by kernel_rfl) (fun _ _ _ h => h) (Or.inl ⟨by rfl, ?hy5⟩) (by assumption) ?rest5
  case hy5 => (intro w hSw; (try go_simp); try with_reducible rfl)
  try simp only [Act.put, List.getElem_toArray, List.getElem_cons_zero, List.getElem_cons_succ, List.setIfInBounds_toArray, List.set_cons_zero, List.set_cons_succ]
  refine wpAnyH_done (by kernel_rfl) ?_ _
  clear hHeld
  go_wp2
  go_ret
  have h3 : Below w.heap.size w w3 := HF03.out.below (Nat.le_refl _) (fun _ h => h.elim)
  have h7 := below_frm h3 HF7.out h3.size (fun k hk => by rcases hk with rfl | hk; exact HG1.out.2.2; cases hk)
  exact ⟨A8, c8, rfl, own_base HO8.out h7.size, h7.trans (HB8.out.mono h7.size)⟩


def upM (b : List UInt8) : Pkt := if b.length = 614 then unpackM b else pkt0
def errU (b : List UInt8) : Int := if b.length < 614 then 2 else if 614 < b.length then 3 else 0
theorem upM_ok (b : List UInt8) : (upM b).ok := by
  unfold upM
  split
  · rename_i h; exact unpackM_ok h
  · exact pkt0_ok
theorem build_pkt0 (w : World) : Sem.run Try.prog (Instr.build 50 #[]) w = .ok (.agg (pktC pkt0).toArray) w := run_build w _ _ _ (by kernel_rfl)
theorem pktC_fits {p : Pkt} (h : p.ok) : 2 + 16 ≤ (pktC p).length ∧ 18 + 16 ≤ (pktC p).length ∧ 34 + 320 ≤ (pktC p).length ∧ 354 + 256 ≤ (pktC p).length := by
  rw [pktC_length h]
  decide

set_option maxHeartbeats 8000000 in
set_option maxRecDepth 100000 in
theorem unpack_any (A : Option Addr) (n c : Nat) (b : List UInt8) (w : World) (hr : Rds w A n (cellsB b)) (hn : n ≤ 100000) :
    Calls Try.prog 20 #[.slice A n c] w fun e w' => e = .returned (.tuple #[.agg (pktC (upM b)).toArray, .int .i64 (errU b)]) ∧ Below w.heap.size w w' := by
  have hl : b.length = n := by have := hr.1; rwa [cellsB_length] at this
  have HU : Hid (upM b = if n = 614 then unpackM b else pkt0) := by show _ = _; unfold upM; rw [hl]
  have HE : Hid (errU b = if n < 614 then 2 else if 614 < n then 3 else 0) := by show _ = _; unfold errU; rw [hl]
  have HUL := hide (pktC_length (upM_ok b))
  have HUO := hide (pktC_one (upM b))
  have HUD : Hid (unpackM b = ⟨num (b.take 2), num ((b.drop 2).take 4), (b.drop 6).take 16, (b.drop 22).take 16, (b.drop 38).take 320, b.drop 358⟩) := rfl
  have HL := hide hl
  have HR := hide hr
  clear hl hr
  generalize upM b = U at *
  generalize errU b = E at *
  generalize unpackM b = V at *
  rcases Nat.lt_trichotomy n 614 with h | h | h
  · have hu : U = pkt0 := by rw [HU.out, if_neg (by omega)]
    have he : E = 2 := by rw [HE.out, if_pos h]
    subst hu he
    have h' : (n : Int) < 614 := by omega
    clear HU HE HUD V
    have hbd := build_pkt0
    go_enter Try.func20, Try.ntmps20
    go_wp2_with (first
      | ((with_reducible refine wpl_alloca (op := ⟨some 2, _, _, _, _, _⟩) rfl _ rfl _ zeroP ?_); intro g2 w2 hB2 hg2 hF2)
      | (refine wpl_held (op := ⟨some 12, _, _, _, _, _⟩) (.agg (pktC pkt0).toArray) (held_build _ _ rfl _ _ (hbd _) rfl) rfl ?_)
      | ((with_reducible refine wpl_storea aggP rfl (.tmp 2) (.tmp 12) rfl g2 (pktC pkt0) rfl rfl _ _ hB2 HUL.out pkt0_len HUO.out ?_); intro w3 hB3 hF3))
    refine bodyPost_ret (results_ct aggP rfl _ _ g2 _ _ rfl hB3 HUL.out) rfl ⟨rfl, ?_⟩
    exact below_frm (hF2.below (Nat.le_refl _) (fun _ h => h.elim)) hF3 hF2.size (fun k hk => by omega)
  · subst h
    have hu : U = V := by rw [HU.out, if_pos rfl]
    have he : E = 0 := by rw [HE.out]; rfl
    subst hu he
    clear HU HE
    have har3 := fun (g c : Nat) (w : World) => run_arr under320 (some ⟨g, 0, none⟩) 320 c (Nat.le_refl _) w
    have har2 := fun (g c : Nat) (w : World) => run_arr under256 (some ⟨g, 0, none⟩) 256 c (Nat.le_refl _) w
    obtain ⟨who, hwho⟩ : ∃ n, n = num (b.take 2) := ⟨_, rfl⟩
    obtain ⟨epoch, hepoch⟩ : ∃ n, n = num ((b.drop 2).take 4) := ⟨_, rfl⟩
    obtain ⟨nonce, hnonce⟩ : ∃ n, n = (b.drop 6).take 16 := ⟨_, rfl⟩
    obtain ⟨mac, hmac⟩ : ∃ n, n = (b.drop 22).take 16 := ⟨_, rfl⟩
    obtain ⟨hd, hhd⟩ : ∃ n, n = (b.drop 38).take 320 := ⟨_, rfl⟩
    obtain ⟨bd, hbd⟩ : ∃ n, n = b.drop 358 := ⟨_, rfl⟩
    rw [← hwho, ← hepoch, ← hnonce, ← hmac, ← hhd, ← hbd] at HUD
    have hb3 : who < 65536 := by rw [hwho]; exact num_take_lt b 2 2 (Nat.le_refl _)
    have hb4 : epoch < 4294967296 := by rw [hepoch]; exact num_cut b 2 4
    have HNl : Hid (nonce.length = 16) := by show _ = _; rw [hnonce, List.length_take, List.length_drop, HL.out]; decide
    have HMl : Hid (mac.length = 16) := by show _ = _; rw [hmac, List.length_take, List.length_drop, HL.out]; decide
    have HHl : Hid (hd.length = 320) := by show _ = _; rw [hhd, List.length_take, List.length_drop, HL.out]; decide
    have HBl : Hid (bd.length = 256) := by show _ = _; rw [hbd, List.length_drop, HL.out]
    have hNc : (cellsB nonce).length = 16 := by rw [cellsB_length]; exact HNl.out
    have hMc : (cellsB mac).length = 16 := by rw [cellsB_length]; exact HMl.out
    have hHc : (cellsB hd).length = 320 := by rw [cellsB_length]; exact HHl.out
    have hBc : (cellsB bd).length = 256 := by rw [cellsB_length]; exact HBl.out
    have HNc := hide hNc
    have HMc := hide hMc
    have HHc := hide hHc
    have HBc := hide hBc
    have Hwho := hide hwho
    have Hepoch := hide hepoch
    have Hnonce := hide hnonce
    have Hmac := hide hmac
    have Hhd := hide hhd
    have Hbd := hide hbd
    have H34 := hide (And.intro hb3 hb4)
    clear hwho hepoch hnonce hmac hhd hbd hNc hMc hHc hBc hb3 hb4
    go_enter Try.func20, Try.ntmps20
    go_wp2_with (first
      | ((with_reducible refine wpl_alloca (op := ⟨some 2, _, _, _, _, _⟩) rfl _ rfl _ zeroP ?_); intro g2 w2 hB2 hg2 hF2)
      | ((with_reducible refine wpl_alloca (op := ⟨some 4, _, _, _, _, _⟩) rfl _ rfl _ zeroP ?_); intro g4 w4 hB4 hg4 hF4))
    have hF04 : Frm (fun _ => False) w w4 := hF2.trans hF4 (fun _ _ h => h)
    refine (read_any A 614 c b w4 (HR.out.below (hF04.below (Nat.le_refl _) (fun _ h => h.elim))) (by omega)).mono ?_
    rintro e w5 ⟨g, d0, rfl, hr50, hb5, hg5, hd50⟩
    obtain ⟨d, hr5, hd5⟩ := rd_norm hr50
    have hF5 : Frm (fun _ => False) w4 w5 := Frm.of_below hb5
    have hB25 := (hB2.frm hF4 (fun h => h)).frm hF5 (fun h => h)
    have hB45 := hB4.frm hF5 (fun h => h)
    have HG : Hid (g ≠ g2 ∧ g ≠ g4 ∧ g2 ≠ g4 ∧ w.heap.size ≤ g ∧ w.heap.size ≤ g2 ∧ w.heap.size ≤ g4) := by
      have := hB2.lt; have := hB4.lt; have := hF2.size; have := hF4.size
      exact ⟨by omega, by omega, by omega, by omega, by omega, by omega⟩
    have HD : Hid (∀ j, d = some j → w.heap.size ≤ j ∧ j ≠ g2 ∧ j ≠ g4 ∧ j < w5.heap.size) := by
      intro j hj
      have h1 := hd5 j hj
      have h2 := hd50 j h1.1
      have := hB2.lt; have := hB4.lt; have := hF2.size; have := hF4.size
      exact ⟨by omega, by omega, by omega, by omega⟩
    have HB5 : Hid (Below w.heap.size w w5) := (hF04.trans hF5 (fun _ _ h => h)).below (Nat.le_refl _) (fun _ h => h.elim)
    clear hr50 hd50 hd5 hb5 hg5 hF2 hF4 hF5 hF04 hB2 hB4 hg2 hg4
    go_wp2_with fail
    refine (takeSeal_any g d b w5 hr5 (by rw [HL.out]; omega) (by rw [HL.out]; omega) (fun j hj => (HD.out j hj).2.2.2)).mono ?_
    rintro e w6 ⟨rfl, hr6, hf6⟩
    rw [← Hwho.out, ← Hepoch.out, ← Hnonce.out, ← Hmac.out]
    have hB26 := hB25.frm hf6 (fun e => HG.out.1 e.symm)
    have hB46 := hB45.frm hf6 (fun e => HG.out.2.1 e.symm)
    have HB6 : Hid (Below w.heap.size w w6) := below_frm HB5.out hf6 HB5.out.size (fun k hk => by have := HG.out; omega)
    have hfz : ∀ i, w6.frozen? ⟨g4, i, none⟩ = false := hB46.frozen
    have c0 : w6.cell? ⟨g4, 0, none⟩ = some (.int .u16 (0 : Nat)) := hB46.cell 0
    have c1 : w6.cell? ⟨g4, 1, none⟩ = some (.int .u32 (0 : Nat)) := hB46.cell 1
    have hB47 : Blk ((w6.setCell ⟨g4, 0, none⟩ (.int .u16 (who : Int))).setCell ⟨g4, 1, none⟩ (.int .u32 (epoch : Int))) g4 50 (pktC ⟨who, epoch, Z16, Z16, zeros 320, zeros 256⟩).toArray := (hB46.setL 0 _).setL 1 _
    have hF67 : Frm (fun k => k = g4) w6 ((w6.setCell ⟨g4, 0, none⟩ (.int .u16 (who : Int))).setCell ⟨g4, 1, none⟩ (.int .u32 (epoch : Int))) := (Frm.setCell _ ⟨g4, 0, none⟩ _ (fun k => k = g4) rfl).trans (Frm.setCell _ ⟨g4, 1, none⟩ _ (fun k => k = g4) rfl) (fun _ _ h => h)
    have hp7 : (⟨who, epoch, Z16, Z16, zeros 320, zeros 256⟩ : Pkt).ok := ⟨H34.out.1, H34.out.2, rfl, rfl, zeros_length _, zeros_length _⟩
    have hp8 : (⟨who, epoch, nonce, Z16, zeros 320, zeros 256⟩ : Pkt).ok := ⟨H34.out.1, H34.out.2, HNl.out, rfl, zeros_length _, zeros_length _⟩
    have hp9 : (⟨who, epoch, nonce, mac, zeros 320, zeros 256⟩ : Pkt).ok := ⟨H34.out.1, H34.out.2, HNl.out, HMl.out, zeros_length _, zeros_length _⟩
    have HP7 := hide hp7
    have HP8 := hide hp8
    have HP9 := hide hp9
    have HB47 := hide hB47
    have HF67 := hide hF67
    clear hp7 hp8 hp9 hB47 hF67
    go_wp2_with (first
      | ((with_reducible refine wpl_storem aggN rfl (.tmp 29) (.tmp 25) rfl g4 2 (cellsB nonce) _ _ rfl rfl _ HB47.out HNc.out (pktC_fits HP7.out).1 (pktC_snonce HP7.out nonce HNl.out) (cellsB_one _) ?_); intro w8 hB8 hF8; have HB8 := hide hB8; clear hB8)
      | ((with_reducible refine wpl_storem aggM rfl (.tmp 30) (.tmp 26) rfl g4 18 (cellsB mac) _ _ rfl rfl _ HB8.out HMc.out (pktC_fits HP8.out).2.1 (pktC_smac HP8.out mac HMl.out) (cellsB_one _) ?_); intro w9 hB9 hF9; have HB9 := hide hB9; clear hB9))
    have hF69 : Frm (fun k => k = g4) w6 w9 := (HF67.out.trans hF8 (fun _ _ h => h)).trans hF9 (fun _ _ h => h)
    have hr9 := hr6.frm hF69 (fun e => HG.out.2.1 e) (fun j hj e => (HD.out j hj).2.2.1 e)
    have hB29 := hB26.frm hF69 (fun e => HG.out.2.2.1 e)
    have HB09 : Hid (Below w.heap.size w w9) := below_frm HB6.out hF69 HB6.out.size (fun k hk => by have := HG.out; omega)
    clear hr6 hr5 hf6 hB25 hB45 hB26 hB46 hfz c0 c1 hF8 hF9 hF69 HB47 HB8 HF67 HB6 HB5
    refine (bytes_ok g d (b.drop 38) 320 w9 hr9 (by omega) (by rw [List.length_drop, HL.out]; omega) (by rw [List.length_drop, HL.out]; omega)).mono ?_
    rintro e w10 ⟨A10, c10, rfl, ho10, hr10, hf10⟩
    rw [List.drop_drop, show Int.toNat 320 = 320 from rfl] at hr10
    rw [show Int.toNat 320 = 320 from rfl] at ho10 ⊢
    rw [← Hhd.out] at ho10
    obtain ⟨ga, ca, rfl, hga, hba, hsa, hta, hca⟩ := own_block ho10 (by omega)
    have hB210 := hB29.frm hf10 (fun e => HG.out.1 e.symm)
    have hB410 := HB9.out.frm hf10 (fun e => HG.out.2.1 e.symm)
    have HB010 : Hid (Below w.heap.size w w10) := below_frm HB09.out hf10 HB09.out.size (fun k hk => by have := HG.out; omega)
    have HGA : Hid (ga ≠ g ∧ ga ≠ g2 ∧ ga ≠ g4) := by
      have h1 := hr9.lt; have h2 := hB29.lt; have h3 := HB9.out.lt
      exact ⟨by omega, by omega, by omega⟩
    have HTA : Hid ((ca.toList.drop 0).take 320 = cellsB hd) := by show _ = _; rw [List.drop_zero]; exact hta
    rw [← Array.toArray_toList (xs := ca)] at hba
    have hla : 320 ≤ ca.toList.length := by rw [Array.length_toList]; exact hsa
    clear hr9 hB29 hf10 ho10 hga hta hsa HB9 HB09
    go_wp2_with fail
    have hba11 : Blk w10.drew ga 5 ca.toList.toArray := hba
    have HR11 : Hid (Rd w10.drew g d (b.drop 358)) := hr10
    have HB211 : Hid (Blk w10.drew g2 50 (pktC pkt0).toArray) := hB210
    have HB411 : Hid (Blk w10.drew g4 50 (pktC ⟨who, epoch, nonce, mac, zeros 320, zeros 256⟩).toArray) := hB410
    have HB011 : Hid (Below w.heap.size w w10.drew) := HB010.out.drew
    clear hba hr10 hB210 hB410 HB010
    refine wp_region_held_drew (S := fun W => Blk W ga 5 ca.toList.toArray) (by kernel_rfl) hba11 ?_
    intro hHeld
    refine wpAnyH_take (i := 0) (v := ?v6) rfl (by kernel_rfl) (by kernel_rfl) (by kernel_rfl) (fun _ _ _ h => h) (Or.inl ⟨by rfl, ?hy6⟩) (by assumption) ?rest6
    case hy6 => (intro w hSw; (try go_simp); try with_reducible rfl)
    try simp only [Act.put, List.getElem_toArray, List.getElem_cons_zero, List.getElem_cons_succ, List.setIfInBounds_toArray, List.set_cons_zero, List.set_cons_succ]
    refine wpAnyH_take (i := 1) (v := ?v7) rfl (by kernel_rfl) (by kernel_rfl) (by kernel_rfl) (fun _ _ _ h => h) (Or.inl ⟨by rfl, ?hy7⟩) (by assumption) ?rest7
    case hy7 => (intro w hSw; (try go_simp); try with_reducible rfl)
    try simp only [Act.put, List.getElem_toArray, List.getElem_cons_zero, List.getElem_cons_succ, List.setIfInBounds_toArray, List.set_cons_zero, List.set_cons_succ]
    refine wpAnyH_take (i := 2) (v := ?v8) rfl (by kernel_rfl) (by kernel_rfl) (by kernel_rfl) (fun _ _ _ h => h) (Or.inl ⟨by rfl, ?hy8⟩) (by assumption) ?rest8
    case hy8 => (intro w hSw; refine held_loada agg320 (.tmp 37) ?_ ga 0 ?_ _ _ (cellsB hd) hSw HTA.out (by omega) <;> rfl)
    try simp only [Act.put, List.getElem_toArray, List.getElem_cons_zero, List.getElem_cons_succ, List.setIfInBounds_toArray, List.set_cons_zero, List.set_cons_succ]
    refine wpAnyH_take (i := 3) (v := ?v9) rfl (by kernel_rfl) (by kernel_rfl) (by kernel_rfl) (fun _ _ _ h => h) (Or.inl ⟨by rfl, ?hy9⟩) (by assumption) ?rest9
    case hy9 => (intro w hSw; (try go_simp); try with_reducible rfl)
    try simp only [Act.put, List.getElem_toArray, List.getElem_cons_zero, List.getElem_cons_succ, List.setIfInBounds_toArray, List.set_cons_zero, List.set_cons_succ]
    refine wpAnyH_take (i := 7) (v := ?v10) rfl (by kernel_rfl) (by kernel_rfl) (by kernel_rfl) (fun _ _ _ h => h) (Or.inl ⟨by rfl, ?hy10⟩) (by assumption) ?rest10
    case hy10 => (intro w hSw; (try go_simp); try with_reducible rfl)
    try simp only [Act.put, List.getElem_toArray, List.getElem_cons_zero, List.getElem_cons_succ, List.setIfInBounds_toArray, List.set_cons_zero, List.set_cons_succ]
    refine wpAnyH_ready (rs := [4]) (by kernel_rfl) (by simp) ?_
    refine AllReadyH.cons rfl (fun K hK => ?_) AllReadyH.nil
    go_simp
    refine (rest_any g d (b.drop 358) _ HR11.out (by rw [List.length_drop, HL.out]; omega)).mono ?_
    rintro e w12 ⟨A12, c12, rfl, ho12, hr12, hf12⟩
    rw [← Hbd.out, HBl.out] at ho12 ⊢
    obtain ⟨gb, cb, rfl, hgb, hbb, hsb, htb, hcb⟩ := own_block ho12 (by omega)
    have hba12 := hba11.frm hf12 HGA.out.1
    have HGB : Hid (gb ≠ g4) := by have := HB411.out.lt; show _ ≠ _; omega
    have HB212 : Hid (Blk w12 g2 50 (pktC pkt0).toArray) := HB211.out.frm hf12 (fun e => HG.out.1 e.symm)
    have HB412 : Hid (Blk w12 g4 50 (pktC ⟨who, epoch, nonce, mac, zeros 320, zeros 256⟩).toArray) := HB411.out.frm hf12 (fun e => HG.out.2.1 e.symm)
    have HB012 : Hid (Below w.heap.size w w12) := below_frm HB011.out hf12 HB011.out.size (fun k hk => by have := HG.out; omega)
    have HTB : Hid ((cb.toList.drop 0).take 256 = cellsB bd) := by show _ = _; rw [List.drop_zero]; exact htb
    rw [← Array.toArray_toList (xs := cb)] at hbb
    have hlb : 256 ≤ cb.toList.length := by rw [Array.length_toList]; exact hsb
    have HBB := hide hbb
    clear ho12 hgb htb hsb hf12 hr12 hbb
    refine hK.out _ _ (hba12) (fun hHeld => ?_)
    clear hK K
    refine wpAnyH_take (i := 5) (v := ?v11) rfl (by kernel_rfl) (by kernel_rfl) (by kernel_rfl) (fun _ _ _ h => h) (Or.inl ⟨by rfl, ?hy11⟩) (by assumption) ?rest11
    case hy11 => (intro w hSw; (try go_simp); try with_reducible rfl)
    try simp only [Act.put, List.getElem_toArray, List.getElem_cons_zero, List.getElem_cons_succ, List.setIfInBounds_toArray, List.set_cons_zero, List.set_cons_succ]
    refine wpAnyH_ready (rs := [6, 8]) (by kernel_rfl) (by simp) ?_
    refine AllReadyH.cons rfl (fun K hK => ?_) ?_
    · refine step_held (.agg (cellsB bd).toArray) (by refine held_loada agg256 (.tmp 41) ?_ gb 0 ?_ _ _ (cellsB bd) HBB.out HTB.out (by omega) <;> rfl) rfl ?_
      refine hK.out _ _ (hba12) (fun hHeld => ?_)
      clear hK K
      simp only [Act.put, List.setIfInBounds_toArray, List.set_cons_zero, List.set_cons_succ]
      refine wpAnyH_ready (rs := [8]) (by kernel_rfl) (by simp) ?_
      refine AllReadyH.cons rfl (fun K hK => ?_) AllReadyH.nil
      refine step_storem agg320 rfl (.tmp 43) (.tmp 38) rfl g4 34 (cellsB hd) _ _ rfl rfl _ HB412.out HHc.out (pktC_fits HP9.out).2.2.1 (pktC_shead HP9.out hd HHl.out) (cellsB_one _) ?_
      intro w13 hB13 hF13
      refine hK.out _ _ (hba12.frm hF13 HGA.out.2.2) (fun hHeld => ?_)
      clear hK K
      simp only [Act.put, List.setIfInBounds_toArray, List.set_cons_zero, List.set_cons_succ]
      have hba13 := hba12.frm hF13 HGA.out.2.2
      refine wpAnyH_take (i := 9) (v := ?v12) rfl (by kernel_rfl) (by kernel_rfl) (by kernel_rfl) (fun _ _ _ h => h) (Or.inl ⟨by rfl, ?hy12⟩) (by assumption) ?rest12
      case hy12 => (intro w hSw; (try go_simp); try with_reducible rfl)
      try simp only [Act.put, List.getElem_toArray, List.getElem_cons_zero, List.getElem_cons_succ, List.setIfInBounds_toArray, List.set_cons_zero, List.set_cons_succ]
      have HP10 : Hid ((⟨who, epoch, nonce, mac, hd, zeros 256⟩ : Pkt).ok) := ⟨H34.out.1, H34.out.2, HNl.out, HMl.out, HHl.out, zeros_length _⟩
      refine wpAnyH_ready (rs := [10]) (by kernel_rfl) (by simp) ?_
      refine AllReadyH.cons rfl (fun K hK => ?_) AllReadyH.nil
      refine step_storem agg256 rfl (.tmp 44) (.tmp 42) rfl g4 354 (cellsB bd) _ _ rfl rfl _ hB13 HBc.out (pktC_fits HP10.out).2.2.2 (pktC_sbody HP10.out bd HBl.out) (cellsB_one _) ?_
      intro w14 hB14 hF14
      refine hK.out _ _ (hba13.frm hF14 HGA.out.2.2) (fun hHeld => ?_)
      clear hK K
      refine wpAnyH_done (by kernel_rfl) ?_ _
      clear hHeld
      have hB414 : Blk w14 g4 50 (pktC U).toArray := by rw [HUD.out]; exact hB14
      have hF1214 : Frm (fun k => k = g4) w12 w14 := hF13.trans hF14 (fun _ _ h => h)
      have hB214 := HB212.out.frm hF1214 (fun e => HG.out.2.2.1 e)
      clear hB13 hB14 hba13 hba12 hba11
      go_wp2_with (first
        | (with_reducible refine wpl_loada (op := ⟨some 45, _, _, _, _, _⟩) aggP rfl _ rfl g4 0 rfl _ _ (pktC U) hB414 (by rw [List.drop_zero, List.take_of_length_le (by rw [HUL.out]; exact Nat.le_refl _)]) (by rw [HUL.out]; exact Nat.le_refl _) ?_)
        | ((with_reducible refine wpl_storea aggP rfl (.tmp 2) (.tmp 45) rfl g2 (pktC U) rfl rfl _ _ hB214 HUL.out pkt0_len HUO.out ?_); intro w15 hB15 hF15))
      refine bodyPost_ret (results_ct aggP rfl _ _ g2 _ _ rfl hB15 HUL.out) rfl ⟨rfl, ?_⟩
      have h1 := below_frm HB012.out hF1214 HB012.out.size (fun k hk => by have := HG.out; omega)
      exact below_frm h1 hF15 h1.size (fun k hk => by have := HG.out; omega)
    refine AllReadyH.cons rfl (fun K hK => ?_) AllReadyH.nil
    refine step_storem agg320 rfl (.tmp 43) (.tmp 38) rfl g4 34 (cellsB hd) _ _ rfl rfl _ HB412.out HHc.out (pktC_fits HP9.out).2.2.1 (pktC_shead HP9.out hd HHl.out) (cellsB_one _) ?_
    intro w13 hB13 hF13
    refine hK.out _ _ (hba12.frm hF13 HGA.out.2.2) (fun hHeld => ?_)
    clear hK K
    simp only [Act.put, List.setIfInBounds_toArray, List.set_cons_zero, List.set_cons_succ]
    have hba13 := hba12.frm hF13 HGA.out.2.2
    have HBB13 := hide (HBB.out.frm hF13 HGB.out)
    refine wpAnyH_ready (rs := [6]) (by kernel_rfl) (by simp) ?_
    refine AllReadyH.cons rfl (fun K hK => ?_) AllReadyH.nil
    refine step_held (.agg (cellsB bd).toArray) (by refine held_loada agg256 (.tmp 41) ?_ gb 0 ?_ _ _ (cellsB bd) HBB13.out HTB.out (by omega) <;> rfl) rfl ?_
    refine hK.out _ _ (hba13) (fun hHeld => ?_)
    clear hK K
    simp only [Act.put, List.setIfInBounds_toArray, List.set_cons_zero, List.set_cons_succ]
    refine wpAnyH_take (i := 9) (v := ?v13) rfl (by kernel_rfl) (by kernel_rfl) (by kernel_rfl) (fun _ _ _ h => h) (Or.inl ⟨by rfl, ?hy13⟩) (by assumption) ?rest13
    case hy13 => (intro w hSw; (try go_simp); try with_reducible rfl)
    try simp only [Act.put, List.getElem_toArray, List.getElem_cons_zero, List.getElem_cons_succ, List.setIfInBounds_toArray, List.set_cons_zero, List.set_cons_succ]
    have HP10 : Hid ((⟨who, epoch, nonce, mac, hd, zeros 256⟩ : Pkt).ok) := ⟨H34.out.1, H34.out.2, HNl.out, HMl.out, HHl.out, zeros_length _⟩
    refine wpAnyH_ready (rs := [10]) (by kernel_rfl) (by simp) ?_
    refine AllReadyH.cons rfl (fun K hK => ?_) AllReadyH.nil
    refine step_storem agg256 rfl (.tmp 44) (.tmp 42) rfl g4 354 (cellsB bd) _ _ rfl rfl _ hB13 HBc.out (pktC_fits HP10.out).2.2.2 (pktC_sbody HP10.out bd HBl.out) (cellsB_one _) ?_
    intro w14 hB14 hF14
    refine hK.out _ _ (hba13.frm hF14 HGA.out.2.2) (fun hHeld => ?_)
    clear hK K
    refine wpAnyH_done (by kernel_rfl) ?_ _
    clear hHeld
    have hB414 : Blk w14 g4 50 (pktC U).toArray := by rw [HUD.out]; exact hB14
    have hF1214 : Frm (fun k => k = g4) w12 w14 := hF13.trans hF14 (fun _ _ h => h)
    have hB214 := HB212.out.frm hF1214 (fun e => HG.out.2.2.1 e)
    clear hB13 hB14 hba13 hba12 hba11
    go_wp2_with (first
      | (with_reducible refine wpl_loada (op := ⟨some 45, _, _, _, _, _⟩) aggP rfl _ rfl g4 0 rfl _ _ (pktC U) hB414 (by rw [List.drop_zero, List.take_of_length_le (by rw [HUL.out]; exact Nat.le_refl _)]) (by rw [HUL.out]; exact Nat.le_refl _) ?_)
      | ((with_reducible refine wpl_storea aggP rfl (.tmp 2) (.tmp 45) rfl g2 (pktC U) rfl rfl _ _ hB214 HUL.out pkt0_len HUO.out ?_); intro w15 hB15 hF15))
    refine bodyPost_ret (results_ct aggP rfl _ _ g2 _ _ rfl hB15 HUL.out) rfl ⟨rfl, ?_⟩
    have h1 := below_frm HB012.out hF1214 HB012.out.size (fun k hk => by have := HG.out; omega)
    exact below_frm h1 hF15 h1.size (fun k hk => by have := HG.out; omega)

  · have hu : U = pkt0 := by rw [HU.out, if_neg (by omega)]
    have he : E = 3 := by rw [HE.out, if_neg (by omega), if_pos h]
    subst hu he
    have h' : ¬ (n : Int) < 614 := by omega
    have h'' : (614 : Int) < (n : Int) := by omega
    clear HU HE HUD V
    have hbd := build_pkt0
    go_enter Try.func20, Try.ntmps20
    go_wp2_with (first
      | ((with_reducible refine wpl_alloca (op := ⟨some 2, _, _, _, _, _⟩) rfl _ rfl _ zeroP ?_); intro g2 w2 hB2 hg2 hF2)
      | (refine wpl_held (op := ⟨some 17, _, _, _, _, _⟩) (.agg (pktC pkt0).toArray) (held_build _ _ rfl _ _ (hbd _) rfl) rfl ?_)
      | ((with_reducible refine wpl_storea aggP rfl (.tmp 2) (.tmp 17) rfl g2 (pktC pkt0) rfl rfl _ _ hB2 HUL.out pkt0_len HUO.out ?_); intro w3 hB3 hF3))
    refine bodyPost_ret (results_ct aggP rfl _ _ g2 _ _ rfl hB3 HUL.out) rfl ⟨rfl, ?_⟩
    exact below_frm (hF2.below (Nat.le_refl _) (fun _ h => h.elim)) hF3 hF2.size (fun k hk => by omega)
end Go.Proofs.Ytedodbejbkdplaa
