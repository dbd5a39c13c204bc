/-
  The document's bytes of a slot and of a packet.
-/
import Derived.Test.YtedodbejbkdplaaSr1
namespace Go.Proofs.Ytedodbejbkdplaa
set_option linter.unusedVariables false
set_option linter.unusedSimpArgs false
open Go.RowKit

theorem Z3_length : (List.replicate 3 (0 : UInt8)).length = 3 := rfl
theorem held_cat {o : Oper} {a : Act} {w : World} (t u : TypeId) (x y : Operand) (ho : o.op = .binOp .add t x y u) (l m : List UInt8) (hx : a.eval x = .string ⟨l.toArray⟩) (hy : a.eval y = .string ⟨m.toArray⟩) (hs : l.length + m.length ≤ 100000) :
    (execOp a.eval o).run Try.prog w = .ok (.value (.string ⟨(l ++ m).toArray⟩)) w := by
  have h1 : (⟨l.toArray⟩ : ByteArray).size = l.length := txt_size l
  have h2 : (⟨m.toArray⟩ : ByteArray).size = m.length := txt_size m
  have h3 : ¬ (((⟨l.toArray⟩ : ByteArray).size + (⟨m.toArray⟩ : ByteArray).size : Nat) : Int) > IntKind.i64.max := by
    rw [h1, h2, show IntKind.i64.max = 9223372036854775807 from rfl]
    omega
  unfold execOp
  simp only [ho, hx, hy, Sem.run_bind]
  rw [binOp_string_add]
  simp only [eqGuard, Op.stringOp]
  rw [if_neg h3, txt_append]
  rfl
theorem held_convm {o : Oper} {a : Act} {w : World} (x : Operand) (ho : o.op = .convert 40 9 x) (g off n c : Nat) (hx : a.eval x = .slice (some ⟨g, off, none⟩) n c) (l : List UInt8) (hr : Rds w (some ⟨g, off, none⟩) n (cellsB l)) :
    (execOp a.eval o).run Try.prog w = .ok (.value (.string ⟨l.toArray⟩)) w := held_convR x ho (some ⟨g, off, none⟩) n c hx l hr

set_option maxHeartbeats 8000000 in
set_option maxRecDepth 100000 in
theorem writeref_any (s : Slot) (hs : s.ok) (w : World) : Calls Try.prog 16 #[.agg (slotC s).toArray] w fun e w' => e = .returned (.string ⟨(encM s).toArray⟩) ∧ Below w.heap.size w w' := by
  have HENC : Hid (encM s = be 1 (if s.last = true then 1 else 0) ++ be 2 (if s.last = true then s.box else s.next) ++ be 8 s.lo ++ be 8 s.hi ++ be 4 s.delay ++ be 2 s.who ++ be 4 s.epoch ++ s.nonce ++ s.mac ++ List.replicate 3 0) := rfl
  have HTN := hide (slotC_nonce hs.nonce)
  have HTM := hide (slotC_mac hs.nonce hs.mac)
  have HS := hide hs
  have hsn := slN
  have hsm := slM
  obtain ⟨last, next, box, who, epoch, nonce, mac, lo, hi, delay⟩ := s
  have b1 := hs.next
  have b2 := hs.box
  have b3 := hs.who
  have b4 := hs.epoch
  have b5 := hs.lo
  have b6 := hs.hi
  have b7 := hs.delay
  have HNL := hide hs.nonce
  have HML := hide hs.mac
  simp only at b1 b2 b3 b4 b5 b6 b7 HNL HML HENC HTN HTM
  generalize hC : slotC ⟨last, next, box, who, epoch, nonce, mac, lo, hi, delay⟩ = C at *
  generalize encM ⟨last, next, box, who, epoch, nonce, mac, lo, hi, delay⟩ = ENC at *
  have HCELLS : Hid (∀ (W : World) (g : Nat), Blk W g 32 C.toArray → W.cell? ⟨g, 0, none⟩ = some (.bool last) ∧ W.cell? ⟨g, 1, none⟩ = some (.int .u16 (next : Int)) ∧ W.cell? ⟨g, 2, none⟩ = some (.int .u16 (box : Int)) ∧ W.cell? ⟨g, 3, none⟩ = some (.int .u16 (who : Int)) ∧ W.cell? ⟨g, 4, none⟩ = some (.int .u32 (epoch : Int)) ∧
    W.cell? ⟨g, 37, none⟩ = some (.int .u64 (lo : Int)) ∧ W.cell? ⟨g, 38, none⟩ = some (.int .u64 (hi : Int)) ∧ W.cell? ⟨g, 39, none⟩ = some (.int .u32 (delay : Int))) := by
    intro W g h
    rw [← hC] at h
    exact h.slot HS.out
  clear hC hs
  have w1n : IntKind.u64.wrap (next : Int) = (next : Int) := by rw [IntKind.wrap_u64]; omega
  have w2n : IntKind.u64.wrap (box : Int) = (box : Int) := by rw [IntKind.wrap_u64]; omega
  have w3n : IntKind.u64.wrap (who : Int) = (who : Int) := by rw [IntKind.wrap_u64]; omega
  have w4n : IntKind.u64.wrap (epoch : Int) = (epoch : Int) := by rw [IntKind.wrap_u64]; omega
  have w7n : IntKind.u64.wrap (delay : Int) = (delay : Int) := by rw [IntKind.wrap_u64]; omega
  go_enter Try.func16, Try.ntmps16
  go_wp2_with ((with_reducible refine wpl_boxa (op := ⟨some 1, _, _, _, _, _⟩) rfl _ _ rfl C rfl ?_); intro g1 w1 hB1 hg1 hF1)
  obtain ⟨N, hN⟩ : ∃ N, N = w1.heap.size := ⟨_, rfl⟩
  have HB : Hid (∀ W', Below N w1 W' → Blk W' g1 32 C.toArray) := fun W' h => hB1.frm (Frm.of_below (S := fun _ => False) (hN ▸ h)) (fun h => h)
  have HT : ∀ (n s : Nat), s ≤ 8 → n < 18446744073709551616 → ∀ W', Below N w1 W' → Calls Try.prog 38 #[.int .u64 (n : Int), .int .i64 (s : Int)] W' (fun e w'' => e = .returned (.string ⟨(be s n).toArray⟩) ∧ Below N w1 w'') :=
    fun n s h1 h2 W' h => (text_any n s W' h1 h2).mono (fun e w'' ⟨he, hb⟩ => ⟨he, h.trans (hb.mono (by rw [hN]; exact h.size))⟩)
  have HZ : ∀ W', Below N w1 W' → Calls Try.prog 29 #[.int .i64 3] W' (fun e w'' => e = .returned (.string ⟨(List.replicate 3 (0 : UInt8)).toArray⟩) ∧ Below N w1 w'') :=
    fun W' h => (zerosref_any 3 W' (by omega) (by omega)).mono (fun e w'' ⟨he, hb⟩ => ⟨he, hb ▸ h⟩)
  have HT0 : ∀ W', Below N w1 W' → Calls Try.prog 38 #[.int .u64 0, .int .i64 1] W' (fun e w'' => e = .returned (.string ⟨(be 1 0).toArray⟩) ∧ Below N w1 w'') := HT 0 1 (by omega) (by omega)
  have HT1 : ∀ W', Below N w1 W' → Calls Try.prog 38 #[.int .u64 1, .int .i64 1] W' (fun e w'' => e = .returned (.string ⟨(be 1 1).toArray⟩) ∧ Below N w1 w'') := HT 1 1 (by omega) (by omega)
  have HTa : ∀ W', Below N w1 W' → Calls Try.prog 38 #[.int .u64 (next : Int), .int .i64 2] W' (fun e w'' => e = .returned (.string ⟨(be 2 next).toArray⟩) ∧ Below N w1 w'') := HT next 2 (by omega) (by omega)
  have HTb : ∀ W', Below N w1 W' → Calls Try.prog 38 #[.int .u64 (box : Int), .int .i64 2] W' (fun e w'' => e = .returned (.string ⟨(be 2 box).toArray⟩) ∧ Below N w1 w'') := HT box 2 (by omega) (by omega)
  have HTc : ∀ W', Below N w1 W' → Calls Try.prog 38 #[.int .u64 (lo : Int), .int .i64 8] W' (fun e w'' => e = .returned (.string ⟨(be 8 lo).toArray⟩) ∧ Below N w1 w'') := HT lo 8 (by omega) (by omega)
  have HTd : ∀ W', Below N w1 W' → Calls Try.prog 38 #[.int .u64 (hi : Int), .int .i64 8] W' (fun e w'' => e = .returned (.string ⟨(be 8 hi).toArray⟩) ∧ Below N w1 w'') := HT hi 8 (by omega) (by omega)
  have HTe : ∀ W', Below N w1 W' → Calls Try.prog 38 #[.int .u64 (delay : Int), .int .i64 4] W' (fun e w'' => e = .returned (.string ⟨(be 4 delay).toArray⟩) ∧ Below N w1 w'') := HT delay 4 (by omega) (by omega)
  have HTf : ∀ W', Below N w1 W' → Calls Try.prog 38 #[.int .u64 (who : Int), .int .i64 2] W' (fun e w'' => e = .returned (.string ⟨(be 2 who).toArray⟩) ∧ Below N w1 w'') := HT who 2 (by omega) (by omega)
  have HTg : ∀ W', Below N w1 W' → Calls Try.prog 38 #[.int .u64 (epoch : Int), .int .i64 4] W' (fun e w'' => e = .returned (.string ⟨(be 4 epoch).toArray⟩) ∧ Below N w1 w'') := HT epoch 4 (by omega) (by omega)
  have k1 : ∀ W', Below N w1 W' → W'.cell? ⟨g1, 1, none⟩ = some (.int .u16 (next : Int)) := fun W' h => (HCELLS.out W' g1 (HB.out W' h)).2.1
  have k2 : ∀ W', Below N w1 W' → W'.cell? ⟨g1, 2, none⟩ = some (.int .u16 (box : Int)) := fun W' h => (HCELLS.out W' g1 (HB.out W' h)).2.2.1
  have k3 : ∀ W', Below N w1 W' → W'.cell? ⟨g1, 3, none⟩ = some (.int .u16 (who : Int)) := fun W' h => (HCELLS.out W' g1 (HB.out W' h)).2.2.2.1
  have k4 : ∀ W', Below N w1 W' → W'.cell? ⟨g1, 4, none⟩ = some (.int .u32 (epoch : Int)) := fun W' h => (HCELLS.out W' g1 (HB.out W' h)).2.2.2.2.1
  have k5 : ∀ W', Below N w1 W' → W'.cell? ⟨g1, 37, none⟩ = some (.int .u64 (lo : Int)) := fun W' h => (HCELLS.out W' g1 (HB.out W' h)).2.2.2.2.2.1
  have k6 : ∀ W', Below N w1 W' → W'.cell? ⟨g1, 38, none⟩ = some (.int .u64 (hi : Int)) := fun W' h => (HCELLS.out W' g1 (HB.out W' h)).2.2.2.2.2.2.1
  have k7 : ∀ W', Below N w1 W' → W'.cell? ⟨g1, 39, none⟩ = some (.int .u32 (delay : Int)) := fun W' h => (HCELLS.out W' g1 (HB.out W' h)).2.2.2.2.2.2.2
  have HBL0 : Hid (∀ W', Below N w1 W' → Below w.heap.size w W') := fun W' h => (hF1.below (Nat.le_refl _) (fun _ h => h.elim)).trans (h.mono (by rw [hN]; exact hF1.size))
  have h1 : Below N w1 w1 := hN ▸ Below.refl _ _
  clear HT hF1 hg1 hB1 hN
  refine wp_region_class (fun W' => Below N w1 W') (by kernel_rfl) (by kernel_rfl) (below_drewN h1 1) ?_
  with_reducible refine wpQuiet_step ?_
  intro K hK
  go_simp
  refine ⟨_, HT0, hK _ ?_⟩
  clear hK K
  with_reducible refine wpQuiet_step ?_
  intro K hK
  go_simp
  first | (refine hK _ ?_; clear hK K) | (refine ⟨_, fun w' hw' => rfl, hK _ ?_⟩; clear hK K)
  with_reducible refine wpQuiet_step ?_
  intro K hK
  go_simp
  refine ⟨.int .u16 next, fun w' hw' => ?_, hK _ ?_⟩
  · have hcell0 := k1 w' hw'
    go_simp
  clear hK K
  with_reducible refine wpQuiet_step ?_
  intro K hK
  go_simp
  first | (refine hK _ ?_; clear hK K) | (refine ⟨_, fun w' hw' => rfl, hK _ ?_⟩; clear hK K)
  with_reducible refine wpQuiet_step ?_
  intro K hK
  go_simp
  refine ⟨_, HTa, hK _ ?_⟩
  clear hK K
  with_reducible refine wpQuiet_step ?_
  intro K hK
  refine quiet_val (.string ⟨((be 1 0) ++ be 2 next).toArray⟩) (fun w' hw' => held_cat _ _ _ _ rfl (be 1 0) (be 2 next) rfl rfl (by (try simp only [List.length_append, be_length, List.length_replicate, Z3_length]); have := HNL.out; have := HML.out; omega)) ?_ rfl
  go_simp
  refine hK _ ?_
  clear hK K
  with_reducible refine wpQuiet_step ?_
  intro K hK
  go_simp
  first | (refine hK _ ?_; clear hK K) | (refine ⟨_, fun w' hw' => rfl, hK _ ?_⟩; clear hK K)
  refine wpQuiet_nil ?_
  intro w2 hw2
  have c0 := (HCELLS.out w2 g1 (HB.out w2 hw2)).1
  clear h1
  cases last
  · have HE : Hid (ENC = be 1 0 ++ be 2 next ++ be 8 lo ++ be 8 hi ++ be 4 delay ++ be 2 who ++ be 4 epoch ++ nonce ++ mac ++ List.replicate 3 0) := HENC.out
    clear HENC
    go_wp2_with fail
    clear c0
    refine wp_region_class (fun W' => Below N w1 W') (by kernel_rfl) (by kernel_rfl) (below_drewN hw2 1) ?_
    with_reducible refine wpQuiet_step ?_
    intro K hK
    go_simp
    first | (refine hK _ ?_; clear hK K) | (refine ⟨_, fun w' hw' => rfl, hK _ ?_⟩; clear hK K)
    with_reducible refine wpQuiet_step ?_
    intro K hK
    go_simp
    first | (refine hK _ ?_; clear hK K) | (refine ⟨_, fun w' hw' => rfl, hK _ ?_⟩; clear hK K)
    with_reducible refine wpQuiet_step ?_
    intro K hK
    go_simp
    refine ⟨.int .u64 lo, fun w' hw' => ?_, hK _ ?_⟩
    · have hcell0 := k5 w' hw'
      go_simp
    clear hK K
    with_reducible refine wpQuiet_step ?_
    intro K hK
    go_simp
    refine ⟨_, HTc, hK _ ?_⟩
    clear hK K
    with_reducible refine wpQuiet_step ?_
    intro K hK
    refine quiet_val (.string ⟨((be 1 0 ++ (be 2 next)) ++ be 8 lo).toArray⟩) (fun w' hw' => held_cat _ _ _ _ rfl (be 1 0 ++ (be 2 next)) (be 8 lo) rfl rfl (by (try simp only [List.length_append, be_length, List.length_replicate, Z3_length]); have := HNL.out; have := HML.out; omega)) ?_ rfl
    go_simp
    refine hK _ ?_
    clear hK K
    with_reducible refine wpQuiet_step ?_
    intro K hK
    go_simp
    first | (refine hK _ ?_; clear hK K) | (refine ⟨_, fun w' hw' => rfl, hK _ ?_⟩; clear hK K)
    with_reducible refine wpQuiet_step ?_
    intro K hK
    go_simp
    refine ⟨.int .u64 hi, fun w' hw' => ?_, hK _ ?_⟩
    · have hcell0 := k6 w' hw'
      go_simp
    clear hK K
    with_reducible refine wpQuiet_step ?_
    intro K hK
    go_simp
    refine ⟨_, HTd, hK _ ?_⟩
    clear hK K
    with_reducible refine wpQuiet_step ?_
    intro K hK
    refine quiet_val (.string ⟨((be 1 0 ++ (be 2 next ++ (be 8 lo))) ++ be 8 hi).toArray⟩) (fun w' hw' => held_cat _ _ _ _ rfl (be 1 0 ++ (be 2 next ++ (be 8 lo))) (be 8 hi) rfl rfl (by (try simp only [List.length_append, be_length, List.length_replicate, Z3_length]); have := HNL.out; have := HML.out; omega)) ?_ rfl
    go_simp
    refine hK _ ?_
    clear hK K
    with_reducible refine wpQuiet_step ?_
    intro K hK
    go_simp
    first | (refine hK _ ?_; clear hK K) | (refine ⟨_, fun w' hw' => rfl, hK _ ?_⟩; clear hK K)
    with_reducible refine wpQuiet_step ?_
    intro K hK
    go_simp
    refine ⟨.int .u32 delay, fun w' hw' => ?_, hK _ ?_⟩
    · have hcell0 := k7 w' hw'
      go_simp
    clear hK K
    with_reducible refine wpQuiet_step ?_
    intro K hK
    go_simp
    first | (refine hK _ ?_; clear hK K) | (refine ⟨_, fun w' hw' => rfl, hK _ ?_⟩; clear hK K)
    with_reducible refine wpQuiet_step ?_
    intro K hK
    go_simp
    refine ⟨_, HTe, hK _ ?_⟩
    clear hK K
    with_reducible refine wpQuiet_step ?_
    intro K hK
    refine quiet_val (.string ⟨((be 1 0 ++ (be 2 next ++ (be 8 lo ++ (be 8 hi)))) ++ be 4 delay).toArray⟩) (fun w' hw' => held_cat _ _ _ _ rfl (be 1 0 ++ (be 2 next ++ (be 8 lo ++ (be 8 hi)))) (be 4 delay) rfl rfl (by (try simp only [List.length_append, be_length, List.length_replicate, Z3_length]); have := HNL.out; have := HML.out; omega)) ?_ rfl
    go_simp
    refine hK _ ?_
    clear hK K
    with_reducible refine wpQuiet_step ?_
    intro K hK
    go_simp
    first | (refine hK _ ?_; clear hK K) | (refine ⟨_, fun w' hw' => rfl, hK _ ?_⟩; clear hK K)
    refine wpQuiet_nil ?_
    clear hw2 w2
    intro w2 hw2
    go_wp2_with fail
    refine wp_region_class (fun W' => Below N w1 W') (by kernel_rfl) (by kernel_rfl) (below_drewN hw2 1) ?_
    with_reducible refine wpQuiet_step ?_
    intro K hK
    go_simp
    first | (refine hK _ ?_; clear hK K) | (refine ⟨_, fun w' hw' => rfl, hK _ ?_⟩; clear hK K)
    with_reducible refine wpQuiet_step ?_
    intro K hK
    go_simp
    first | (refine hK _ ?_; clear hK K) | (refine ⟨_, fun w' hw' => rfl, hK _ ?_⟩; clear hK K)
    with_reducible refine wpQuiet_step ?_
    intro K hK
    go_simp
    refine ⟨.int .u16 who, fun w' hw' => ?_, hK _ ?_⟩
    · have hcell0 := k3 w' hw'
      go_simp
    clear hK K
    with_reducible refine wpQuiet_step ?_
    intro K hK
    go_simp
    first | (refine hK _ ?_; clear hK K) | (refine ⟨_, fun w' hw' => rfl, hK _ ?_⟩; clear hK K)
    with_reducible refine wpQuiet_step ?_
    intro K hK
    go_simp
    refine ⟨_, HTf, hK _ ?_⟩
    clear hK K
    with_reducible refine wpQuiet_step ?_
    intro K hK
    refine quiet_val (.string ⟨((be 1 0 ++ (be 2 next ++ (be 8 lo ++ (be 8 hi ++ (be 4 delay))))) ++ be 2 who).toArray⟩) (fun w' hw' => held_cat _ _ _ _ rfl (be 1 0 ++ (be 2 next ++ (be 8 lo ++ (be 8 hi ++ (be 4 delay))))) (be 2 who) rfl rfl (by (try simp only [List.length_append, be_length, List.length_replicate, Z3_length]); have := HNL.out; have := HML.out; omega)) ?_ rfl
    go_simp
    refine hK _ ?_
    clear hK K
    with_reducible refine wpQuiet_step ?_
    intro K hK
    go_simp
    first | (refine hK _ ?_; clear hK K) | (refine ⟨_, fun w' hw' => rfl, hK _ ?_⟩; clear hK K)
    with_reducible refine wpQuiet_step ?_
    intro K hK
    go_simp
    refine ⟨.int .u32 epoch, fun w' hw' => ?_, hK _ ?_⟩
    · have hcell0 := k4 w' hw'
      go_simp
    clear hK K
    with_reducible refine wpQuiet_step ?_
    intro K hK
    go_simp
    first | (refine hK _ ?_; clear hK K) | (refine ⟨_, fun w' hw' => rfl, hK _ ?_⟩; clear hK K)
    with_reducible refine wpQuiet_step ?_
    intro K hK
    go_simp
    refine ⟨_, HTg, hK _ ?_⟩
    clear hK K
    with_reducible refine wpQuiet_step ?_
    intro K hK
    refine quiet_val (.string ⟨((be 1 0 ++ (be 2 next ++ (be 8 lo ++ (be 8 hi ++ (be 4 delay ++ (be 2 who)))))) ++ be 4 epoch).toArray⟩) (fun w' hw' => held_cat _ _ _ _ rfl (be 1 0 ++ (be 2 next ++ (be 8 lo ++ (be 8 hi ++ (be 4 delay ++ (be 2 who)))))) (be 4 epoch) rfl rfl (by (try simp only [List.length_append, be_length, List.length_replicate, Z3_length]); have := HNL.out; have := HML.out; omega)) ?_ rfl
    go_simp
    refine hK _ ?_
    clear hK K
    with_reducible refine wpQuiet_step ?_
    intro K hK
    go_simp
    first | (refine hK _ ?_; clear hK K) | (refine ⟨_, fun w' hw' => rfl, hK _ ?_⟩; clear hK K)
    with_reducible refine wpQuiet_step ?_
    intro K hK
    go_simp
    first | (refine hK _ ?_; clear hK K) | (refine ⟨_, fun w' hw' => rfl, hK _ ?_⟩; clear hK K)
    with_reducible refine wpQuiet_step ?_
    intro K hK
    refine quiet_val (.string ⟨(nonce).toArray⟩) (fun w' hw' => held_convm _ rfl g1 5 16 16 rfl (nonce) ((HB.out w' hw').mid 5 16 (nonce) HTN.out HNL.out)) ?_ rfl
    go_simp
    refine hK _ ?_
    clear hK K
    with_reducible refine wpQuiet_step ?_
    intro K hK
    refine quiet_val (.string ⟨((be 1 0 ++ (be 2 next ++ (be 8 lo ++ (be 8 hi ++ (be 4 delay ++ (be 2 who ++ (be 4 epoch))))))) ++ nonce).toArray⟩) (fun w' hw' => held_cat _ _ _ _ rfl (be 1 0 ++ (be 2 next ++ (be 8 lo ++ (be 8 hi ++ (be 4 delay ++ (be 2 who ++ (be 4 epoch))))))) (nonce) rfl rfl (by (try simp only [List.length_append, be_length, List.length_replicate, Z3_length]); have := HNL.out; have := HML.out; omega)) ?_ rfl
    go_simp
    refine hK _ ?_
    clear hK K
    with_reducible refine wpQuiet_step ?_
    intro K hK
    go_simp
    first | (refine hK _ ?_; clear hK K) | (refine ⟨_, fun w' hw' => rfl, hK _ ?_⟩; clear hK K)
    with_reducible refine wpQuiet_step ?_
    intro K hK
    go_simp
    first | (refine hK _ ?_; clear hK K) | (refine ⟨_, fun w' hw' => rfl, hK _ ?_⟩; clear hK K)
    with_reducible refine wpQuiet_step ?_
    intro K hK
    refine quiet_val (.string ⟨(mac).toArray⟩) (fun w' hw' => held_convm _ rfl g1 21 16 16 rfl (mac) ((HB.out w' hw').mid 21 16 (mac) HTM.out HML.out)) ?_ rfl
    go_simp
    refine hK _ ?_
    clear hK K
    with_reducible refine wpQuiet_step ?_
    intro K hK
    refine quiet_val (.string ⟨((be 1 0 ++ (be 2 next ++ (be 8 lo ++ (be 8 hi ++ (be 4 delay ++ (be 2 who ++ (be 4 epoch ++ nonce))))))) ++ mac).toArray⟩) (fun w' hw' => held_cat _ _ _ _ rfl (be 1 0 ++ (be 2 next ++ (be 8 lo ++ (be 8 hi ++ (be 4 delay ++ (be 2 who ++ (be 4 epoch ++ nonce))))))) (mac) rfl rfl (by (try simp only [List.length_append, be_length, List.length_replicate, Z3_length]); have := HNL.out; have := HML.out; omega)) ?_ rfl
    go_simp
    refine hK _ ?_
    clear hK K
    with_reducible refine wpQuiet_step ?_
    intro K hK
    go_simp
    refine ⟨_, HZ, hK _ ?_⟩
    clear hK K
    with_reducible refine wpQuiet_step ?_
    intro K hK
    refine quiet_val (.string ⟨((be 1 0 ++ (be 2 next ++ (be 8 lo ++ (be 8 hi ++ (be 4 delay ++ (be 2 who ++ (be 4 epoch ++ (nonce ++ mac)))))))) ++ List.replicate 3 0).toArray⟩) (fun w' hw' => held_cat _ _ _ _ rfl (be 1 0 ++ (be 2 next ++ (be 8 lo ++ (be 8 hi ++ (be 4 delay ++ (be 2 who ++ (be 4 epoch ++ (nonce ++ mac)))))))) (List.replicate 3 0) rfl rfl (by (try simp only [List.length_append, be_length, List.length_replicate, Z3_length]); have := HNL.out; have := HML.out; omega)) ?_ rfl
    go_simp
    refine hK _ ?_
    clear hK K
    with_reducible refine wpQuiet_step ?_
    intro K hK
    go_simp
    first | (refine hK _ ?_; clear hK K) | (refine ⟨_, fun w' hw' => rfl, hK _ ?_⟩; clear hK K)
    refine wpQuiet_nil ?_
    clear hw2 w2
    intro w2 hw2
    go_wp2_with fail
    go_ret
    exact ⟨by rw [HE.out]; simp only [List.append_assoc]; rfl, HBL0.out w2 hw2⟩

  · have HE : Hid (ENC = be 1 1 ++ be 2 box ++ be 8 lo ++ be 8 hi ++ be 4 delay ++ be 2 who ++ be 4 epoch ++ nonce ++ mac ++ List.replicate 3 0) := HENC.out
    clear HENC
    go_wp2_with fail
    clear c0
    refine wp_region_class (fun W' => Below N w1 W') (by kernel_rfl) (by kernel_rfl) (below_drewN hw2 1) ?_
    with_reducible refine wpQuiet_step ?_
    intro K hK
    go_simp
    refine ⟨_, HT1, hK _ ?_⟩
    clear hK K
    with_reducible refine wpQuiet_step ?_
    intro K hK
    go_simp
    first | (refine hK _ ?_; clear hK K) | (refine ⟨_, fun w' hw' => rfl, hK _ ?_⟩; clear hK K)
    with_reducible refine wpQuiet_step ?_
    intro K hK
    go_simp
    refine ⟨.int .u16 box, fun w' hw' => ?_, hK _ ?_⟩
    · have hcell0 := k2 w' hw'
      go_simp
    clear hK K
    with_reducible refine wpQuiet_step ?_
    intro K hK
    go_simp
    first | (refine hK _ ?_; clear hK K) | (refine ⟨_, fun w' hw' => rfl, hK _ ?_⟩; clear hK K)
    with_reducible refine wpQuiet_step ?_
    intro K hK
    go_simp
    refine ⟨_, HTb, hK _ ?_⟩
    clear hK K
    with_reducible refine wpQuiet_step ?_
    intro K hK
    refine quiet_val (.string ⟨((be 1 1) ++ be 2 box).toArray⟩) (fun w' hw' => held_cat _ _ _ _ rfl (be 1 1) (be 2 box) rfl rfl (by (try simp only [List.length_append, be_length, List.length_replicate, Z3_length]); have := HNL.out; have := HML.out; omega)) ?_ rfl
    go_simp
    refine hK _ ?_
    clear hK K
    with_reducible refine wpQuiet_step ?_
    intro K hK
    go_simp
    first | (refine hK _ ?_; clear hK K) | (refine ⟨_, fun w' hw' => rfl, hK _ ?_⟩; clear hK K)
    refine wpQuiet_nil ?_
    clear hw2 w2
    intro w2 hw2
    go_wp2_with fail
    refine wp_region_class (fun W' => Below N w1 W') (by kernel_rfl) (by kernel_rfl) (below_drewN hw2 1) ?_
    with_reducible refine wpQuiet_step ?_
    intro K hK
    go_simp
    first | (refine hK _ ?_; clear hK K) | (refine ⟨_, fun w' hw' => rfl, hK _ ?_⟩; clear hK K)
    with_reducible refine wpQuiet_step ?_
    intro K hK
    go_simp
    first | (refine hK _ ?_; clear hK K) | (refine ⟨_, fun w' hw' => rfl, hK _ ?_⟩; clear hK K)
    with_reducible refine wpQuiet_step ?_
    intro K hK
    go_simp
    refine ⟨.int .u64 lo, fun w' hw' => ?_, hK _ ?_⟩
    · have hcell0 := k5 w' hw'
      go_simp
    clear hK K
    with_reducible refine wpQuiet_step ?_
    intro K hK
    go_simp
    refine ⟨_, HTc, hK _ ?_⟩
    clear hK K
    with_reducible refine wpQuiet_step ?_
    intro K hK
    refine quiet_val (.string ⟨((be 1 1 ++ (be 2 box)) ++ be 8 lo).toArray⟩) (fun w' hw' => held_cat _ _ _ _ rfl (be 1 1 ++ (be 2 box)) (be 8 lo) rfl rfl (by (try simp only [List.length_append, be_length, List.length_replicate, Z3_length]); have := HNL.out; have := HML.out; omega)) ?_ rfl
    go_simp
    refine hK _ ?_
    clear hK K
    with_reducible refine wpQuiet_step ?_
    intro K hK
    go_simp
    first | (refine hK _ ?_; clear hK K) | (refine ⟨_, fun w' hw' => rfl, hK _ ?_⟩; clear hK K)
    with_reducible refine wpQuiet_step ?_
    intro K hK
    go_simp
    refine ⟨.int .u64 hi, fun w' hw' => ?_, hK _ ?_⟩
    · have hcell0 := k6 w' hw'
      go_simp
    clear hK K
    with_reducible refine wpQuiet_step ?_
    intro K hK
    go_simp
    refine ⟨_, HTd, hK _ ?_⟩
    clear hK K
    with_reducible refine wpQuiet_step ?_
    intro K hK
    refine quiet_val (.string ⟨((be 1 1 ++ (be 2 box ++ (be 8 lo))) ++ be 8 hi).toArray⟩) (fun w' hw' => held_cat _ _ _ _ rfl (be 1 1 ++ (be 2 box ++ (be 8 lo))) (be 8 hi) rfl rfl (by (try simp only [List.length_append, be_length, List.length_replicate, Z3_length]); have := HNL.out; have := HML.out; omega)) ?_ rfl
    go_simp
    refine hK _ ?_
    clear hK K
    with_reducible refine wpQuiet_step ?_
    intro K hK
    go_simp
    first | (refine hK _ ?_; clear hK K) | (refine ⟨_, fun w' hw' => rfl, hK _ ?_⟩; clear hK K)
    with_reducible refine wpQuiet_step ?_
    intro K hK
    go_simp
    refine ⟨.int .u32 delay, fun w' hw' => ?_, hK _ ?_⟩
    · have hcell0 := k7 w' hw'
      go_simp
    clear hK K
    with_reducible refine wpQuiet_step ?_
    intro K hK
    go_simp
    first | (refine hK _ ?_; clear hK K) | (refine ⟨_, fun w' hw' => rfl, hK _ ?_⟩; clear hK K)
    with_reducible refine wpQuiet_step ?_
    intro K hK
    go_simp
    refine ⟨_, HTe, hK _ ?_⟩
    clear hK K
    with_reducible refine wpQuiet_step ?_
    intro K hK
    refine quiet_val (.string ⟨((be 1 1 ++ (be 2 box ++ (be 8 lo ++ (be 8 hi)))) ++ be 4 delay).toArray⟩) (fun w' hw' => held_cat _ _ _ _ rfl (be 1 1 ++ (be 2 box ++ (be 8 lo ++ (be 8 hi)))) (be 4 delay) rfl rfl (by (try simp only [List.length_append, be_length, List.length_replicate, Z3_length]); have := HNL.out; have := HML.out; omega)) ?_ rfl
    go_simp
    refine hK _ ?_
    clear hK K
    with_reducible refine wpQuiet_step ?_
    intro K hK
    go_simp
    first | (refine hK _ ?_; clear hK K) | (refine ⟨_, fun w' hw' => rfl, hK _ ?_⟩; clear hK K)
    refine wpQuiet_nil ?_
    clear hw2 w2
    intro w2 hw2
    go_wp2_with fail
    refine wp_region_class (fun W' => Below N w1 W') (by kernel_rfl) (by kernel_rfl) (below_drewN hw2 1) ?_
    with_reducible refine wpQuiet_step ?_
    intro K hK
    go_simp
    first | (refine hK _ ?_; clear hK K) | (refine ⟨_, fun w' hw' => rfl, hK _ ?_⟩; clear hK K)
    with_reducible refine wpQuiet_step ?_
    intro K hK
    go_simp
    first | (refine hK _ ?_; clear hK K) | (refine ⟨_, fun w' hw' => rfl, hK _ ?_⟩; clear hK K)
    with_reducible refine wpQuiet_step ?_
    intro K hK
    go_simp
    refine ⟨.int .u16 who, fun w' hw' => ?_, hK _ ?_⟩
    · have hcell0 := k3 w' hw'
      go_simp
    clear hK K
    with_reducible refine wpQuiet_step ?_
    intro K hK
    go_simp
    first | (refine hK _ ?_; clear hK K) | (refine ⟨_, fun w' hw' => rfl, hK _ ?_⟩; clear hK K)
    with_reducible refine wpQuiet_step ?_
    intro K hK
    go_simp
    refine ⟨_, HTf, hK _ ?_⟩
    clear hK K
    with_reducible refine wpQuiet_step ?_
    intro K hK
    refine quiet_val (.string ⟨((be 1 1 ++ (be 2 box ++ (be 8 lo ++ (be 8 hi ++ (be 4 delay))))) ++ be 2 who).toArray⟩) (fun w' hw' => held_cat _ _ _ _ rfl (be 1 1 ++ (be 2 box ++ (be 8 lo ++ (be 8 hi ++ (be 4 delay))))) (be 2 who) rfl rfl (by (try simp only [List.length_append, be_length, List.length_replicate, Z3_length]); have := HNL.out; have := HML.out; omega)) ?_ rfl
    go_simp
    refine hK _ ?_
    clear hK K
    with_reducible refine wpQuiet_step ?_
    intro K hK
    go_simp
    first | (refine hK _ ?_; clear hK K) | (refine ⟨_, fun w' hw' => rfl, hK _ ?_⟩; clear hK K)
    with_reducible refine wpQuiet_step ?_
    intro K hK
    go_simp
    refine ⟨.int .u32 epoch, fun w' hw' => ?_, hK _ ?_⟩
    · have hcell0 := k4 w' hw'
      go_simp
    clear hK K
    with_reducible refine wpQuiet_step ?_
    intro K hK
    go_simp
    first | (refine hK _ ?_; clear hK K) | (refine ⟨_, fun w' hw' => rfl, hK _ ?_⟩; clear hK K)
    with_reducible refine wpQuiet_step ?_
    intro K hK
    go_simp
    refine ⟨_, HTg, hK _ ?_⟩
    clear hK K
    with_reducible refine wpQuiet_step ?_
    intro K hK
    refine quiet_val (.string ⟨((be 1 1 ++ (be 2 box ++ (be 8 lo ++ (be 8 hi ++ (be 4 delay ++ (be 2 who)))))) ++ be 4 epoch).toArray⟩) (fun w' hw' => held_cat _ _ _ _ rfl (be 1 1 ++ (be 2 box ++ (be 8 lo ++ (be 8 hi ++ (be 4 delay ++ (be 2 who)))))) (be 4 epoch) rfl rfl (by (try simp only [List.length_append, be_length, List.length_replicate, Z3_length]); have := HNL.out; have := HML.out; omega)) ?_ rfl
    go_simp
    refine hK _ ?_
    clear hK K
    with_reducible refine wpQuiet_step ?_
    intro K hK
    go_simp
    first | (refine hK _ ?_; clear hK K) | (refine ⟨_, fun w' hw' => rfl, hK _ ?_⟩; clear hK K)
    with_reducible refine wpQuiet_step ?_
    intro K hK
    go_simp
    first | (refine hK _ ?_; clear hK K) | (refine ⟨_, fun w' hw' => rfl, hK _ ?_⟩; clear hK K)
    with_reducible refine wpQuiet_step ?_
    intro K hK
    refine quiet_val (.string ⟨(nonce).toArray⟩) (fun w' hw' => held_convm _ rfl g1 5 16 16 rfl (nonce) ((HB.out w' hw').mid 5 16 (nonce) HTN.out HNL.out)) ?_ rfl
    go_simp
    refine hK _ ?_
    clear hK K
    with_reducible refine wpQuiet_step ?_
    intro K hK
    refine quiet_val (.string ⟨((be 1 1 ++ (be 2 box ++ (be 8 lo ++ (be 8 hi ++ (be 4 delay ++ (be 2 who ++ (be 4 epoch))))))) ++ nonce).toArray⟩) (fun w' hw' => held_cat _ _ _ _ rfl (be 1 1 ++ (be 2 box ++ (be 8 lo ++ (be 8 hi ++ (be 4 delay ++ (be 2 who ++ (be 4 epoch))))))) (nonce) rfl rfl (by (try simp only [List.length_append, be_length, List.length_replicate, Z3_length]); have := HNL.out; have := HML.out; omega)) ?_ rfl
    go_simp
    refine hK _ ?_
    clear hK K
    with_reducible refine wpQuiet_step ?_
    intro K hK
    go_simp
    first | (refine hK _ ?_; clear hK K) | (refine ⟨_, fun w' hw' => rfl, hK _ ?_⟩; clear hK K)
    with_reducible refine wpQuiet_step ?_
    intro K hK
    go_simp
    first | (refine hK _ ?_; clear hK K) | (refine ⟨_, fun w' hw' => rfl, hK _ ?_⟩; clear hK K)
    with_reducible refine wpQuiet_step ?_
    intro K hK
    refine quiet_val (.string ⟨(mac).toArray⟩) (fun w' hw' => held_convm _ rfl g1 21 16 16 rfl (mac) ((HB.out w' hw').mid 21 16 (mac) HTM.out HML.out)) ?_ rfl
    go_simp
    refine hK _ ?_
    clear hK K
    with_reducible refine wpQuiet_step ?_
    intro K hK
    refine quiet_val (.string ⟨((be 1 1 ++ (be 2 box ++ (be 8 lo ++ (be 8 hi ++ (be 4 delay ++ (be 2 who ++ (be 4 epoch ++ nonce))))))) ++ mac).toArray⟩) (fun w' hw' => held_cat _ _ _ _ rfl (be 1 1 ++ (be 2 box ++ (be 8 lo ++ (be 8 hi ++ (be 4 delay ++ (be 2 who ++ (be 4 epoch ++ nonce))))))) (mac) rfl rfl (by (try simp only [List.length_append, be_length, List.length_replicate, Z3_length]); have := HNL.out; have := HML.out; omega)) ?_ rfl
    go_simp
    refine hK _ ?_
    clear hK K
    with_reducible refine wpQuiet_step ?_
    intro K hK
    go_simp
    refine ⟨_, HZ, hK _ ?_⟩
    clear hK K
    with_reducible refine wpQuiet_step ?_
    intro K hK
    refine quiet_val (.string ⟨((be 1 1 ++ (be 2 box ++ (be 8 lo ++ (be 8 hi ++ (be 4 delay ++ (be 2 who ++ (be 4 epoch ++ (nonce ++ mac)))))))) ++ List.replicate 3 0).toArray⟩) (fun w' hw' => held_cat _ _ _ _ rfl (be 1 1 ++ (be 2 box ++ (be 8 lo ++ (be 8 hi ++ (be 4 delay ++ (be 2 who ++ (be 4 epoch ++ (nonce ++ mac)))))))) (List.replicate 3 0) rfl rfl (by (try simp only [List.length_append, be_length, List.length_replicate, Z3_length]); have := HNL.out; have := HML.out; omega)) ?_ rfl
    go_simp
    refine hK _ ?_
    clear hK K
    with_reducible refine wpQuiet_step ?_
    intro K hK
    go_simp
    first | (refine hK _ ?_; clear hK K) | (refine ⟨_, fun w' hw' => rfl, hK _ ?_⟩; clear hK K)
    refine wpQuiet_nil ?_
    clear hw2 w2
    intro w2 hw2
    go_wp2_with fail
    go_ret
    exact ⟨by rw [HE.out]; simp only [List.append_assoc]; rfl, HBL0.out w2 hw2⟩


set_option maxHeartbeats 8000000 in
set_option maxRecDepth 100000 in
theorem packref_any (p : Pkt) (hp : p.ok) (w : World) : Calls Try.prog 21 #[.agg (pktC p).toArray] w fun e w' => e = .returned (.string ⟨(packM p).toArray⟩) ∧ Below w.heap.size w w' := by
  have HPK : Hid (packM p = be 2 p.who ++ be 4 p.epoch ++ p.nonce ++ p.mac ++ p.head ++ p.body) := rfl
  have HTN := hide (pktC_nonce hp)
  have HTM := hide (pktC_mac hp)
  have HTH := hide (pktC_head hp)
  have HTB := hide (pktC_body hp)
  have hsn := slN
  have hsm := slM
  have h320 := sl320
  have h256 := sl256
  obtain ⟨who, epoch, nonce, mac, head, body⟩ := p
  obtain ⟨b3, b4, b8, b9, b10, b11⟩ := hp
  simp only at b3 b4 b8 b9 b10 b11 HPK HTN HTM HTH HTB
  have HNL := hide b8
  have HML := hide b9
  have HHL := hide b10
  have HYL := hide b11
  generalize hC : pktC ⟨who, epoch, nonce, mac, head, body⟩ = C at *
  generalize packM ⟨who, epoch, nonce, mac, head, body⟩ = PK at *
  have HCELLS : Hid (∀ (W : World) (g : Nat), Blk W g 50 C.toArray → W.cell? ⟨g, 0, none⟩ = some (.int .u16 (who : Int)) ∧ W.cell? ⟨g, 1, none⟩ = some (.int .u32 (epoch : Int))) := by
    intro W g h
    rw [← hC] at h
    exact h.pkt
  clear hC b8 b9 b10 b11
  have w3n : IntKind.u64.wrap (who : Int) = (who : Int) := by rw [IntKind.wrap_u64]; omega
  have w4n : IntKind.u64.wrap (epoch : Int) = (epoch : Int) := by rw [IntKind.wrap_u64]; omega
  go_enter Try.func21, Try.ntmps21
  go_wp2_with ((with_reducible refine wpl_boxa (op := ⟨some 1, _, _, _, _, _⟩) rfl _ _ rfl C rfl ?_); intro g1 w1 hB1 hg1 hF1)
  obtain ⟨N, hN⟩ : ∃ N, N = w1.heap.size := ⟨_, rfl⟩
  have HB : Hid (∀ W', Below N w1 W' → Blk W' g1 50 C.toArray) := fun W' h => hB1.frm (Frm.of_below (S := fun _ => False) (hN ▸ h)) (fun h => h)
  have HT : ∀ (n s : Nat), s ≤ 8 → n < 18446744073709551616 → ∀ W', Below N w1 W' → Calls Try.prog 38 #[.int .u64 (n : Int), .int .i64 (s : Int)] W' (fun e w'' => e = .returned (.string ⟨(be s n).toArray⟩) ∧ Below N w1 w'') :=
    fun n s h1 h2 W' h => (text_any n s W' h1 h2).mono (fun e w'' ⟨he, hb⟩ => ⟨he, h.trans (hb.mono (by rw [hN]; exact h.size))⟩)
  have HTf : ∀ W', Below N w1 W' → Calls Try.prog 38 #[.int .u64 (who : Int), .int .i64 2] W' (fun e w'' => e = .returned (.string ⟨(be 2 who).toArray⟩) ∧ Below N w1 w'') := HT who 2 (by omega) (by omega)
  have HTg : ∀ W', Below N w1 W' → Calls Try.prog 38 #[.int .u64 (epoch : Int), .int .i64 4] W' (fun e w'' => e = .returned (.string ⟨(be 4 epoch).toArray⟩) ∧ Below N w1 w'') := HT epoch 4 (by omega) (by omega)
  have k0 : ∀ W', Below N w1 W' → W'.cell? ⟨g1, 0, none⟩ = some (.int .u16 (who : Int)) := fun W' h => (HCELLS.out W' g1 (HB.out W' h)).1
  have k1 : ∀ W', Below N w1 W' → W'.cell? ⟨g1, 1, none⟩ = some (.int .u32 (epoch : Int)) := fun W' h => (HCELLS.out W' g1 (HB.out W' h)).2
  have HBL0 : Hid (∀ W', Below N w1 W' → Below w.heap.size w W') := fun W' h => (hF1.below (Nat.le_refl _) (fun _ h => h.elim)).trans (h.mono (by rw [hN]; exact hF1.size))
  have h1 : Below N w1 w1 := hN ▸ Below.refl _ _
  clear HT hF1 hg1 hB1 hN
  refine wp_region_class (fun W' => Below N w1 W') (by kernel_rfl) (by kernel_rfl) (below_drewN h1 1) ?_
  with_reducible refine wpQuiet_step ?_
  intro K hK
  go_simp
  first | (refine hK _ ?_; clear hK K) | (refine ⟨_, fun w' hw' => rfl, hK _ ?_⟩; clear hK K)
  with_reducible refine wpQuiet_step ?_
  intro K hK
  go_simp
  refine ⟨.int .u16 who, fun w' hw' => ?_, hK _ ?_⟩
  · have hcell0 := k0 w' hw'
    go_simp
  clear hK K
  with_reducible refine wpQuiet_step ?_
  intro K hK
  go_simp
  first | (refine hK _ ?_; clear hK K) | (refine ⟨_, fun w' hw' => rfl, hK _ ?_⟩; clear hK K)
  with_reducible refine wpQuiet_step ?_
  intro K hK
  go_simp
  refine ⟨_, HTf, hK _ ?_⟩
  clear hK K
  with_reducible refine wpQuiet_step ?_
  intro K hK
  go_simp
  first | (refine hK _ ?_; clear hK K) | (refine ⟨_, fun w' hw' => rfl, hK _ ?_⟩; clear hK K)
  with_reducible refine wpQuiet_step ?_
  intro K hK
  go_simp
  refine ⟨.int .u32 epoch, fun w' hw' => ?_, hK _ ?_⟩
  · have hcell0 := k1 w' hw'
    go_simp
  clear hK K
  with_reducible refine wpQuiet_step ?_
  intro K hK
  go_simp
  first | (refine hK _ ?_; clear hK K) | (refine ⟨_, fun w' hw' => rfl, hK _ ?_⟩; clear hK K)
  with_reducible refine wpQuiet_step ?_
  intro K hK
  go_simp
  refine ⟨_, HTg, hK _ ?_⟩
  clear hK K
  with_reducible refine wpQuiet_step ?_
  intro K hK
  refine quiet_val (.string ⟨((be 2 who) ++ be 4 epoch).toArray⟩) (fun w' hw' => held_cat _ _ _ _ rfl (be 2 who) (be 4 epoch) rfl rfl (by (try simp only [List.length_append, be_length, List.length_replicate, Z3_length]); have := HNL.out; have := HML.out; have := HHL.out; have := HYL.out; omega)) ?_ rfl
  go_simp
  refine hK _ ?_
  clear hK K
  with_reducible refine wpQuiet_step ?_
  intro K hK
  go_simp
  first | (refine hK _ ?_; clear hK K) | (refine ⟨_, fun w' hw' => rfl, hK _ ?_⟩; clear hK K)
  with_reducible refine wpQuiet_step ?_
  intro K hK
  go_simp
  first | (refine hK _ ?_; clear hK K) | (refine ⟨_, fun w' hw' => rfl, hK _ ?_⟩; clear hK K)
  with_reducible refine wpQuiet_step ?_
  intro K hK
  refine quiet_val (.string ⟨(nonce).toArray⟩) (fun w' hw' => held_convm _ rfl g1 2 16 16 rfl (nonce) ((HB.out w' hw').mid 2 16 (nonce) HTN.out HNL.out)) ?_ rfl
  go_simp
  refine hK _ ?_
  clear hK K
  with_reducible refine wpQuiet_step ?_
  intro K hK
  refine quiet_val (.string ⟨((be 2 who ++ (be 4 epoch)) ++ nonce).toArray⟩) (fun w' hw' => held_cat _ _ _ _ rfl (be 2 who ++ (be 4 epoch)) (nonce) rfl rfl (by (try simp only [List.length_append, be_length, List.length_replicate, Z3_length]); have := HNL.out; have := HML.out; have := HHL.out; have := HYL.out; omega)) ?_ rfl
  go_simp
  refine hK _ ?_
  clear hK K
  with_reducible refine wpQuiet_step ?_
  intro K hK
  go_simp
  first | (refine hK _ ?_; clear hK K) | (refine ⟨_, fun w' hw' => rfl, hK _ ?_⟩; clear hK K)
  with_reducible refine wpQuiet_step ?_
  intro K hK
  go_simp
  first | (refine hK _ ?_; clear hK K) | (refine ⟨_, fun w' hw' => rfl, hK _ ?_⟩; clear hK K)
  with_reducible refine wpQuiet_step ?_
  intro K hK
  refine quiet_val (.string ⟨(mac).toArray⟩) (fun w' hw' => held_convm _ rfl g1 18 16 16 rfl (mac) ((HB.out w' hw').mid 18 16 (mac) HTM.out HML.out)) ?_ rfl
  go_simp
  refine hK _ ?_
  clear hK K
  with_reducible refine wpQuiet_step ?_
  intro K hK
  refine quiet_val (.string ⟨((be 2 who ++ (be 4 epoch ++ nonce)) ++ mac).toArray⟩) (fun w' hw' => held_cat _ _ _ _ rfl (be 2 who ++ (be 4 epoch ++ nonce)) (mac) rfl rfl (by (try simp only [List.length_append, be_length, List.length_replicate, Z3_length]); have := HNL.out; have := HML.out; have := HHL.out; have := HYL.out; omega)) ?_ rfl
  go_simp
  refine hK _ ?_
  clear hK K
  with_reducible refine wpQuiet_step ?_
  intro K hK
  go_simp
  first | (refine hK _ ?_; clear hK K) | (refine ⟨_, fun w' hw' => rfl, hK _ ?_⟩; clear hK K)
  with_reducible refine wpQuiet_step ?_
  intro K hK
  go_simp
  first | (refine hK _ ?_; clear hK K) | (refine ⟨_, fun w' hw' => rfl, hK _ ?_⟩; clear hK K)
  with_reducible refine wpQuiet_step ?_
  intro K hK
  refine quiet_val (.string ⟨(head).toArray⟩) (fun w' hw' => held_convm _ rfl g1 34 320 320 rfl (head) ((HB.out w' hw').mid 34 320 (head) HTH.out HHL.out)) ?_ rfl
  go_simp
  refine hK _ ?_
  clear hK K
  with_reducible refine wpQuiet_step ?_
  intro K hK
  refine quiet_val (.string ⟨((be 2 who ++ (be 4 epoch ++ (nonce ++ mac))) ++ head).toArray⟩) (fun w' hw' => held_cat _ _ _ _ rfl (be 2 who ++ (be 4 epoch ++ (nonce ++ mac))) (head) rfl rfl (by (try simp only [List.length_append, be_length, List.length_replicate, Z3_length]); have := HNL.out; have := HML.out; have := HHL.out; have := HYL.out; omega)) ?_ rfl
  go_simp
  refine hK _ ?_
  clear hK K
  with_reducible refine wpQuiet_step ?_
  intro K hK
  go_simp
  first | (refine hK _ ?_; clear hK K) | (refine ⟨_, fun w' hw' => rfl, hK _ ?_⟩; clear hK K)
  with_reducible refine wpQuiet_step ?_
  intro K hK
  go_simp
  first | (refine hK _ ?_; clear hK K) | (refine ⟨_, fun w' hw' => rfl, hK _ ?_⟩; clear hK K)
  with_reducible refine wpQuiet_step ?_
  intro K hK
  refine quiet_val (.string ⟨(body).toArray⟩) (fun w' hw' => held_convm _ rfl g1 354 256 256 rfl (body) ((HB.out w' hw').mid 354 256 (body) HTB.out HYL.out)) ?_ rfl
  go_simp
  refine hK _ ?_
  clear hK K
  with_reducible refine wpQuiet_step ?_
  intro K hK
  refine quiet_val (.string ⟨((be 2 who ++ (be 4 epoch ++ (nonce ++ (mac ++ head)))) ++ body).toArray⟩) (fun w' hw' => held_cat _ _ _ _ rfl (be 2 who ++ (be 4 epoch ++ (nonce ++ (mac ++ head)))) (body) rfl rfl (by (try simp only [List.length_append, be_length, List.length_replicate, Z3_length]); have := HNL.out; have := HML.out; have := HHL.out; have := HYL.out; omega)) ?_ rfl
  go_simp
  refine hK _ ?_
  clear hK K
  with_reducible refine wpQuiet_step ?_
  intro K hK
  go_simp
  first | (refine hK _ ?_; clear hK K) | (refine ⟨_, fun w' hw' => rfl, hK _ ?_⟩; clear hK K)
  refine wpQuiet_nil ?_
  intro w2 hw2
  go_wp2_with fail
  go_ret
  exact ⟨by rw [HPK.out]; simp only [List.append_assoc]; rfl, HBL0.out w2 hw2⟩
end Go.Proofs.Ytedodbejbkdplaa
