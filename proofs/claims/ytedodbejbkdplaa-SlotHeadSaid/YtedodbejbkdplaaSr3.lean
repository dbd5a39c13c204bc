/-
  The document's slot of bytes.
-/
import Derived.Test.YtedodbejbkdplaaSr2
namespace Go.Proofs.Ytedodbejbkdplaa
set_option linter.unusedVariables false
set_option linter.unusedSimpArgs false
open Go.RowKit

/-- Ways that meet: what is left is shown once. -/
theorem meet1 {R : World → Nat → Prop} {A : World → Nat → Prop} {G : Prop} (h1 : (∀ W g, A W g → R W g) → G) (h2 : ∀ W g, A W g → R W g) : G := h1 h2
theorem step_alloca {P : Program} {ops : Array Oper} {op : Oper} {a : Act} {w : World} {K : Act → World → Prop} {Q : Exit → Act → World → Prop} {E : Prop} (hgd : op.guard = none) (t : TypeId) (ho : op.op = .alloc t)
    (cs : List Value) (hz : (P.info? t).map (fun i => i.zero) = some (some (.agg cs.toArray)))
    (h : ∀ g w', Blk w' g t cs.toArray → w.heap.size ≤ g → Frm (fun _ => False) w w' → K (a.put op.dst (.pointer (some ⟨g, 0, none⟩))) w') : if Region.wanted op (yielded ops a.tmps) = true then Oper.wp P op a w K Q else E := by
  have hw : Region.wanted op (yielded ops a.tmps) = true := by simp [Region.wanted, hgd]
  rw [if_pos hw]
  have hzv : ∀ w, (zeroValue t).run P w = .ok (.agg cs.toArray) w := by
    intro w
    cases hq : P.info? t with
    | none => simp [hq] at hz
    | some i => simp [hq] at hz; simp [zeroValue, typeInfo, hq, hz]
  unfold Oper.wp execOp
  simp [ho, Instr.alloc, hzv, newVar, newRow, Value.cells, Oper.upon, Result.andThen]
  exact h _ _ (Blk.new _ _ _) (Nat.le_refl _) (Frm.alloc _ _ _)
set_option maxRecDepth 100000 in
theorem build_read (kb : Bool) (lo hi delay who epoch : Nat) (nonce mac : List UInt8) (hn : nonce.length = 16) (hm : mac.length = 16) (w : World) :
    Sem.run Try.prog (Instr.build 32 #[(0, .bool kb), (7, .int .u64 (lo : Int)), (8, .int .u64 (hi : Int)), (9, .int .u32 (delay : Int)), (3, .int .u16 (who : Int)), (4, .int .u32 (epoch : Int)), (5, .agg (cellsB nonce).toArray), (6, .agg (cellsB mac).toArray)]) w = .ok (.agg (slotC ⟨kb, 0, 0, who, epoch, nonce, mac, lo, hi, delay⟩).toArray) w := by
  match nonce, hn, mac, hm with
  | [a0, a1, a2, a3, a4, a5, a6, a7, a8, a9, a10, a11, a12, a13, a14, a15], _, [b0, b1, b2, b3, b4, b5, b6, b7, b8, b9, b10, b11, b12, b13, b14, b15], _ => exact run_build w _ _ _ (by kernel_rfl)
theorem num_one (b : List UInt8) (h : 0 < b.length) : num (b.take 1) = (b.getD 0 0).toNat := by
  match b, h with
  | x :: l, _ => simp [num]
theorem okB_iff {b : List UInt8} (hb : b.length = 64) : okB b = (decide (num (b.take 1) ≤ 1) && ((b.drop 61 == List.replicate 3 0) && rightB (decM b))) := by
  unfold okB
  cases hR : rightB (decM b)
  · simp
  · simp only [Bool.true_and, Bool.and_true]
    have hok := decM_ok b hb
    obtain ⟨e1, e2⟩ := enc_kind hok
    cases he : (encM (decM b) == b)
    · symm
      rw [Bool.eq_false_iff]
      intro h
      simp only [Bool.and_eq_true, decide_eq_true_eq, beq_iff_eq] at h
      have := enc_dec hb h.1 h.2
      rw [this] at he
      simp at he
    · have he' : encM (decM b) = b := by simpa using he
      rw [he'] at e1 e2
      symm
      simp only [Bool.and_eq_true, decide_eq_true_eq, beq_iff_eq]
      exact ⟨by rw [e1]; split <;> omega, e2⟩
/-- The store's world. -/
structure RefAt (w0 : World) (g2 g4 : Nat) (s : Slot) (W : World) : Prop where
  b2 : Blk W g2 32 (slotC slot0).toArray
  b4 : Blk W g4 32 (slotC s).toArray
  bel : Below w0.heap.size w0 W
  ne : g2 ≠ g4 ∧ w0.heap.size ≤ g2 ∧ w0.heap.size ≤ g4
theorem RefAt.frm {w0 w w' : World} {g2 g4 : Nat} {s : Slot} (h : RefAt w0 g2 g4 s w) (f : Frm (fun _ => False) w w') : RefAt w0 g2 g4 s w' :=
  ⟨h.b2.frm f (fun h => h), h.b4.frm f (fun h => h), below_frm h.bel f h.bel.size (fun _ h => h.elim), h.ne⟩

set_option maxHeartbeats 16000000 in
set_option maxRecDepth 100000 in
theorem readref_any (b : List UInt8) (hb : b.length = 64) (w : World) : Calls Try.prog 18 #[.string ⟨b.toArray⟩] w fun e w' => e = .returned (.tuple #[.agg (slotC (ansM b)).toArray, .int .i64 (errD b)]) ∧ Below w.heap.size w w' := by
  have hDok := decM_ok b hb
  have HD : Hid (decM b = ⟨decide (num (b.take 1) = 1), if num (b.take 1) = 1 then 0 else num ((b.drop 1).take 2), if num (b.take 1) = 1 then num ((b.drop 1).take 2) else 0, num ((b.drop 23).take 2), num ((b.drop 25).take 4), (b.drop 29).take 16, (b.drop 45).take 16, num ((b.drop 3).take 8), num ((b.drop 11).take 8), num ((b.drop 19).take 4)⟩) := rfl
  have HDL := hide (slotC_length _ hDok.nonce hDok.mac)
  have HDO := hide (slotC_one (decM b))
  have HAL := hide (slotC_length _ (ansM_ok hb).nonce (ansM_ok hb).mac)
  have HAO := hide (slotC_one (ansM b))
  have HRR := hide (rightref_any (decM b) hDok)
  have HOK := hide (okB_iff hb)
  have HA : Hid (ansM b = if okB b = true then decM b else slot0) := rfl
  have HE : Hid (errD b = if okB b = true then 0 else 3) := rfl
  have hsz : (⟨b.toArray⟩ : ByteArray).size = 64 := by rw [txt_size]; exact hb
  have cutl : ∀ i n, i + n ≤ 64 → ((b.drop i).take n).length = n := fun i n h => by rw [List.length_take, List.length_drop]; omega
  have x3 : (⟨b.toArray⟩ : ByteArray).extract 3 11 = ⟨((b.drop 3).take 8).toArray⟩ := extract_mk b 3 11
  have x11 : (⟨b.toArray⟩ : ByteArray).extract 11 19 = ⟨((b.drop 11).take 8).toArray⟩ := extract_mk b 11 19
  have x19 : (⟨b.toArray⟩ : ByteArray).extract 19 23 = ⟨((b.drop 19).take 4).toArray⟩ := extract_mk b 19 23
  have x23 : (⟨b.toArray⟩ : ByteArray).extract 23 25 = ⟨((b.drop 23).take 2).toArray⟩ := extract_mk b 23 25
  have x25 : (⟨b.toArray⟩ : ByteArray).extract 25 29 = ⟨((b.drop 25).take 4).toArray⟩ := extract_mk b 25 29
  have x29 : (⟨b.toArray⟩ : ByteArray).extract 29 45 = ⟨((b.drop 29).take 16).toArray⟩ := extract_mk b 29 45
  have x45 : (⟨b.toArray⟩ : ByteArray).extract 45 61 = ⟨((b.drop 45).take 16).toArray⟩ := extract_mk b 45 61
  have x1 : (⟨b.toArray⟩ : ByteArray).extract 1 3 = ⟨((b.drop 1).take 2).toArray⟩ := extract_mk b 1 3
  have x61 : (⟨b.toArray⟩ : ByteArray).extract 61 64 = ⟨(b.drop 61).toArray⟩ := by rw [extract_mk b 61 64, List.take_of_length_le (by rw [List.length_drop]; omega)]
  have n3 := numr_any ((b.drop 3).take 8) 8
  have n11 := numr_any ((b.drop 11).take 8) 8
  have n19 := numr_any ((b.drop 19).take 4) 4
  have n23 := numr_any ((b.drop 23).take 2) 2
  have n25 := numr_any ((b.drop 25).take 4) 4
  have n1 := numr_any ((b.drop 1).take 2) 2
  have s29 := sixteen_any ((b.drop 29).take 16)
  have s45 := sixteen_any ((b.drop 45).take 16)
  have HN3 : Hid (∀ w, _) := fun w => n3 w (cutl 3 8 (by omega)) (by omega)
  have HN11 : Hid (∀ w, _) := fun w => n11 w (cutl 11 8 (by omega)) (by omega)
  have HN19 : Hid (∀ w, _) := fun w => n19 w (cutl 19 4 (by omega)) (by omega)
  have HN23 : Hid (∀ w, _) := fun w => n23 w (cutl 23 2 (by omega)) (by omega)
  have HN25 : Hid (∀ w, _) := fun w => n25 w (cutl 25 4 (by omega)) (by omega)
  have HN1 : Hid (∀ w, _) := fun w => n1 w (cutl 1 2 (by omega)) (by omega)
  have HS29 : Hid (∀ w, _) := fun w => s29 w (cutl 29 16 (by omega))
  have HS45 : Hid (∀ w, _) := fun w => s45 w (cutl 45 16 (by omega))
  have hk0 := num_one b (by omega)
  have hix : ∀ w, Sem.run Try.prog (Instr.index 9 (.string ⟨b.toArray⟩) (.int .i64 0)) w = .ok (.int .u8 ((num (b.take 1) : Nat) : Int)) w := by
    intro w
    rw [hk0]
    exact str_index b 0 (by omega) w
  have hk256 : num (b.take 1) < 256 := num_take_lt b 1 1 (by omega)
  have u1 := num_cut b 1 2
  have u19 := num_cut b 19 4
  have u23 := num_cut b 23 2
  have u25 := num_cut b 25 4
  have hl29 := cutl 29 16 (by omega)
  have hl45 := cutl 45 16 (by omega)
  clear n3 n11 n19 n23 n25 n1 s29 s45 hk0 cutl hb
  generalize hk : num (b.take 1) = k at *
  generalize num ((b.drop 1).take 2) = to at *
  generalize num ((b.drop 3).take 8) = lo at *
  generalize num ((b.drop 11).take 8) = hi at *
  generalize num ((b.drop 19).take 4) = delay at *
  generalize num ((b.drop 23).take 2) = who at *
  generalize num ((b.drop 25).take 4) = epoch at *
  have hbd := fun kb => build_read kb lo hi delay who epoch _ _ hl29 hl45
  generalize (b.drop 1).take 2 = X1 at *
  generalize (b.drop 3).take 8 = X3 at *
  generalize (b.drop 11).take 8 = X11 at *
  generalize (b.drop 19).take 4 = X19 at *
  generalize (b.drop 23).take 2 = X23 at *
  generalize (b.drop 25).take 4 = X25 at *
  generalize (b.drop 29).take 16 = nonce at *
  generalize (b.drop 45).take 16 = mac at *
  have v1 : IntKind.u16.wrap (to : Int) = (to : Int) := by rw [IntKind.wrap_u16]; omega
  have v19 : IntKind.u32.wrap (delay : Int) = (delay : Int) := by rw [IntKind.wrap_u32]; omega
  have v23 : IntKind.u16.wrap (who : Int) = (who : Int) := by rw [IntKind.wrap_u16]; omega
  have v25 : IntKind.u32.wrap (epoch : Int) = (epoch : Int) := by rw [IntKind.wrap_u32]; omega
  have HBZ : Hid (∀ m : List UInt8, ((⟨(b.drop 61).toArray⟩ : ByteArray).toList == (⟨m.toArray⟩ : ByteArray).toList) = (b.drop 61 == m)) := fun m => txt_eq _ _
  generalize b.drop 61 = X61 at *
  generalize hT : (⟨b.toArray⟩ : ByteArray) = T at *
  generalize decM b = D at *
  generalize ansM b = ANS at *
  generalize errD b = ERRD at *
  generalize okB b = OK at *
  clear hk hT b
  have hN16 := hide hl29
  have hM16 := hide hl45
  have HU := hide (And.intro u1 (And.intro u19 (And.intro u23 u25)))
  obtain ⟨kb, hkb⟩ : ∃ kb : Bool, ((k : Int) == 1) = kb := ⟨_, rfl⟩
  have hbd := hbd kb
  have hsl : (slotC ⟨kb, 0, 0, who, epoch, nonce, mac, lo, hi, delay⟩).length = 40 := slotC_length _ hl29 hl45
  have HSL := hide hsl
  have HSO := hide (slotC_one ⟨kb, 0, 0, who, epoch, nonce, mac, lo, hi, delay⟩)
  clear u1 u19 u23 u25 hl29 hl45 hsl
  go_enter Try.func18, Try.ntmps18
  go_wp2_with ((with_reducible refine wpl_alloca (op := ⟨some 2, _, _, _, _, _⟩) rfl _ rfl _ zeroS ?_); intro g2 w2 hB2 hg2 hF2)
  have HB2 : Hid (Blk w2.drew g2 32 (slotC slot0).toArray) := hB2
  have HBL : Hid (Below w.heap.size w w2.drew) := (hF2.below (Nat.le_refl _) (fun _ h => h.elim)).drew
  have HG2 : Hid (w.heap.size ≤ g2) := hg2
  clear hB2 hg2 hF2
  refine wp_region_held_drew (S := fun _ => True) (by kernel_rfl) trivial ?_
  intro hHeld
  generalize w2.drew = w3 at *
  refine wpAnyH_take (i := 0) (v := ?v1) rfl (by kernel_rfl) (by kernel_rfl) (by kernel_rfl) (fun _ _ _ h => h) (Or.inl ⟨by rfl, ?hy1⟩) (by assumption) ?rest1
  case hy1 => (intro w hSw; (try go_simp); try with_reducible rfl)
  try simp only [Act.put, List.getElem_toArray, List.getElem_cons_zero, List.getElem_cons_succ, List.setIfInBounds_toArray, List.set_cons_zero, List.set_cons_succ]
  refine wpAnyH_take (i := 1) (v := ?v2) rfl (by kernel_rfl) (by kernel_rfl) (by kernel_rfl) (fun _ _ _ h => h) (Or.inl ⟨by rfl, ?hy2⟩) (by assumption) ?rest2
  case hy2 => (intro w hSw; (try go_simp); try with_reducible rfl)
  try simp only [Act.put, List.getElem_toArray, List.getElem_cons_zero, List.getElem_cons_succ, List.setIfInBounds_toArray, List.set_cons_zero, List.set_cons_succ]
  refine wpAnyH_take (i := 2) (v := ?v3) rfl (by kernel_rfl) (by kernel_rfl) (by kernel_rfl) (fun _ _ _ h => h) (Or.inl ⟨by rfl, ?hy3⟩) (by assumption) ?rest3
  case hy3 => (intro w hSw; (try go_simp); try with_reducible rfl)
  try simp only [Act.put, List.getElem_toArray, List.getElem_cons_zero, List.getElem_cons_succ, List.setIfInBounds_toArray, List.set_cons_zero, List.set_cons_succ]
  refine wpAnyH_take (i := 3) (v := ?v4) rfl (by kernel_rfl) (by kernel_rfl) (by kernel_rfl) (fun _ _ _ h => h) (Or.inl ⟨by rfl, ?hy4⟩) (by assumption) ?rest4
  case hy4 => (intro w hSw; (try go_simp); try with_reducible rfl)
  try simp only [Act.put, List.getElem_toArray, List.getElem_cons_zero, List.getElem_cons_succ, List.setIfInBounds_toArray, List.set_cons_zero, List.set_cons_succ]
  refine wpAnyH_take (i := 4) (v := ?v5) rfl (by kernel_rfl) (by kernel_rfl) (by kernel_rfl) (fun _ _ _ h => h) (Or.inl ⟨by rfl, ?hy5⟩) (by assumption) ?rest5
  case hy5 => (intro w hSw; (try go_simp); try with_reducible rfl)
  try simp only [Act.put, List.getElem_toArray, List.getElem_cons_zero, List.getElem_cons_succ, List.setIfInBounds_toArray, List.set_cons_zero, List.set_cons_succ]
  refine wpAnyH_take (i := 6) (v := ?v6) rfl (by kernel_rfl) (by kernel_rfl) (by kernel_rfl) (fun _ _ _ h => h) (Or.inl ⟨by rfl, ?hy6⟩) (by assumption) ?rest6
  case hy6 => (intro w hSw; (try go_simp); try with_reducible rfl)
  try simp only [Act.put, List.getElem_toArray, List.getElem_cons_zero, List.getElem_cons_succ, List.setIfInBounds_toArray, List.set_cons_zero, List.set_cons_succ]
  refine wpAnyH_take (i := 7) (v := ?v7) rfl (by kernel_rfl) (by kernel_rfl) (by kernel_rfl) (fun _ _ _ h => h) (Or.inl ⟨by rfl, ?hy7⟩) (by assumption) ?rest7
  case hy7 => (intro w hSw; (try go_simp); try with_reducible rfl)
  try simp only [Act.put, List.getElem_toArray, List.getElem_cons_zero, List.getElem_cons_succ, List.setIfInBounds_toArray, List.set_cons_zero, List.set_cons_succ]
  refine wpAnyH_take (i := 9) (v := ?v8) rfl (by kernel_rfl) (by kernel_rfl) (by kernel_rfl) (fun _ _ _ h => h) (Or.inl ⟨by rfl, ?hy8⟩) (by assumption) ?rest8
  case hy8 => (intro w hSw; (try go_simp); try with_reducible rfl)
  try simp only [Act.put, List.getElem_toArray, List.getElem_cons_zero, List.getElem_cons_succ, List.setIfInBounds_toArray, List.set_cons_zero, List.set_cons_succ]
  refine wpAnyH_take (i := 10) (v := ?v9) rfl (by kernel_rfl) (by kernel_rfl) (by kernel_rfl) (fun _ _ _ h => h) (Or.inl ⟨by rfl, ?hy9⟩) (by assumption) ?rest9
  case hy9 => (intro w hSw; (try go_simp); try with_reducible rfl)
  try simp only [Act.put, List.getElem_toArray, List.getElem_cons_zero, List.getElem_cons_succ, List.setIfInBounds_toArray, List.set_cons_zero, List.set_cons_succ]
  refine wpAnyH_take (i := 13) (v := ?v10) rfl (by kernel_rfl) (by kernel_rfl) (by kernel_rfl) (fun _ _ _ h => h) (Or.inl ⟨by rfl, ?hy10⟩) (by assumption) ?rest10
  case hy10 => (intro w hSw; (try go_simp); try with_reducible rfl)
  try simp only [Act.put, List.getElem_toArray, List.getElem_cons_zero, List.getElem_cons_succ, List.setIfInBounds_toArray, List.set_cons_zero, List.set_cons_succ]
  refine wpAnyH_take (i := 14) (v := ?v11) rfl (by kernel_rfl) (by kernel_rfl) (by kernel_rfl) (fun _ _ _ h => h) (Or.inl ⟨by rfl, ?hy11⟩) (by assumption) ?rest11
  case hy11 => (intro w hSw; (try go_simp); try with_reducible rfl)
  try simp only [Act.put, List.getElem_toArray, List.getElem_cons_zero, List.getElem_cons_succ, List.setIfInBounds_toArray, List.set_cons_zero, List.set_cons_succ]
  refine wpAnyH_take (i := 17) (v := ?v12) rfl (by kernel_rfl) (by kernel_rfl) (by kernel_rfl) (fun _ _ _ h => h) (Or.inl ⟨by rfl, ?hy12⟩) (by assumption) ?rest12
  case hy12 => (intro w hSw; (try go_simp); try with_reducible rfl)
  try simp only [Act.put, List.getElem_toArray, List.getElem_cons_zero, List.getElem_cons_succ, List.setIfInBounds_toArray, List.set_cons_zero, List.set_cons_succ]
  refine wpAnyH_take (i := 18) (v := ?v13) rfl (by kernel_rfl) (by kernel_rfl) (by kernel_rfl) (fun _ _ _ h => h) (Or.inl ⟨by rfl, ?hy13⟩) (by assumption) ?rest13
  case hy13 => (intro w hSw; (try go_simp); try with_reducible rfl)
  try simp only [Act.put, List.getElem_toArray, List.getElem_cons_zero, List.getElem_cons_succ, List.setIfInBounds_toArray, List.set_cons_zero, List.set_cons_succ]
  refine wpAnyH_take (i := 21) (v := ?v14) rfl (by kernel_rfl) (by kernel_rfl) (by kernel_rfl) (fun _ _ _ h => h) (Or.inl ⟨by rfl, ?hy14⟩) (by assumption) ?rest14
  case hy14 => (intro w hSw; (try go_simp); try with_reducible rfl)
  try simp only [Act.put, List.getElem_toArray, List.getElem_cons_zero, List.getElem_cons_succ, List.setIfInBounds_toArray, List.set_cons_zero, List.set_cons_succ]
  refine wpAnyH_take (i := 22) (v := ?v15) rfl (by kernel_rfl) (by kernel_rfl) (by kernel_rfl) (fun _ _ _ h => h) (Or.inl ⟨by rfl, ?hy15⟩) (by assumption) ?rest15
  case hy15 => (intro w hSw; (try go_simp); try with_reducible rfl)
  try simp only [Act.put, List.getElem_toArray, List.getElem_cons_zero, List.getElem_cons_succ, List.setIfInBounds_toArray, List.set_cons_zero, List.set_cons_succ]
  refine wpAnyH_take (i := 24) (v := ?v16) rfl (by kernel_rfl) (by kernel_rfl) (by kernel_rfl) (fun _ _ _ h => h) (Or.inl ⟨by rfl, ?hy16⟩) (by assumption) ?rest16
  case hy16 => (intro w hSw; (try go_simp); try with_reducible rfl)
  try simp only [Act.put, List.getElem_toArray, List.getElem_cons_zero, List.getElem_cons_succ, List.setIfInBounds_toArray, List.set_cons_zero, List.set_cons_succ]
  refine wpAnyH_take (i := 25) (v := ?v17) rfl (by kernel_rfl) (by kernel_rfl) (by kernel_rfl) (fun _ _ _ h => h) (Or.inl ⟨by rfl, ?hy17⟩) (by assumption) ?rest17
  case hy17 => (intro w hSw; (try go_simp); try with_reducible rfl)
  try simp only [Act.put, List.getElem_toArray, List.getElem_cons_zero, List.getElem_cons_succ, List.setIfInBounds_toArray, List.set_cons_zero, List.set_cons_succ]
  apply meet1 (A := fun W g4 => RefAt w g2 g4 slot0 W)
  · intro key
    refine wpAnyH_ready (rs := [5, 28]) (by kernel_rfl) (by simp) ?_
    refine AllReadyH.cons rfl (fun K hK => ?_) ?_
    · go_simp
      refine (HN3.out _).mono ?_
      rintro e Wn ⟨rfl, hWn⟩
      have HB2 := hide (hWn ▸ HB2.out)
      have HBL := hide (hWn ▸ HBL.out)
      clear hWn
      refine hK.out _ _ (trivial) (fun hHeld => ?_)
      clear hK K
      refine wpAnyH_ready (rs := [8, 28]) (by kernel_rfl) (by simp) ?_
      refine AllReadyH.cons rfl (fun K hK => ?_) ?_
      · go_simp
        refine (HN11.out _).mono ?_
        rintro e Wn ⟨rfl, hWn⟩
        have HB2 := hide (hWn ▸ HB2.out)
        have HBL := hide (hWn ▸ HBL.out)
        clear hWn
        refine hK.out _ _ (trivial) (fun hHeld => ?_)
        clear hK K
        refine wpAnyH_ready (rs := [11, 28]) (by kernel_rfl) (by simp) ?_
        refine AllReadyH.cons rfl (fun K hK => ?_) ?_
        · go_simp
          refine (HN19.out _).mono ?_
          rintro e Wn ⟨rfl, hWn⟩
          have HB2 := hide (hWn ▸ HB2.out)
          have HBL := hide (hWn ▸ HBL.out)
          clear hWn
          refine hK.out _ _ (trivial) (fun hHeld => ?_)
          clear hK K
          refine wpAnyH_take (i := 12) (v := ?v18) rfl (by kernel_rfl) (by kernel_rfl) (by kernel_rfl) (fun _ _ _ h => h) (Or.inl ⟨by rfl, ?hy18⟩) (by assumption) ?rest18
          case hy18 => (intro w hSw; (try go_simp); try with_reducible rfl)
          try simp only [Act.put, List.getElem_toArray, List.getElem_cons_zero, List.getElem_cons_succ, List.setIfInBounds_toArray, List.set_cons_zero, List.set_cons_succ]
          refine wpAnyH_ready (rs := [15, 28]) (by kernel_rfl) (by simp) ?_
          refine AllReadyH.cons rfl (fun K hK => ?_) ?_
          · go_simp
            refine (HN23.out _).mono ?_
            rintro e Wn ⟨rfl, hWn⟩
            have HB2 := hide (hWn ▸ HB2.out)
            have HBL := hide (hWn ▸ HBL.out)
            clear hWn
            refine hK.out _ _ (trivial) (fun hHeld => ?_)
            clear hK K
            refine wpAnyH_take (i := 16) (v := ?v19) rfl (by kernel_rfl) (by kernel_rfl) (by kernel_rfl) (fun _ _ _ h => h) (Or.inl ⟨by rfl, ?hy19⟩) (by assumption) ?rest19
            case hy19 => (intro w hSw; (try go_simp); try with_reducible rfl)
            try simp only [Act.put, List.getElem_toArray, List.getElem_cons_zero, List.getElem_cons_succ, List.setIfInBounds_toArray, List.set_cons_zero, List.set_cons_succ]
            refine wpAnyH_ready (rs := [19, 28]) (by kernel_rfl) (by simp) ?_
            refine AllReadyH.cons rfl (fun K hK => ?_) ?_
            · go_simp
              refine (HN25.out _).mono ?_
              rintro e Wn ⟨rfl, hWn⟩
              have HB2 := hide (hWn ▸ HB2.out)
              have HBL := hide (hWn ▸ HBL.out)
              clear hWn
              refine hK.out _ _ (trivial) (fun hHeld => ?_)
              clear hK K
              refine wpAnyH_take (i := 20) (v := ?v20) rfl (by kernel_rfl) (by kernel_rfl) (by kernel_rfl) (fun _ _ _ h => h) (Or.inl ⟨by rfl, ?hy20⟩) (by assumption) ?rest20
              case hy20 => (intro w hSw; (try go_simp); try with_reducible rfl)
              try simp only [Act.put, List.getElem_toArray, List.getElem_cons_zero, List.getElem_cons_succ, List.setIfInBounds_toArray, List.set_cons_zero, List.set_cons_succ]
              refine wpAnyH_ready (rs := [23, 28]) (by kernel_rfl) (by simp) ?_
              refine AllReadyH.cons rfl (fun K hK => ?_) ?_
              · go_simp
                refine (HS29.out _).mono ?_
                rintro e Wn ⟨rfl, hbn⟩
                have hfn := Frm.of_below (S := fun _ => False) hbn
                have HB2 := hide (HB2.out.frm hfn (fun h => h))
                have HBL := hide (below_frm HBL.out hfn HBL.out.size (fun _ h => h.elim))
                clear hbn hfn
                refine hK.out _ _ (trivial) (fun hHeld => ?_)
                clear hK K
                refine wpAnyH_ready (rs := [26, 28]) (by kernel_rfl) (by simp) ?_
                refine AllReadyH.cons rfl (fun K hK => ?_) ?_
                · go_simp
                  refine (HS45.out _).mono ?_
                  rintro e Wn ⟨rfl, hbn⟩
                  have hfn := Frm.of_below (S := fun _ => False) hbn
                  have HB2 := hide (HB2.out.frm hfn (fun h => h))
                  have HBL := hide (below_frm HBL.out hfn HBL.out.size (fun _ h => h.elim))
                  clear hbn hfn
                  refine hK.out _ _ (trivial) (fun hHeld => ?_)
                  clear hK K
                  refine wpAnyH_take (i := 27) (v := .agg (slotC ⟨kb, 0, 0, who, epoch, nonce, mac, lo, hi, delay⟩).toArray) rfl (by kernel_rfl) (by kernel_rfl) (by kernel_rfl) (fun _ _ _ h => h) (Or.inl ⟨by rfl, ?hy21⟩) (by assumption) ?rest21
                  case hy21 => (intro w hSw; exact held_build _ _ rfl _ _ (hbd w) rfl)
                  try simp only [Act.put, List.getElem_toArray, List.getElem_cons_zero, List.getElem_cons_succ, List.setIfInBounds_toArray, List.set_cons_zero, List.set_cons_succ]
                  refine wpAnyH_ready (rs := [28]) (by kernel_rfl) (by simp) ?_
                  refine AllReadyH.cons rfl (fun K hK => ?_) AllReadyH.nil
                  refine step_alloca rfl _ rfl _ zeroS ?_
                  intro g4 Wa hBa hga hFa
                  have HR : Hid (RefAt w g2 g4 slot0 Wa) := ⟨HB2.out.frm hFa (fun h => h), hBa, below_frm HBL.out hFa HBL.out.size (fun _ h => h.elim), ⟨by have := HB2.out.lt; omega, HG2.out, by have := HBL.out.size; omega⟩⟩
                  clear hBa hga hFa
                  refine hK.out _ _ (trivial) (fun hHeld => ?_)
                  clear hK K
                  try simp only [Act.put, List.setIfInBounds_toArray, List.set_cons_zero, List.set_cons_succ]
                  exact key _ g4 HR.out
                refine AllReadyH.cons rfl (fun K hK => ?_) AllReadyH.nil
                refine step_alloca rfl _ rfl _ zeroS ?_
                intro g4 Wa hBa hga hFa
                have HR : Hid (RefAt w g2 g4 slot0 Wa) := ⟨HB2.out.frm hFa (fun h => h), hBa, below_frm HBL.out hFa HBL.out.size (fun _ h => h.elim), ⟨by have := HB2.out.lt; omega, HG2.out, by have := HBL.out.size; omega⟩⟩
                clear hBa hga hFa
                refine hK.out _ _ (trivial) (fun hHeld => ?_)
                clear hK K
                try simp only [Act.put, List.setIfInBounds_toArray, List.set_cons_zero, List.set_cons_succ]
                refine wpAnyH_ready (rs := [26]) (by kernel_rfl) (by simp) ?_
                refine AllReadyH.cons rfl (fun K hK => ?_) AllReadyH.nil
                go_simp
                refine (HS45.out _).mono ?_
                rintro e Wn ⟨rfl, hbn⟩
                have hfn := Frm.of_below (S := fun _ => False) hbn
                have HR := hide (HR.out.frm hfn)
                clear hbn hfn
                refine hK.out _ _ (trivial) (fun hHeld => ?_)
                clear hK K
                refine wpAnyH_take (i := 27) (v := .agg (slotC ⟨kb, 0, 0, who, epoch, nonce, mac, lo, hi, delay⟩).toArray) rfl (by kernel_rfl) (by kernel_rfl) (by kernel_rfl) (fun _ _ _ h => h) (Or.inl ⟨by rfl, ?hy22⟩) (by assumption) ?rest22
                case hy22 => (intro w hSw; exact held_build _ _ rfl _ _ (hbd w) rfl)
                try simp only [Act.put, List.getElem_toArray, List.getElem_cons_zero, List.getElem_cons_succ, List.setIfInBounds_toArray, List.set_cons_zero, List.set_cons_succ]
                exact key _ g4 HR.out
              refine AllReadyH.cons rfl (fun K hK => ?_) AllReadyH.nil
              refine step_alloca rfl _ rfl _ zeroS ?_
              intro g4 Wa hBa hga hFa
              have HR : Hid (RefAt w g2 g4 slot0 Wa) := ⟨HB2.out.frm hFa (fun h => h), hBa, below_frm HBL.out hFa HBL.out.size (fun _ h => h.elim), ⟨by have := HB2.out.lt; omega, HG2.out, by have := HBL.out.size; omega⟩⟩
              clear hBa hga hFa
              refine hK.out _ _ (trivial) (fun hHeld => ?_)
              clear hK K
              try simp only [Act.put, List.setIfInBounds_toArray, List.set_cons_zero, List.set_cons_succ]
              refine wpAnyH_ready (rs := [23]) (by kernel_rfl) (by simp) ?_
              refine AllReadyH.cons rfl (fun K hK => ?_) AllReadyH.nil
              go_simp
              refine (HS29.out _).mono ?_
              rintro e Wn ⟨rfl, hbn⟩
              have hfn := Frm.of_below (S := fun _ => False) hbn
              have HR := hide (HR.out.frm hfn)
              clear hbn hfn
              refine hK.out _ _ (trivial) (fun hHeld => ?_)
              clear hK K
              refine wpAnyH_ready (rs := [26]) (by kernel_rfl) (by simp) ?_
              refine AllReadyH.cons rfl (fun K hK => ?_) AllReadyH.nil
              go_simp
              refine (HS45.out _).mono ?_
              rintro e Wn ⟨rfl, hbn⟩
              have hfn := Frm.of_below (S := fun _ => False) hbn
              have HR := hide (HR.out.frm hfn)
              clear hbn hfn
              refine hK.out _ _ (trivial) (fun hHeld => ?_)
              clear hK K
              refine wpAnyH_take (i := 27) (v := .agg (slotC ⟨kb, 0, 0, who, epoch, nonce, mac, lo, hi, delay⟩).toArray) rfl (by kernel_rfl) (by kernel_rfl) (by kernel_rfl) (fun _ _ _ h => h) (Or.inl ⟨by rfl, ?hy23⟩) (by assumption) ?rest23
              case hy23 => (intro w hSw; exact held_build _ _ rfl _ _ (hbd w) rfl)
              try simp only [Act.put, List.getElem_toArray, List.getElem_cons_zero, List.getElem_cons_succ, List.setIfInBounds_toArray, List.set_cons_zero, List.set_cons_succ]
              exact key _ g4 HR.out
            refine AllReadyH.cons rfl (fun K hK => ?_) AllReadyH.nil
            refine step_alloca rfl _ rfl _ zeroS ?_
            intro g4 Wa hBa hga hFa
            have HR : Hid (RefAt w g2 g4 slot0 Wa) := ⟨HB2.out.frm hFa (fun h => h), hBa, below_frm HBL.out hFa HBL.out.size (fun _ h => h.elim), ⟨by have := HB2.out.lt; omega, HG2.out, by have := HBL.out.size; omega⟩⟩
            clear hBa hga hFa
            refine hK.out _ _ (trivial) (fun hHeld => ?_)
            clear hK K
            try simp only [Act.put, List.setIfInBounds_toArray, List.set_cons_zero, List.set_cons_succ]
            refine wpAnyH_ready (rs := [19]) (by kernel_rfl) (by simp) ?_
            refine AllReadyH.cons rfl (fun K hK => ?_) AllReadyH.nil
            go_simp
            refine (HN25.out _).mono ?_
            rintro e Wn ⟨rfl, hWn⟩
            have HR := hide (hWn ▸ HR.out)
            clear hWn
            refine hK.out _ _ (trivial) (fun hHeld => ?_)
            clear hK K
            refine wpAnyH_take (i := 20) (v := ?v24) rfl (by kernel_rfl) (by kernel_rfl) (by kernel_rfl) (fun _ _ _ h => h) (Or.inl ⟨by rfl, ?hy24⟩) (by assumption) ?rest24
            case hy24 => (intro w hSw; (try go_simp); try with_reducible rfl)
            try simp only [Act.put, List.getElem_toArray, List.getElem_cons_zero, List.getElem_cons_succ, List.setIfInBounds_toArray, List.set_cons_zero, List.set_cons_succ]
            refine wpAnyH_ready (rs := [23]) (by kernel_rfl) (by simp) ?_
            refine AllReadyH.cons rfl (fun K hK => ?_) AllReadyH.nil
            go_simp
            refine (HS29.out _).mono ?_
            rintro e Wn ⟨rfl, hbn⟩
            have hfn := Frm.of_below (S := fun _ => False) hbn
            have HR := hide (HR.out.frm hfn)
            clear hbn hfn
            refine hK.out _ _ (trivial) (fun hHeld => ?_)
            clear hK K
            refine wpAnyH_ready (rs := [26]) (by kernel_rfl) (by simp) ?_
            refine AllReadyH.cons rfl (fun K hK => ?_) AllReadyH.nil
            go_simp
            refine (HS45.out _).mono ?_
            rintro e Wn ⟨rfl, hbn⟩
            have hfn := Frm.of_below (S := fun _ => False) hbn
            have HR := hide (HR.out.frm hfn)
            clear hbn hfn
            refine hK.out _ _ (trivial) (fun hHeld => ?_)
            clear hK K
            refine wpAnyH_take (i := 27) (v := .agg (slotC ⟨kb, 0, 0, who, epoch, nonce, mac, lo, hi, delay⟩).toArray) rfl (by kernel_rfl) (by kernel_rfl) (by kernel_rfl) (fun _ _ _ h => h) (Or.inl ⟨by rfl, ?hy25⟩) (by assumption) ?rest25
            case hy25 => (intro w hSw; exact held_build _ _ rfl _ _ (hbd w) rfl)
            try simp only [Act.put, List.getElem_toArray, List.getElem_cons_zero, List.getElem_cons_succ, List.setIfInBounds_toArray, List.set_cons_zero, List.set_cons_succ]
            exact key _ g4 HR.out
          refine AllReadyH.cons rfl (fun K hK => ?_) AllReadyH.nil
          refine step_alloca rfl _ rfl _ zeroS ?_
          intro g4 Wa hBa hga hFa
          have HR : Hid (RefAt w g2 g4 slot0 Wa) := ⟨HB2.out.frm hFa (fun h => h), hBa, below_frm HBL.out hFa HBL.out.size (fun _ h => h.elim), ⟨by have := HB2.out.lt; omega, HG2.out, by have := HBL.out.size; omega⟩⟩
          clear hBa hga hFa
          refine hK.out _ _ (trivial) (fun hHeld => ?_)
          clear hK K
          try simp only [Act.put, List.setIfInBounds_toArray, List.set_cons_zero, List.set_cons_succ]
          refine wpAnyH_ready (rs := [15]) (by kernel_rfl) (by simp) ?_
          refine AllReadyH.cons rfl (fun K hK => ?_) AllReadyH.nil
          go_simp
          refine (HN23.out _).mono ?_
          rintro e Wn ⟨rfl, hWn⟩
          have HR := hide (hWn ▸ HR.out)
          clear hWn
          refine hK.out _ _ (trivial) (fun hHeld => ?_)
          clear hK K
          refine wpAnyH_take (i := 16) (v := ?v26) rfl (by kernel_rfl) (by kernel_rfl) (by kernel_rfl) (fun _ _ _ h => h) (Or.inl ⟨by rfl, ?hy26⟩) (by assumption) ?rest26
          case hy26 => (intro w hSw; (try go_simp); try with_reducible rfl)
          try simp only [Act.put, List.getElem_toArray, List.getElem_cons_zero, List.getElem_cons_succ, List.setIfInBounds_toArray, List.set_cons_zero, List.set_cons_succ]
          refine wpAnyH_ready (rs := [19]) (by kernel_rfl) (by simp) ?_
          refine AllReadyH.cons rfl (fun K hK => ?_) AllReadyH.nil
          go_simp
          refine (HN25.out _).mono ?_
          rintro e Wn ⟨rfl, hWn⟩
          have HR := hide (hWn ▸ HR.out)
          clear hWn
          refine hK.out _ _ (trivial) (fun hHeld => ?_)
          clear hK K
          refine wpAnyH_take (i := 20) (v := ?v27) rfl (by kernel_rfl) (by kernel_rfl) (by kernel_rfl) (fun _ _ _ h => h) (Or.inl ⟨by rfl, ?hy27⟩) (by assumption) ?rest27
          case hy27 => (intro w hSw; (try go_simp); try with_reducible rfl)
          try simp only [Act.put, List.getElem_toArray, List.getElem_cons_zero, List.getElem_cons_succ, List.setIfInBounds_toArray, List.set_cons_zero, List.set_cons_succ]
          refine wpAnyH_ready (rs := [23]) (by kernel_rfl) (by simp) ?_
          refine AllReadyH.cons rfl (fun K hK => ?_) AllReadyH.nil
          go_simp
          refine (HS29.out _).mono ?_
          rintro e Wn ⟨rfl, hbn⟩
          have hfn := Frm.of_below (S := fun _ => False) hbn
          have HR := hide (HR.out.frm hfn)
          clear hbn hfn
          refine hK.out _ _ (trivial) (fun hHeld => ?_)
          clear hK K
          refine wpAnyH_ready (rs := [26]) (by kernel_rfl) (by simp) ?_
          refine AllReadyH.cons rfl (fun K hK => ?_) AllReadyH.nil
          go_simp
          refine (HS45.out _).mono ?_
          rintro e Wn ⟨rfl, hbn⟩
          have hfn := Frm.of_below (S := fun _ => False) hbn
          have HR := hide (HR.out.frm hfn)
          clear hbn hfn
          refine hK.out _ _ (trivial) (fun hHeld => ?_)
          clear hK K
          refine wpAnyH_take (i := 27) (v := .agg (slotC ⟨kb, 0, 0, who, epoch, nonce, mac, lo, hi, delay⟩).toArray) rfl (by kernel_rfl) (by kernel_rfl) (by kernel_rfl) (fun _ _ _ h => h) (Or.inl ⟨by rfl, ?hy28⟩) (by assumption) ?rest28
          case hy28 => (intro w hSw; exact held_build _ _ rfl _ _ (hbd w) rfl)
          try simp only [Act.put, List.getElem_toArray, List.getElem_cons_zero, List.getElem_cons_succ, List.setIfInBounds_toArray, List.set_cons_zero, List.set_cons_succ]
          exact key _ g4 HR.out
        refine AllReadyH.cons rfl (fun K hK => ?_) AllReadyH.nil
        refine step_alloca rfl _ rfl _ zeroS ?_
        intro g4 Wa hBa hga hFa
        have HR : Hid (RefAt w g2 g4 slot0 Wa) := ⟨HB2.out.frm hFa (fun h => h), hBa, below_frm HBL.out hFa HBL.out.size (fun _ h => h.elim), ⟨by have := HB2.out.lt; omega, HG2.out, by have := HBL.out.size; omega⟩⟩
        clear hBa hga hFa
        refine hK.out _ _ (trivial) (fun hHeld => ?_)
        clear hK K
        try simp only [Act.put, List.setIfInBounds_toArray, List.set_cons_zero, List.set_cons_succ]
        refine wpAnyH_ready (rs := [11]) (by kernel_rfl) (by simp) ?_
        refine AllReadyH.cons rfl (fun K hK => ?_) AllReadyH.nil
        go_simp
        refine (HN19.out _).mono ?_
        rintro e Wn ⟨rfl, hWn⟩
        have HR := hide (hWn ▸ HR.out)
        clear hWn
        refine hK.out _ _ (trivial) (fun hHeld => ?_)
        clear hK K
        refine wpAnyH_take (i := 12) (v := ?v29) rfl (by kernel_rfl) (by kernel_rfl) (by kernel_rfl) (fun _ _ _ h => h) (Or.inl ⟨by rfl, ?hy29⟩) (by assumption) ?rest29
        case hy29 => (intro w hSw; (try go_simp); try with_reducible rfl)
        try simp only [Act.put, List.getElem_toArray, List.getElem_cons_zero, List.getElem_cons_succ, List.setIfInBounds_toArray, List.set_cons_zero, List.set_cons_succ]
        refine wpAnyH_ready (rs := [15]) (by kernel_rfl) (by simp) ?_
        refine AllReadyH.cons rfl (fun K hK => ?_) AllReadyH.nil
        go_simp
        refine (HN23.out _).mono ?_
        rintro e Wn ⟨rfl, hWn⟩
        have HR := hide (hWn ▸ HR.out)
        clear hWn
        refine hK.out _ _ (trivial) (fun hHeld => ?_)
        clear hK K
        refine wpAnyH_take (i := 16) (v := ?v30) rfl (by kernel_rfl) (by kernel_rfl) (by kernel_rfl) (fun _ _ _ h => h) (Or.inl ⟨by rfl, ?hy30⟩) (by assumption) ?rest30
        case hy30 => (intro w hSw; (try go_simp); try with_reducible rfl)
        try simp only [Act.put, List.getElem_toArray, List.getElem_cons_zero, List.getElem_cons_succ, List.setIfInBounds_toArray, List.set_cons_zero, List.set_cons_succ]
        refine wpAnyH_ready (rs := [19]) (by kernel_rfl) (by simp) ?_
        refine AllReadyH.cons rfl (fun K hK => ?_) AllReadyH.nil
        go_simp
        refine (HN25.out _).mono ?_
        rintro e Wn ⟨rfl, hWn⟩
        have HR := hide (hWn ▸ HR.out)
        clear hWn
        refine hK.out _ _ (trivial) (fun hHeld => ?_)
        clear hK K
        refine wpAnyH_take (i := 20) (v := ?v31) rfl (by kernel_rfl) (by kernel_rfl) (by kernel_rfl) (fun _ _ _ h => h) (Or.inl ⟨by rfl, ?hy31⟩) (by assumption) ?rest31
        case hy31 => (intro w hSw; (try go_simp); try with_reducible rfl)
        try simp only [Act.put, List.getElem_toArray, List.getElem_cons_zero, List.getElem_cons_succ, List.setIfInBounds_toArray, List.set_cons_zero, List.set_cons_succ]
        refine wpAnyH_ready (rs := [23]) (by kernel_rfl) (by simp) ?_
        refine AllReadyH.cons rfl (fun K hK => ?_) AllReadyH.nil
        go_simp
        refine (HS29.out _).mono ?_
        rintro e Wn ⟨rfl, hbn⟩
        have hfn := Frm.of_below (S := fun _ => False) hbn
        have HR := hide (HR.out.frm hfn)
        clear hbn hfn
        refine hK.out _ _ (trivial) (fun hHeld => ?_)
        clear hK K
        refine wpAnyH_ready (rs := [26]) (by kernel_rfl) (by simp) ?_
        refine AllReadyH.cons rfl (fun K hK => ?_) AllReadyH.nil
        go_simp
        refine (HS45.out _).mono ?_
        rintro e Wn ⟨rfl, hbn⟩
        have hfn := Frm.of_below (S := fun _ => False) hbn
        have HR := hide (HR.out.frm hfn)
        clear hbn hfn
        refine hK.out _ _ (trivial) (fun hHeld => ?_)
        clear hK K
        refine wpAnyH_take (i := 27) (v := .agg (slotC ⟨kb, 0, 0, who, epoch, nonce, mac, lo, hi, delay⟩).toArray) rfl (by kernel_rfl) (by kernel_rfl) (by kernel_rfl) (fun _ _ _ h => h) (Or.inl ⟨by rfl, ?hy32⟩) (by assumption) ?rest32
        case hy32 => (intro w hSw; exact held_build _ _ rfl _ _ (hbd w) rfl)
        try simp only [Act.put, List.getElem_toArray, List.getElem_cons_zero, List.getElem_cons_succ, List.setIfInBounds_toArray, List.set_cons_zero, List.set_cons_succ]
        exact key _ g4 HR.out
      refine AllReadyH.cons rfl (fun K hK => ?_) AllReadyH.nil
      refine step_alloca rfl _ rfl _ zeroS ?_
      intro g4 Wa hBa hga hFa
      have HR : Hid (RefAt w g2 g4 slot0 Wa) := ⟨HB2.out.frm hFa (fun h => h), hBa, below_frm HBL.out hFa HBL.out.size (fun _ h => h.elim), ⟨by have := HB2.out.lt; omega, HG2.out, by have := HBL.out.size; omega⟩⟩
      clear hBa hga hFa
      refine hK.out _ _ (trivial) (fun hHeld => ?_)
      clear hK K
      try simp only [Act.put, List.setIfInBounds_toArray, List.set_cons_zero, List.set_cons_succ]
      refine wpAnyH_ready (rs := [8]) (by kernel_rfl) (by simp) ?_
      refine AllReadyH.cons rfl (fun K hK => ?_) AllReadyH.nil
      go_simp
      refine (HN11.out _).mono ?_
      rintro e Wn ⟨rfl, hWn⟩
      have HR := hide (hWn ▸ HR.out)
      clear hWn
      refine hK.out _ _ (trivial) (fun hHeld => ?_)
      clear hK K
      refine wpAnyH_ready (rs := [11]) (by kernel_rfl) (by simp) ?_
      refine AllReadyH.cons rfl (fun K hK => ?_) AllReadyH.nil
      go_simp
      refine (HN19.out _).mono ?_
      rintro e Wn ⟨rfl, hWn⟩
      have HR := hide (hWn ▸ HR.out)
      clear hWn
      refine hK.out _ _ (trivial) (fun hHeld => ?_)
      clear hK K
      refine wpAnyH_take (i := 12) (v := ?v33) rfl (by kernel_rfl) (by kernel_rfl) (by kernel_rfl) (fun _ _ _ h => h) (Or.inl ⟨by rfl, ?hy33⟩) (by assumption) ?rest33
      case hy33 => (intro w hSw; (try go_simp); try with_reducible rfl)
      try simp only [Act.put, List.getElem_toArray, List.getElem_cons_zero, List.getElem_cons_succ, List.setIfInBounds_toArray, List.set_cons_zero, List.set_cons_succ]
      refine wpAnyH_ready (rs := [15]) (by kernel_rfl) (by simp) ?_
      refine AllReadyH.cons rfl (fun K hK => ?_) AllReadyH.nil
      go_simp
      refine (HN23.out _).mono ?_
      rintro e Wn ⟨rfl, hWn⟩
      have HR := hide (hWn ▸ HR.out)
      clear hWn
      refine hK.out _ _ (trivial) (fun hHeld => ?_)
      clear hK K
      refine wpAnyH_take (i := 16) (v := ?v34) rfl (by kernel_rfl) (by kernel_rfl) (by kernel_rfl) (fun _ _ _ h => h) (Or.inl ⟨by rfl, ?hy34⟩) (by assumption) ?rest34
      case hy34 => (intro w hSw; (try go_simp); try with_reducible rfl)
      try simp only [Act.put, List.getElem_toArray, List.getElem_cons_zero, List.getElem_cons_succ, List.setIfInBounds_toArray, List.set_cons_zero, List.set_cons_succ]
      refine wpAnyH_ready (rs := [19]) (by kernel_rfl) (by simp) ?_
      refine AllReadyH.cons rfl (fun K hK => ?_) AllReadyH.nil
      go_simp
      refine (HN25.out _).mono ?_
      rintro e Wn ⟨rfl, hWn⟩
      have HR := hide (hWn ▸ HR.out)
      clear hWn
      refine hK.out _ _ (trivial) (fun hHeld => ?_)
      clear hK K
      refine wpAnyH_take (i := 20) (v := ?v35) rfl (by kernel_rfl) (by kernel_rfl) (by kernel_rfl) (fun _ _ _ h => h) (Or.inl ⟨by rfl, ?hy35⟩) (by assumption) ?rest35
      case hy35 => (intro w hSw; (try go_simp); try with_reducible rfl)
      try simp only [Act.put, List.getElem_toArray, List.getElem_cons_zero, List.getElem_cons_succ, List.setIfInBounds_toArray, List.set_cons_zero, List.set_cons_succ]
      refine wpAnyH_ready (rs := [23]) (by kernel_rfl) (by simp) ?_
      refine AllReadyH.cons rfl (fun K hK => ?_) AllReadyH.nil
      go_simp
      refine (HS29.out _).mono ?_
      rintro e Wn ⟨rfl, hbn⟩
      have hfn := Frm.of_below (S := fun _ => False) hbn
      have HR := hide (HR.out.frm hfn)
      clear hbn hfn
      refine hK.out _ _ (trivial) (fun hHeld => ?_)
      clear hK K
      refine wpAnyH_ready (rs := [26]) (by kernel_rfl) (by simp) ?_
      refine AllReadyH.cons rfl (fun K hK => ?_) AllReadyH.nil
      go_simp
      refine (HS45.out _).mono ?_
      rintro e Wn ⟨rfl, hbn⟩
      have hfn := Frm.of_below (S := fun _ => False) hbn
      have HR := hide (HR.out.frm hfn)
      clear hbn hfn
      refine hK.out _ _ (trivial) (fun hHeld => ?_)
      clear hK K
      refine wpAnyH_take (i := 27) (v := .agg (slotC ⟨kb, 0, 0, who, epoch, nonce, mac, lo, hi, delay⟩).toArray) rfl (by kernel_rfl) (by kernel_rfl) (by kernel_rfl) (fun _ _ _ h => h) (Or.inl ⟨by rfl, ?hy36⟩) (by assumption) ?rest36
      case hy36 => (intro w hSw; exact held_build _ _ rfl _ _ (hbd w) rfl)
      try simp only [Act.put, List.getElem_toArray, List.getElem_cons_zero, List.getElem_cons_succ, List.setIfInBounds_toArray, List.set_cons_zero, List.set_cons_succ]
      exact key _ g4 HR.out
    refine AllReadyH.cons rfl (fun K hK => ?_) AllReadyH.nil
    refine step_alloca rfl _ rfl _ zeroS ?_
    intro g4 Wa hBa hga hFa
    have HR : Hid (RefAt w g2 g4 slot0 Wa) := ⟨HB2.out.frm hFa (fun h => h), hBa, below_frm HBL.out hFa HBL.out.size (fun _ h => h.elim), ⟨by have := HB2.out.lt; omega, HG2.out, by have := HBL.out.size; omega⟩⟩
    clear hBa hga hFa
    refine hK.out _ _ (trivial) (fun hHeld => ?_)
    clear hK K
    try simp only [Act.put, List.setIfInBounds_toArray, List.set_cons_zero, List.set_cons_succ]
    refine wpAnyH_ready (rs := [5]) (by kernel_rfl) (by simp) ?_
    refine AllReadyH.cons rfl (fun K hK => ?_) AllReadyH.nil
    go_simp
    refine (HN3.out _).mono ?_
    rintro e Wn ⟨rfl, hWn⟩
    have HR := hide (hWn ▸ HR.out)
    clear hWn
    refine hK.out _ _ (trivial) (fun hHeld => ?_)
    clear hK K
    refine wpAnyH_ready (rs := [8]) (by kernel_rfl) (by simp) ?_
    refine AllReadyH.cons rfl (fun K hK => ?_) AllReadyH.nil
    go_simp
    refine (HN11.out _).mono ?_
    rintro e Wn ⟨rfl, hWn⟩
    have HR := hide (hWn ▸ HR.out)
    clear hWn
    refine hK.out _ _ (trivial) (fun hHeld => ?_)
    clear hK K
    refine wpAnyH_ready (rs := [11]) (by kernel_rfl) (by simp) ?_
    refine AllReadyH.cons rfl (fun K hK => ?_) AllReadyH.nil
    go_simp
    refine (HN19.out _).mono ?_
    rintro e Wn ⟨rfl, hWn⟩
    have HR := hide (hWn ▸ HR.out)
    clear hWn
    refine hK.out _ _ (trivial) (fun hHeld => ?_)
    clear hK K
    refine wpAnyH_take (i := 12) (v := ?v37) rfl (by kernel_rfl) (by kernel_rfl) (by kernel_rfl) (fun _ _ _ h => h) (Or.inl ⟨by rfl, ?hy37⟩) (by assumption) ?rest37
    case hy37 => (intro w hSw; (try go_simp); try with_reducible rfl)
    try simp only [Act.put, List.getElem_toArray, List.getElem_cons_zero, List.getElem_cons_succ, List.setIfInBounds_toArray, List.set_cons_zero, List.set_cons_succ]
    refine wpAnyH_ready (rs := [15]) (by kernel_rfl) (by simp) ?_
    refine AllReadyH.cons rfl (fun K hK => ?_) AllReadyH.nil
    go_simp
    refine (HN23.out _).mono ?_
    rintro e Wn ⟨rfl, hWn⟩
    have HR := hide (hWn ▸ HR.out)
    clear hWn
    refine hK.out _ _ (trivial) (fun hHeld => ?_)
    clear hK K
    refine wpAnyH_take (i := 16) (v := ?v38) rfl (by kernel_rfl) (by kernel_rfl) (by kernel_rfl) (fun _ _ _ h => h) (Or.inl ⟨by rfl, ?hy38⟩) (by assumption) ?rest38
    case hy38 => (intro w hSw; (try go_simp); try with_reducible rfl)
    try simp only [Act.put, List.getElem_toArray, List.getElem_cons_zero, List.getElem_cons_succ, List.setIfInBounds_toArray, List.set_cons_zero, List.set_cons_succ]
    refine wpAnyH_ready (rs := [19]) (by kernel_rfl) (by simp) ?_
    refine AllReadyH.cons rfl (fun K hK => ?_) AllReadyH.nil
    go_simp
    refine (HN25.out _).mono ?_
    rintro e Wn ⟨rfl, hWn⟩
    have HR := hide (hWn ▸ HR.out)
    clear hWn
    refine hK.out _ _ (trivial) (fun hHeld => ?_)
    clear hK K
    refine wpAnyH_take (i := 20) (v := ?v39) rfl (by kernel_rfl) (by kernel_rfl) (by kernel_rfl) (fun _ _ _ h => h) (Or.inl ⟨by rfl, ?hy39⟩) (by assumption) ?rest39
    case hy39 => (intro w hSw; (try go_simp); try with_reducible rfl)
    try simp only [Act.put, List.getElem_toArray, List.getElem_cons_zero, List.getElem_cons_succ, List.setIfInBounds_toArray, List.set_cons_zero, List.set_cons_succ]
    refine wpAnyH_ready (rs := [23]) (by kernel_rfl) (by simp) ?_
    refine AllReadyH.cons rfl (fun K hK => ?_) AllReadyH.nil
    go_simp
    refine (HS29.out _).mono ?_
    rintro e Wn ⟨rfl, hbn⟩
    have hfn := Frm.of_below (S := fun _ => False) hbn
    have HR := hide (HR.out.frm hfn)
    clear hbn hfn
    refine hK.out _ _ (trivial) (fun hHeld => ?_)
    clear hK K
    refine wpAnyH_ready (rs := [26]) (by kernel_rfl) (by simp) ?_
    refine AllReadyH.cons rfl (fun K hK => ?_) AllReadyH.nil
    go_simp
    refine (HS45.out _).mono ?_
    rintro e Wn ⟨rfl, hbn⟩
    have hfn := Frm.of_below (S := fun _ => False) hbn
    have HR := hide (HR.out.frm hfn)
    clear hbn hfn
    refine hK.out _ _ (trivial) (fun hHeld => ?_)
    clear hK K
    refine wpAnyH_take (i := 27) (v := .agg (slotC ⟨kb, 0, 0, who, epoch, nonce, mac, lo, hi, delay⟩).toArray) rfl (by kernel_rfl) (by kernel_rfl) (by kernel_rfl) (fun _ _ _ h => h) (Or.inl ⟨by rfl, ?hy40⟩) (by assumption) ?rest40
    case hy40 => (intro w hSw; exact held_build _ _ rfl _ _ (hbd w) rfl)
    try simp only [Act.put, List.getElem_toArray, List.getElem_cons_zero, List.getElem_cons_succ, List.setIfInBounds_toArray, List.set_cons_zero, List.set_cons_succ]
    exact key _ g4 HR.out

  rintro W1 g4 hA
  have HA0 := hide hA
  clear hA
  generalize hSS : slotC ⟨kb, 0, 0, who, epoch, nonce, mac, lo, hi, delay⟩ = SS at *
  have HSS := hide hSS
  clear hSS
  have hHeld : True := trivial
  refine wpAnyH_ready (rs := [29]) (by kernel_rfl) (by simp) ?_
  refine AllReadyH.cons rfl (fun K hK => ?_) AllReadyH.nil
  refine step_storea aggS rfl (.tmp 4) (.tmp 34) rfl g4 SS rfl rfl _ _ HA0.out.b4 HSL.out slot0_len HSO.out ?_
  intro W2 hBS hFS
  refine hK.out _ _ (trivial) (fun hHeld => ?_)
  clear hK K
  refine wpAnyH_done (by kernel_rfl) ?_ _
  clear hHeld

  have HA1 : Hid (RefAt w g2 g4 ⟨kb, 0, 0, who, epoch, nonce, mac, lo, hi, delay⟩ W2) := by
    refine ⟨HA0.out.b2.frm hFS HA0.out.ne.1, ?_, below_frm HA0.out.bel hFS HA0.out.bel.size (fun k hk => by have := HA0.out.ne; omega), HA0.out.ne⟩
    rw [HSS.out]
    exact hBS
  clear hBS hFS HA0
  go_wp2_with fail
  refine (HN1.out W2).mono ?_
  rintro e w5 ⟨rfl, rfl⟩
  obtain ⟨c0, c1, c2, _⟩ := (show _ ∧ _ ∧ _ ∧ True from ⟨HA1.out.b4.cell 0, HA1.out.b4.cell 1, HA1.out.b4.cell 2, trivial⟩)
  have hfz : ∀ i, W2.frozen? ⟨g4, i, none⟩ = false := HA1.out.b4.frozen
  have hs0 : (⟨kb, 0, 0, who, epoch, nonce, mac, lo, hi, delay⟩ : Slot).nonce.length = 16 := hN16.out
  simp only [slotC, List.getElem?_toArray, List.getElem?_cons_zero, List.getElem?_cons_succ] at c0 c1 c2
  cases kb
  · have hk1 : ¬ k = 1 := by intro h; subst h; simp at hkb
    have HDD : Hid (D = ⟨false, to, 0, who, epoch, nonce, mac, lo, hi, delay⟩) := by show _ = _; rw [HD.out]; simp only [decide_eq_false hk1, if_neg hk1]
    have HA2 : Hid (RefAt w g2 g4 D (W2.setCell ⟨g4, 1, none⟩ (.int .u16 (to : Int)))) := by
      have hf : Frm (fun k => k = g4) W2 (W2.setCell ⟨g4, 1, none⟩ (.int .u16 (to : Int))) := Frm.setCell _ ⟨g4, 1, none⟩ _ (fun k => k = g4) rfl
      refine ⟨HA1.out.b2.frm hf HA1.out.ne.1, ?_, below_frm HA1.out.bel hf HA1.out.bel.size (fun k hk => by have := HA1.out.ne; omega), HA1.out.ne⟩
      rw [HDD.out]
      exact HA1.out.b4.setL 1 _
    have hB3 := HA2.out.b4
    go_wp2_with (with_reducible refine wpl_loada (op := ⟨some 46, _, _, _, _, _⟩) aggS rfl _ rfl g4 0 rfl _ _ (slotC D) hB3 (by rw [List.drop_zero, List.take_of_length_le (by rw [HDL.out]; exact Nat.le_refl _)]) (by rw [HDL.out]; exact Nat.le_refl _) ?_)
    clear HDD HD HA1 c0 c1 c2 hfz hs0 hkb hk1 hB3
    generalize W2.setCell ⟨g4, 1, none⟩ (.int .u16 (to : Int)) = W3 at *
    refine (HRR.out W3).mono ?_
    rintro e w6 ⟨rfl, hb6⟩
    have HA3 := hide (HA2.out.frm (Frm.of_below hb6))
    clear hb6 HA2 HRR
    go_wp2_with fail
    obtain ⟨N, hN⟩ : ∃ N, N = w6.heap.size := ⟨_, rfl⟩
    have h6 : Below N w6 w6 := hN ▸ Below.refl _ _
    have HA4 : Hid (∀ W', Below N w6 W' → RefAt w g2 g4 D W') := fun W' h => HA3.out.frm (Frm.of_below (hN ▸ h))
    have HZ : ∀ W', Below N w6 W' → Calls Try.prog 29 #[.int .i64 3] W' (fun e w'' => e = .returned (.string ⟨(List.replicate 3 (0 : UInt8)).toArray⟩) ∧ Below N w6 w'') :=
      fun W' h => (zerosref_any 3 W' (by omega) (by omega)).mono (fun e w'' ⟨he, hb⟩ => ⟨he, hb ▸ h⟩)
    clear hN HA3
    have HZL : Hid ((List.replicate 3 (0 : UInt8)) = [0, 0, 0]) := rfl
    generalize hzz : (List.replicate 3 (0 : UInt8)) = ZZ at *
    have hbz := HBZ.out ZZ
    refine wp_region_class (fun W' => Below N w6 W') (by kernel_rfl) (by kernel_rfl) (below_drewN h6 1) ?_
    by_cases hk2 : 1 < k
    · have HOK2 : Hid (OK = false) := by show _ = _; rw [HOK.out, decide_eq_false (by omega)]; rfl
      have hd : decide (1 < k) = true := decide_eq_true hk2
      have hd' : (1 : Int) < (k : Int) := by omega
      with_reducible refine wpQuiet_step ?_
      intro K hK
      go_simp
      first | (refine hK _ ?_; clear hK K) | (refine ⟨_, fun w' hw' => rfl, hK _ ?_⟩; clear hK K)
      with_reducible refine wpQuiet_step ?_
      intro K hK
      go_simp
      first | (refine hK _ ?_; clear hK K) | (refine ⟨_, fun w' hw' => rfl, hK _ ?_⟩; clear hK K)
      with_reducible refine wpQuiet_step ?_
      intro K hK
      go_simp
      first | (refine hK _ ?_; clear hK K) | (refine ⟨_, fun w' hw' => rfl, hK _ ?_⟩; clear hK K)
      with_reducible refine wpQuiet_step ?_
      intro K hK
      go_simp
      first | (refine hK _ ?_; clear hK K) | (refine ⟨_, fun w' hw' => rfl, hK _ ?_⟩; clear hK K)
      with_reducible refine wpQuiet_step ?_
      intro K hK
      go_simp
      refine hK _ ?_
      clear hK K
      with_reducible refine wpQuiet_step ?_
      intro K hK
      go_simp
      refine hK _ ?_
      clear hK K
      with_reducible refine wpQuiet_step ?_
      intro K hK
      go_simp
      refine hK _ ?_
      clear hK K
      with_reducible refine wpQuiet_step ?_
      intro K hK
      go_simp
      refine hK _ ?_
      clear hK K
      with_reducible refine wpQuiet_step ?_
      intro K hK
      go_simp
      first | (refine hK _ ?_; clear hK K) | (refine ⟨_, fun w' hw' => rfl, hK _ ?_⟩; clear hK K)
      with_reducible refine wpQuiet_step ?_
      intro K hK
      go_simp
      first | (refine hK _ ?_; clear hK K) | (refine ⟨_, fun w' hw' => rfl, hK _ ?_⟩; clear hK K)
      with_reducible refine wpQuiet_step ?_
      intro K hK
      go_simp
      refine hK _ ?_
      clear hK K
      with_reducible refine wpQuiet_step ?_
      intro K hK
      go_simp
      refine hK _ ?_
      clear hK K
      with_reducible refine wpQuiet_step ?_
      intro K hK
      go_simp
      first | (refine hK _ ?_; clear hK K) | (refine ⟨_, fun w' hw' => rfl, hK _ ?_⟩; clear hK K)
      refine wpQuiet_nil ?_
      intro w7 hw7
      have ha : ANS = slot0 := by rw [HA.out, HOK2.out]; rfl
      have he : ERRD = 3 := by rw [HE.out, HOK2.out]; rfl
      subst ha he
      clear HA HE HOK HOK2
      have hbd0 := build_slot0
      have HA5 := hide (HA4.out w7 hw7)
      have hB25 := HA5.out.b2
      go_wp2_with (first
        | (refine wpl_held (op := ⟨some 61, _, _, _, _, _⟩) (.agg (slotC slot0).toArray) (held_build _ _ rfl _ _ (hbd0 _) rfl) rfl ?_)
        | ((with_reducible refine wpl_storea aggS rfl (.tmp 2) (.tmp 61) rfl g2 (slotC slot0) rfl rfl _ _ hB25 HAL.out slot0_len HAO.out ?_); intro w9 hB9 hF9))
      refine bodyPost_ret (results_ct aggS rfl _ _ g2 _ _ rfl hB9 HAL.out) rfl ⟨rfl, ?_⟩
      exact below_frm HA5.out.bel hF9 HA5.out.bel.size (fun k hk => by have := HA5.out.ne; omega)
    · have hd : decide (1 < k) = false := decide_eq_false hk2
      have hd' : ¬ (1 : Int) < (k : Int) := by omega
      generalize hb7 : (X61 == ZZ) = bz at *
      cases bz
      · have HOK2 : Hid (OK = false) := by show _ = _; rw [HOK.out, Bool.false_and, Bool.and_false]
        with_reducible refine wpQuiet_step ?_
        intro K hK
        go_simp
        first | (refine hK _ ?_; clear hK K) | (refine ⟨_, fun w' hw' => rfl, hK _ ?_⟩; clear hK K)
        with_reducible refine wpQuiet_step ?_
        intro K hK
        go_simp
        first | (refine hK _ ?_; clear hK K) | (refine ⟨_, fun w' hw' => rfl, hK _ ?_⟩; clear hK K)
        with_reducible refine wpQuiet_step ?_
        intro K hK
        go_simp
        first | (refine hK _ ?_; clear hK K) | (refine ⟨_, fun w' hw' => rfl, hK _ ?_⟩; clear hK K)
        with_reducible refine wpQuiet_step ?_
        intro K hK
        go_simp
        first | (refine hK _ ?_; clear hK K) | (refine ⟨_, fun w' hw' => rfl, hK _ ?_⟩; clear hK K)
        with_reducible refine wpQuiet_step ?_
        intro K hK
        go_simp
        first | (refine hK _ ?_; clear hK K) | (refine ⟨_, fun w' hw' => rfl, hK _ ?_⟩; clear hK K)
        with_reducible refine wpQuiet_step ?_
        intro K hK
        go_simp
        first | (refine hK _ ?_; clear hK K) | (refine ⟨_, fun w' hw' => rfl, hK _ ?_⟩; clear hK K)
        with_reducible refine wpQuiet_step ?_
        intro K hK
        go_simp
        refine ⟨_, HZ, hK _ ?_⟩
        clear hK K
        with_reducible refine wpQuiet_step ?_
        intro K hK
        go_simp
        first | (refine hK _ ?_; clear hK K) | (refine ⟨_, fun w' hw' => rfl, hK _ ?_⟩; clear hK K)
        with_reducible refine wpQuiet_step ?_
        intro K hK
        go_simp
        first | (refine hK _ ?_; clear hK K) | (refine ⟨_, fun w' hw' => rfl, hK _ ?_⟩; clear hK K)
        with_reducible refine wpQuiet_step ?_
        intro K hK
        go_simp
        first | (refine hK _ ?_; clear hK K) | (refine ⟨_, fun w' hw' => rfl, hK _ ?_⟩; clear hK K)
        with_reducible refine wpQuiet_step ?_
        intro K hK
        go_simp
        refine hK _ ?_
        clear hK K
        with_reducible refine wpQuiet_step ?_
        intro K hK
        go_simp
        refine hK _ ?_
        clear hK K
        with_reducible refine wpQuiet_step ?_
        intro K hK
        go_simp
        first | (refine hK _ ?_; clear hK K) | (refine ⟨_, fun w' hw' => rfl, hK _ ?_⟩; clear hK K)
        refine wpQuiet_nil ?_
        intro w7 hw7
        have ha : ANS = slot0 := by rw [HA.out, HOK2.out]; rfl
        have he : ERRD = 3 := by rw [HE.out, HOK2.out]; rfl
        subst ha he
        clear HA HE HOK HOK2
        have hbd0 := build_slot0
        have HA5 := hide (HA4.out w7 hw7)
        have hB25 := HA5.out.b2
        go_wp2_with (first
          | (refine wpl_held (op := ⟨some 61, _, _, _, _, _⟩) (.agg (slotC slot0).toArray) (held_build _ _ rfl _ _ (hbd0 _) rfl) rfl ?_)
          | ((with_reducible refine wpl_storea aggS rfl (.tmp 2) (.tmp 61) rfl g2 (slotC slot0) rfl rfl _ _ hB25 HAL.out slot0_len HAO.out ?_); intro w9 hB9 hF9))
        refine bodyPost_ret (results_ct aggS rfl _ _ g2 _ _ rfl hB9 HAL.out) rfl ⟨rfl, ?_⟩
        exact below_frm HA5.out.bel hF9 HA5.out.bel.size (fun k hk => by have := HA5.out.ne; omega)
      · generalize rightB D = R at *
        cases R
        · have HOK2 : Hid (OK = false) := by show _ = _; rw [HOK.out, Bool.and_false, Bool.and_false]
          with_reducible refine wpQuiet_step ?_
          intro K hK
          go_simp
          first | (refine hK _ ?_; clear hK K) | (refine ⟨_, fun w' hw' => rfl, hK _ ?_⟩; clear hK K)
          with_reducible refine wpQuiet_step ?_
          intro K hK
          go_simp
          first | (refine hK _ ?_; clear hK K) | (refine ⟨_, fun w' hw' => rfl, hK _ ?_⟩; clear hK K)
          with_reducible refine wpQuiet_step ?_
          intro K hK
          go_simp
          first | (refine hK _ ?_; clear hK K) | (refine ⟨_, fun w' hw' => rfl, hK _ ?_⟩; clear hK K)
          with_reducible refine wpQuiet_step ?_
          intro K hK
          go_simp
          first | (refine hK _ ?_; clear hK K) | (refine ⟨_, fun w' hw' => rfl, hK _ ?_⟩; clear hK K)
          with_reducible refine wpQuiet_step ?_
          intro K hK
          go_simp
          first | (refine hK _ ?_; clear hK K) | (refine ⟨_, fun w' hw' => rfl, hK _ ?_⟩; clear hK K)
          with_reducible refine wpQuiet_step ?_
          intro K hK
          go_simp
          first | (refine hK _ ?_; clear hK K) | (refine ⟨_, fun w' hw' => rfl, hK _ ?_⟩; clear hK K)
          with_reducible refine wpQuiet_step ?_
          intro K hK
          go_simp
          refine ⟨_, HZ, hK _ ?_⟩
          clear hK K
          with_reducible refine wpQuiet_step ?_
          intro K hK
          go_simp
          first | (refine hK _ ?_; clear hK K) | (refine ⟨_, fun w' hw' => rfl, hK _ ?_⟩; clear hK K)
          with_reducible refine wpQuiet_step ?_
          intro K hK
          go_simp
          first | (refine hK _ ?_; clear hK K) | (refine ⟨_, fun w' hw' => rfl, hK _ ?_⟩; clear hK K)
          with_reducible refine wpQuiet_step ?_
          intro K hK
          go_simp
          first | (refine hK _ ?_; clear hK K) | (refine ⟨_, fun w' hw' => rfl, hK _ ?_⟩; clear hK K)
          with_reducible refine wpQuiet_step ?_
          intro K hK
          go_simp
          first | (refine hK _ ?_; clear hK K) | (refine ⟨_, fun w' hw' => rfl, hK _ ?_⟩; clear hK K)
          with_reducible refine wpQuiet_step ?_
          intro K hK
          go_simp
          first | (refine hK _ ?_; clear hK K) | (refine ⟨_, fun w' hw' => rfl, hK _ ?_⟩; clear hK K)
          with_reducible refine wpQuiet_step ?_
          intro K hK
          go_simp
          first | (refine hK _ ?_; clear hK K) | (refine ⟨_, fun w' hw' => rfl, hK _ ?_⟩; clear hK K)
          refine wpQuiet_nil ?_
          intro w7 hw7
          have ha : ANS = slot0 := by rw [HA.out, HOK2.out]; rfl
          have he : ERRD = 3 := by rw [HE.out, HOK2.out]; rfl
          subst ha he
          clear HA HE HOK HOK2
          have hbd0 := build_slot0
          have HA5 := hide (HA4.out w7 hw7)
          have hB25 := HA5.out.b2
          go_wp2_with (first
            | (refine wpl_held (op := ⟨some 61, _, _, _, _, _⟩) (.agg (slotC slot0).toArray) (held_build _ _ rfl _ _ (hbd0 _) rfl) rfl ?_)
            | ((with_reducible refine wpl_storea aggS rfl (.tmp 2) (.tmp 61) rfl g2 (slotC slot0) rfl rfl _ _ hB25 HAL.out slot0_len HAO.out ?_); intro w9 hB9 hF9))
          refine bodyPost_ret (results_ct aggS rfl _ _ g2 _ _ rfl hB9 HAL.out) rfl ⟨rfl, ?_⟩
          exact below_frm HA5.out.bel hF9 HA5.out.bel.size (fun k hk => by have := HA5.out.ne; omega)
        · have HOK2 : Hid (OK = true) := by show _ = _; rw [HOK.out, decide_eq_true (by omega)]; rfl
          with_reducible refine wpQuiet_step ?_
          intro K hK
          go_simp
          first | (refine hK _ ?_; clear hK K) | (refine ⟨_, fun w' hw' => rfl, hK _ ?_⟩; clear hK K)
          with_reducible refine wpQuiet_step ?_
          intro K hK
          go_simp
          first | (refine hK _ ?_; clear hK K) | (refine ⟨_, fun w' hw' => rfl, hK _ ?_⟩; clear hK K)
          with_reducible refine wpQuiet_step ?_
          intro K hK
          go_simp
          first | (refine hK _ ?_; clear hK K) | (refine ⟨_, fun w' hw' => rfl, hK _ ?_⟩; clear hK K)
          with_reducible refine wpQuiet_step ?_
          intro K hK
          go_simp
          first | (refine hK _ ?_; clear hK K) | (refine ⟨_, fun w' hw' => rfl, hK _ ?_⟩; clear hK K)
          with_reducible refine wpQuiet_step ?_
          intro K hK
          go_simp
          first | (refine hK _ ?_; clear hK K) | (refine ⟨_, fun w' hw' => rfl, hK _ ?_⟩; clear hK K)
          with_reducible refine wpQuiet_step ?_
          intro K hK
          go_simp
          first | (refine hK _ ?_; clear hK K) | (refine ⟨_, fun w' hw' => rfl, hK _ ?_⟩; clear hK K)
          with_reducible refine wpQuiet_step ?_
          intro K hK
          go_simp
          refine ⟨_, HZ, hK _ ?_⟩
          clear hK K
          with_reducible refine wpQuiet_step ?_
          intro K hK
          go_simp
          first | (refine hK _ ?_; clear hK K) | (refine ⟨_, fun w' hw' => rfl, hK _ ?_⟩; clear hK K)
          with_reducible refine wpQuiet_step ?_
          intro K hK
          go_simp
          first | (refine hK _ ?_; clear hK K) | (refine ⟨_, fun w' hw' => rfl, hK _ ?_⟩; clear hK K)
          with_reducible refine wpQuiet_step ?_
          intro K hK
          go_simp
          first | (refine hK _ ?_; clear hK K) | (refine ⟨_, fun w' hw' => rfl, hK _ ?_⟩; clear hK K)
          with_reducible refine wpQuiet_step ?_
          intro K hK
          go_simp
          first | (refine hK _ ?_; clear hK K) | (refine ⟨_, fun w' hw' => rfl, hK _ ?_⟩; clear hK K)
          with_reducible refine wpQuiet_step ?_
          intro K hK
          go_simp
          first | (refine hK _ ?_; clear hK K) | (refine ⟨_, fun w' hw' => rfl, hK _ ?_⟩; clear hK K)
          with_reducible refine wpQuiet_step ?_
          intro K hK
          go_simp
          first | (refine hK _ ?_; clear hK K) | (refine ⟨_, fun w' hw' => rfl, hK _ ?_⟩; clear hK K)
          refine wpQuiet_nil ?_
          intro w7 hw7
          have ha : ANS = D := by rw [HA.out, HOK2.out]; rfl
          have he : ERRD = 0 := by rw [HE.out, HOK2.out]; rfl
          subst ha he
          clear HA HE HOK HOK2
          have HA5 := hide (HA4.out w7 hw7)
          have hB5 := HA5.out.b4
          have hB25 := HA5.out.b2
          go_wp2_with (first
            | (with_reducible refine wpl_loada (op := ⟨some 62, _, _, _, _, _⟩) aggS rfl _ rfl g4 0 rfl _ _ (slotC ANS) hB5 (by rw [List.drop_zero, List.take_of_length_le (by rw [HAL.out]; exact Nat.le_refl _)]) (by rw [HAL.out]; exact Nat.le_refl _) ?_)
            | ((with_reducible refine wpl_storea aggS rfl (.tmp 2) (.tmp 62) rfl g2 (slotC ANS) rfl rfl _ _ hB25 HAL.out slot0_len HAO.out ?_); intro w9 hB9 hF9))
          refine bodyPost_ret (results_ct aggS rfl _ _ g2 _ _ rfl hB9 HAL.out) rfl ⟨rfl, ?_⟩
          exact below_frm HA5.out.bel hF9 HA5.out.bel.size (fun k hk => by have := HA5.out.ne; omega)
  · have hk1 : k = 1 := by have h : (k : Int) = 1 := by simpa using hkb
                           omega
    have HDD : Hid (D = ⟨true, 0, to, who, epoch, nonce, mac, lo, hi, delay⟩) := by show _ = _; rw [HD.out]; simp only [decide_eq_true hk1, if_pos hk1]
    have HA2 : Hid (RefAt w g2 g4 D (W2.setCell ⟨g4, 2, none⟩ (.int .u16 (to : Int)))) := by
      have hf : Frm (fun k => k = g4) W2 (W2.setCell ⟨g4, 2, none⟩ (.int .u16 (to : Int))) := Frm.setCell _ ⟨g4, 2, none⟩ _ (fun k => k = g4) rfl
      refine ⟨HA1.out.b2.frm hf HA1.out.ne.1, ?_, below_frm HA1.out.bel hf HA1.out.bel.size (fun k hk => by have := HA1.out.ne; omega), HA1.out.ne⟩
      rw [HDD.out]
      exact HA1.out.b4.setL 2 _
    have HK1 := hide hk1
    have hB3 := HA2.out.b4
    go_wp2_with (with_reducible refine wpl_loada (op := ⟨some 46, _, _, _, _, _⟩) aggS rfl _ rfl g4 0 rfl _ _ (slotC D) hB3 (by rw [List.drop_zero, List.take_of_length_le (by rw [HDL.out]; exact Nat.le_refl _)]) (by rw [HDL.out]; exact Nat.le_refl _) ?_)
    clear HDD HD HA1 c0 c1 c2 hfz hs0 hkb hk1 hB3
    generalize W2.setCell ⟨g4, 2, none⟩ (.int .u16 (to : Int)) = W3 at *
    refine (HRR.out W3).mono ?_
    rintro e w6 ⟨rfl, hb6⟩
    have HA3 := hide (HA2.out.frm (Frm.of_below hb6))
    clear hb6 HA2 HRR
    go_wp2_with fail
    obtain ⟨N, hN⟩ : ∃ N, N = w6.heap.size := ⟨_, rfl⟩
    have h6 : Below N w6 w6 := hN ▸ Below.refl _ _
    have HA4 : Hid (∀ W', Below N w6 W' → RefAt w g2 g4 D W') := fun W' h => HA3.out.frm (Frm.of_below (hN ▸ h))
    have HZ : ∀ W', Below N w6 W' → Calls Try.prog 29 #[.int .i64 3] W' (fun e w'' => e = .returned (.string ⟨(List.replicate 3 (0 : UInt8)).toArray⟩) ∧ Below N w6 w'') :=
      fun W' h => (zerosref_any 3 W' (by omega) (by omega)).mono (fun e w'' ⟨he, hb⟩ => ⟨he, hb ▸ h⟩)
    clear hN HA3
    have HZL : Hid ((List.replicate 3 (0 : UInt8)) = [0, 0, 0]) := rfl
    generalize hzz : (List.replicate 3 (0 : UInt8)) = ZZ at *
    have hbz := HBZ.out ZZ
    refine wp_region_class (fun W' => Below N w6 W') (by kernel_rfl) (by kernel_rfl) (below_drewN h6 1) ?_
    have hk2 : ¬ 1 < k := by have := HK1.out; omega
    have hd : decide (1 < k) = false := decide_eq_false hk2
    have hd' : ¬ (1 : Int) < (k : Int) := by omega
    generalize hb7 : (X61 == ZZ) = bz at *
    cases bz
    · have HOK2 : Hid (OK = false) := by show _ = _; rw [HOK.out, Bool.false_and, Bool.and_false]
      with_reducible refine wpQuiet_step ?_
      intro K hK
      go_simp
      first | (refine hK _ ?_; clear hK K) | (refine ⟨_, fun w' hw' => rfl, hK _ ?_⟩; clear hK K)
      with_reducible refine wpQuiet_step ?_
      intro K hK
      go_simp
      first | (refine hK _ ?_; clear hK K) | (refine ⟨_, fun w' hw' => rfl, hK _ ?_⟩; clear hK K)
      with_reducible refine wpQuiet_step ?_
      intro K hK
      go_simp
      first | (refine hK _ ?_; clear hK K) | (refine ⟨_, fun w' hw' => rfl, hK _ ?_⟩; clear hK K)
      with_reducible refine wpQuiet_step ?_
      intro K hK
      go_simp
      first | (refine hK _ ?_; clear hK K) | (refine ⟨_, fun w' hw' => rfl, hK _ ?_⟩; clear hK K)
      with_reducible refine wpQuiet_step ?_
      intro K hK
      go_simp
      first | (refine hK _ ?_; clear hK K) | (refine ⟨_, fun w' hw' => rfl, hK _ ?_⟩; clear hK K)
      with_reducible refine wpQuiet_step ?_
      intro K hK
      go_simp
      first | (refine hK _ ?_; clear hK K) | (refine ⟨_, fun w' hw' => rfl, hK _ ?_⟩; clear hK K)
      with_reducible refine wpQuiet_step ?_
      intro K hK
      go_simp
      refine ⟨_, HZ, hK _ ?_⟩
      clear hK K
      with_reducible refine wpQuiet_step ?_
      intro K hK
      go_simp
      first | (refine hK _ ?_; clear hK K) | (refine ⟨_, fun w' hw' => rfl, hK _ ?_⟩; clear hK K)
      with_reducible refine wpQuiet_step ?_
      intro K hK
      go_simp
      first | (refine hK _ ?_; clear hK K) | (refine ⟨_, fun w' hw' => rfl, hK _ ?_⟩; clear hK K)
      with_reducible refine wpQuiet_step ?_
      intro K hK
      go_simp
      first | (refine hK _ ?_; clear hK K) | (refine ⟨_, fun w' hw' => rfl, hK _ ?_⟩; clear hK K)
      with_reducible refine wpQuiet_step ?_
      intro K hK
      go_simp
      refine hK _ ?_
      clear hK K
      with_reducible refine wpQuiet_step ?_
      intro K hK
      go_simp
      refine hK _ ?_
      clear hK K
      with_reducible refine wpQuiet_step ?_
      intro K hK
      go_simp
      first | (refine hK _ ?_; clear hK K) | (refine ⟨_, fun w' hw' => rfl, hK _ ?_⟩; clear hK K)
      refine wpQuiet_nil ?_
      intro w7 hw7
      have ha : ANS = slot0 := by rw [HA.out, HOK2.out]; rfl
      have he : ERRD = 3 := by rw [HE.out, HOK2.out]; rfl
      subst ha he
      clear HA HE HOK HOK2
      have hbd0 := build_slot0
      have HA5 := hide (HA4.out w7 hw7)
      have hB25 := HA5.out.b2
      go_wp2_with (first
        | (refine wpl_held (op := ⟨some 61, _, _, _, _, _⟩) (.agg (slotC slot0).toArray) (held_build _ _ rfl _ _ (hbd0 _) rfl) rfl ?_)
        | ((with_reducible refine wpl_storea aggS rfl (.tmp 2) (.tmp 61) rfl g2 (slotC slot0) rfl rfl _ _ hB25 HAL.out slot0_len HAO.out ?_); intro w9 hB9 hF9))
      refine bodyPost_ret (results_ct aggS rfl _ _ g2 _ _ rfl hB9 HAL.out) rfl ⟨rfl, ?_⟩
      exact below_frm HA5.out.bel hF9 HA5.out.bel.size (fun k hk => by have := HA5.out.ne; omega)
    · generalize rightB D = R at *
      cases R
      · have HOK2 : Hid (OK = false) := by show _ = _; rw [HOK.out, Bool.and_false, Bool.and_false]
        with_reducible refine wpQuiet_step ?_
        intro K hK
        go_simp
        first | (refine hK _ ?_; clear hK K) | (refine ⟨_, fun w' hw' => rfl, hK _ ?_⟩; clear hK K)
        with_reducible refine wpQuiet_step ?_
        intro K hK
        go_simp
        first | (refine hK _ ?_; clear hK K) | (refine ⟨_, fun w' hw' => rfl, hK _ ?_⟩; clear hK K)
        with_reducible refine wpQuiet_step ?_
        intro K hK
        go_simp
        first | (refine hK _ ?_; clear hK K) | (refine ⟨_, fun w' hw' => rfl, hK _ ?_⟩; clear hK K)
        with_reducible refine wpQuiet_step ?_
        intro K hK
        go_simp
        first | (refine hK _ ?_; clear hK K) | (refine ⟨_, fun w' hw' => rfl, hK _ ?_⟩; clear hK K)
        with_reducible refine wpQuiet_step ?_
        intro K hK
        go_simp
        first | (refine hK _ ?_; clear hK K) | (refine ⟨_, fun w' hw' => rfl, hK _ ?_⟩; clear hK K)
        with_reducible refine wpQuiet_step ?_
        intro K hK
        go_simp
        first | (refine hK _ ?_; clear hK K) | (refine ⟨_, fun w' hw' => rfl, hK _ ?_⟩; clear hK K)
        with_reducible refine wpQuiet_step ?_
        intro K hK
        go_simp
        refine ⟨_, HZ, hK _ ?_⟩
        clear hK K
        with_reducible refine wpQuiet_step ?_
        intro K hK
        go_simp
        first | (refine hK _ ?_; clear hK K) | (refine ⟨_, fun w' hw' => rfl, hK _ ?_⟩; clear hK K)
        with_reducible refine wpQuiet_step ?_
        intro K hK
        go_simp
        first | (refine hK _ ?_; clear hK K) | (refine ⟨_, fun w' hw' => rfl, hK _ ?_⟩; clear hK K)
        with_reducible refine wpQuiet_step ?_
        intro K hK
        go_simp
        first | (refine hK _ ?_; clear hK K) | (refine ⟨_, fun w' hw' => rfl, hK _ ?_⟩; clear hK K)
        with_reducible refine wpQuiet_step ?_
        intro K hK
        go_simp
        first | (refine hK _ ?_; clear hK K) | (refine ⟨_, fun w' hw' => rfl, hK _ ?_⟩; clear hK K)
        with_reducible refine wpQuiet_step ?_
        intro K hK
        go_simp
        first | (refine hK _ ?_; clear hK K) | (refine ⟨_, fun w' hw' => rfl, hK _ ?_⟩; clear hK K)
        with_reducible refine wpQuiet_step ?_
        intro K hK
        go_simp
        first | (refine hK _ ?_; clear hK K) | (refine ⟨_, fun w' hw' => rfl, hK _ ?_⟩; clear hK K)
        refine wpQuiet_nil ?_
        intro w7 hw7
        have ha : ANS = slot0 := by rw [HA.out, HOK2.out]; rfl
        have he : ERRD = 3 := by rw [HE.out, HOK2.out]; rfl
        subst ha he
        clear HA HE HOK HOK2
        have hbd0 := build_slot0
        have HA5 := hide (HA4.out w7 hw7)
        have hB25 := HA5.out.b2
        go_wp2_with (first
          | (refine wpl_held (op := ⟨some 61, _, _, _, _, _⟩) (.agg (slotC slot0).toArray) (held_build _ _ rfl _ _ (hbd0 _) rfl) rfl ?_)
          | ((with_reducible refine wpl_storea aggS rfl (.tmp 2) (.tmp 61) rfl g2 (slotC slot0) rfl rfl _ _ hB25 HAL.out slot0_len HAO.out ?_); intro w9 hB9 hF9))
        refine bodyPost_ret (results_ct aggS rfl _ _ g2 _ _ rfl hB9 HAL.out) rfl ⟨rfl, ?_⟩
        exact below_frm HA5.out.bel hF9 HA5.out.bel.size (fun k hk => by have := HA5.out.ne; omega)
      · have HOK2 : Hid (OK = true) := by show _ = _; rw [HOK.out, decide_eq_true (by omega)]; rfl
        with_reducible refine wpQuiet_step ?_
        intro K hK
        go_simp
        first | (refine hK _ ?_; clear hK K) | (refine ⟨_, fun w' hw' => rfl, hK _ ?_⟩; clear hK K)
        with_reducible refine wpQuiet_step ?_
        intro K hK
        go_simp
        first | (refine hK _ ?_; clear hK K) | (refine ⟨_, fun w' hw' => rfl, hK _ ?_⟩; clear hK K)
        with_reducible refine wpQuiet_step ?_
        intro K hK
        go_simp
        first | (refine hK _ ?_; clear hK K) | (refine ⟨_, fun w' hw' => rfl, hK _ ?_⟩; clear hK K)
        with_reducible refine wpQuiet_step ?_
        intro K hK
        go_simp
        first | (refine hK _ ?_; clear hK K) | (refine ⟨_, fun w' hw' => rfl, hK _ ?_⟩; clear hK K)
        with_reducible refine wpQuiet_step ?_
        intro K hK
        go_simp
        first | (refine hK _ ?_; clear hK K) | (refine ⟨_, fun w' hw' => rfl, hK _ ?_⟩; clear hK K)
        with_reducible refine wpQuiet_step ?_
        intro K hK
        go_simp
        first | (refine hK _ ?_; clear hK K) | (refine ⟨_, fun w' hw' => rfl, hK _ ?_⟩; clear hK K)
        with_reducible refine wpQuiet_step ?_
        intro K hK
        go_simp
        refine ⟨_, HZ, hK _ ?_⟩
        clear hK K
        with_reducible refine wpQuiet_step ?_
        intro K hK
        go_simp
        first | (refine hK _ ?_; clear hK K) | (refine ⟨_, fun w' hw' => rfl, hK _ ?_⟩; clear hK K)
        with_reducible refine wpQuiet_step ?_
        intro K hK
        go_simp
        first | (refine hK _ ?_; clear hK K) | (refine ⟨_, fun w' hw' => rfl, hK _ ?_⟩; clear hK K)
        with_reducible refine wpQuiet_step ?_
        intro K hK
        go_simp
        first | (refine hK _ ?_; clear hK K) | (refine ⟨_, fun w' hw' => rfl, hK _ ?_⟩; clear hK K)
        with_reducible refine wpQuiet_step ?_
        intro K hK
        go_simp
        first | (refine hK _ ?_; clear hK K) | (refine ⟨_, fun w' hw' => rfl, hK _ ?_⟩; clear hK K)
        with_reducible refine wpQuiet_step ?_
        intro K hK
        go_simp
        first | (refine hK _ ?_; clear hK K) | (refine ⟨_, fun w' hw' => rfl, hK _ ?_⟩; clear hK K)
        with_reducible refine wpQuiet_step ?_
        intro K hK
        go_simp
        first | (refine hK _ ?_; clear hK K) | (refine ⟨_, fun w' hw' => rfl, hK _ ?_⟩; clear hK K)
        refine wpQuiet_nil ?_
        intro w7 hw7
        have ha : ANS = D := by rw [HA.out, HOK2.out]; rfl
        have he : ERRD = 0 := by rw [HE.out, HOK2.out]; rfl
        subst ha he
        clear HA HE HOK HOK2
        have HA5 := hide (HA4.out w7 hw7)
        have hB5 := HA5.out.b4
        have hB25 := HA5.out.b2
        go_wp2_with (first
          | (with_reducible refine wpl_loada (op := ⟨some 62, _, _, _, _, _⟩) aggS rfl _ rfl g4 0 rfl _ _ (slotC ANS) hB5 (by rw [List.drop_zero, List.take_of_length_le (by rw [HAL.out]; exact Nat.le_refl _)]) (by rw [HAL.out]; exact Nat.le_refl _) ?_)
          | ((with_reducible refine wpl_storea aggS rfl (.tmp 2) (.tmp 62) rfl g2 (slotC ANS) rfl rfl _ _ hB25 HAL.out slot0_len HAO.out ?_); intro w9 hB9 hF9))
        refine bodyPost_ret (results_ct aggS rfl _ _ g2 _ _ rfl hB9 HAL.out) rfl ⟨rfl, ?_⟩
        exact below_frm HA5.out.bel hF9 HA5.out.bel.size (fun k hk => by have := HA5.out.ne; omega)
end Go.Proofs.Ytedodbejbkdplaa
