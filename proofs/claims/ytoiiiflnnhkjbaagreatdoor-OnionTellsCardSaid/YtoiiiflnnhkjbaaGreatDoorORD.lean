/-
  The document's ChaCha20.
-/
import Derived.Test.YtoiiiflnnhkjbaaGreatDoorHp
import Derived.Test.YtoiiiflnnhkjbaaGreatDoorOChB
import Derived.Test.YtoiiiflnnhkjbaaGreatDoorORA
import Derived.Deep.RegionHeld
namespace Go.Proofs.YtoiiiflnnhkjbaaGreatDoor
set_option linter.unusedVariables false
open Go.RowKit

theorem left_eq (x k : Nat) (hx : x < 4294967296) (h1 : 1 ≤ k) (h2 : k ≤ 31) : x * 2 ^ k % 4294967296 + x / 2 ^ (32 - k) = leftN x k := by
  have hp : (4294967296 : Nat) = 2 ^ (32 - k) * 2 ^ k := by rw [← Nat.pow_add, show 32 - k + k = 32 by omega]
  have h3 : x / 2 ^ (32 - k) < 2 ^ k := by
    rw [Nat.div_lt_iff_lt_mul (Nat.two_pow_pos _), Nat.mul_comm, ← hp]
    exact hx
  have h4 : x * 2 ^ k % 4294967296 = (x % 2 ^ (32 - k)) * 2 ^ k := by rw [hp, Nat.mul_mod_mul_right]
  rw [leftN, rotN, show 32 - (32 - k) = k by omega, h4]
  exact (Nat.shiftLeft_eq _ _ ▸ Nat.shiftLeft_add_eq_or_of_lt h3 (x % 2 ^ (32 - k)) : _)
set_option maxRecDepth 100000 in
set_option maxHeartbeats 2000000 in
theorem cleft_any (x k : Nat) (w : World) (hx : x < 4294967296) (h1 : 1 ≤ k) (h2 : k ≤ 31) :
    Calls Tryz.prog 110 #[.int .u32 (x : Int), .int .i64 (k : Int)] w fun e w' => e = .returned (.int .u32 (leftN x k : Nat)) ∧ ∃ q, w' = w.drewN q := by
  obtain ⟨p, hp⟩ : ∃ p : Nat, p = 2 ^ k := ⟨_, rfl⟩
  obtain ⟨q, hq⟩ : ∃ q : Nat, q = 2 ^ (32 - k) := ⟨_, rfl⟩
  have hpl : p < 4294967296 := by
    rw [hp]
    have : (2 : Nat) ^ k ≤ 2 ^ 31 := Nat.pow_le_pow_right (by omega) h2
    omega
  have hql : q < 4294967296 := by
    rw [hq]
    have : (2 : Nat) ^ (32 - k) ≤ 2 ^ 31 := Nat.pow_le_pow_right (by omega) (by omega)
    omega
  have hq0 : 0 < q := by rw [hq]; exact Nat.two_pow_pos _
  have f1 : IntKind.u32.wrap (2 ^ k) = (p : Int) := by
    rw [IntKind.wrap_u32', ← pow_cast, ← hp]
    omega
  have f2 : IntKind.u32.wrap (2 ^ (32 - k)) = (q : Int) := by
    rw [IntKind.wrap_u32', ← pow_cast, ← hq]
    omega
  have w1 : IntKind.i64.wrap (32 - (k : Int)) = 32 - (k : Int) := IntWalk.i64_in _ (by omega)
  obtain ⟨y, hy⟩ : ∃ y : Nat, y = x * p % 4294967296 := ⟨_, rfl⟩
  obtain ⟨z, hz⟩ : ∃ z : Nat, z = x / q := ⟨_, rfl⟩
  have w2 : IntKind.u32.wrap ((x : Int) * (p : Int)) = (y : Int) := by rw [IntKind.wrap_u32', hy]; simp
  have hzx : z ≤ x := by rw [hz]; exact Nat.div_le_self _ _
  have w3 : Int.tdiv (x : Int) (q : Int) = (z : Int) := by rw [Int.tdiv_eq_ediv_of_nonneg (by omega), hz]; rfl
  have w3' : IntKind.u32.wrap (z : Int) = (z : Int) := by rw [IntKind.wrap_u32']; omega
  have w4 : IntKind.u32.wrap ((y : Int) + (z : Int)) = (leftN x k : Nat) := by
    have h := left_eq x k hx h1 h2
    rw [← hp, ← hq, ← hy, ← hz] at h
    rw [IntKind.wrap_u32', ← h]
    have := leftN_lt (k := k) hx
    omega
  have hq0' : ¬ ((q : Int) = 0) := by omega
  generalize leftN x k = r at *
  clear hp hq hy hz hpl hql hzx hq0
  go_enter Tryz.func110, Tryz.ntmps110
  go_wp2_with fail
  go_quiet (fail)
  go_wp2
  go_ret
  exact ⟨rfl, _, rfl⟩
set_option maxRecDepth 100000 in
set_option maxHeartbeats 2000000 in
theorem rlow_any (l : List UInt8) (w : World) (hl : l.length = 4) :
    Calls Tryz.prog 92 #[.string ⟨l.toArray⟩] w fun e w' => e = .returned (.int .u32 (lowN l : Nat)) ∧ ∃ q, w' = w.drewN q := by
  match l, hl with
  | [b0, b1, b2, b3], _ =>
    have l0 := b0.toNat_lt
    have l1 := b1.toNat_lt
    have l2 := b2.toNat_lt
    have l3 := b3.toNat_lt
    have i0 : ∀ w, Sem.run Tryz.prog (Instr.index 9 (.string ⟨[b0, b1, b2, b3].toArray⟩) (.int .i64 0)) w = .ok (.int .u8 (b0.toNat : Int)) w := fun w => str_index [b0, b1, b2, b3] 0 (by simp) w
    have i1 : ∀ w, Sem.run Tryz.prog (Instr.index 9 (.string ⟨[b0, b1, b2, b3].toArray⟩) (.int .i64 1)) w = .ok (.int .u8 (b1.toNat : Int)) w := fun w => str_index [b0, b1, b2, b3] 1 (by simp) w
    have i2 : ∀ w, Sem.run Tryz.prog (Instr.index 9 (.string ⟨[b0, b1, b2, b3].toArray⟩) (.int .i64 2)) w = .ok (.int .u8 (b2.toNat : Int)) w := fun w => str_index [b0, b1, b2, b3] 2 (by simp) w
    have i3 : ∀ w, Sem.run Tryz.prog (Instr.index 9 (.string ⟨[b0, b1, b2, b3].toArray⟩) (.int .i64 3)) w = .ok (.int .u8 (b3.toNat : Int)) w := fun w => str_index [b0, b1, b2, b3] 3 (by simp) w
    have HE := hide (low_eq b0 b1 b2 b3)
    obtain ⟨r, hr⟩ : ∃ r, r = lowN [b0, b1, b2, b3] := ⟨_, rfl⟩
    rw [← hr] at HE ⊢
    obtain ⟨x1, h1⟩ : ∃ x1 : Nat, x1 = b1.toNat * 256 := ⟨_, rfl⟩
    obtain ⟨x2, h2⟩ : ∃ x2 : Nat, x2 = b0.toNat + x1 := ⟨_, rfl⟩
    obtain ⟨x3, h3⟩ : ∃ x3 : Nat, x3 = b2.toNat * 65536 := ⟨_, rfl⟩
    obtain ⟨x4, h4⟩ : ∃ x4 : Nat, x4 = x2 + x3 := ⟨_, rfl⟩
    obtain ⟨x5, h5⟩ : ∃ x5 : Nat, x5 = b3.toNat * 16777216 := ⟨_, rfl⟩
    have e1 : IntKind.u32.wrap ((b1.toNat : Int) * 256) = (x1 : Int) := by rw [IntKind.wrap_u32']; omega
    have e2 : IntKind.u32.wrap ((b0.toNat : Int) + (x1 : Int)) = (x2 : Int) := by rw [IntKind.wrap_u32']; omega
    have e3 : IntKind.u32.wrap ((b2.toNat : Int) * 65536) = (x3 : Int) := by rw [IntKind.wrap_u32']; omega
    have e4 : IntKind.u32.wrap ((x2 : Int) + (x3 : Int)) = (x4 : Int) := by rw [IntKind.wrap_u32']; omega
    have e5 : IntKind.u32.wrap ((b3.toNat : Int) * 16777216) = (x5 : Int) := by rw [IntKind.wrap_u32']; omega
    have e6 : IntKind.u32.wrap ((x4 : Int) + (x5 : Int)) = (r : Int) := by rw [IntKind.wrap_u32', HE.out]; omega
    have u0 : IntKind.u32.wrap (b0.toNat : Int) = (b0.toNat : Int) := by rw [IntKind.wrap_u32']; omega
    have u1 : IntKind.u32.wrap (b1.toNat : Int) = (b1.toNat : Int) := by rw [IntKind.wrap_u32']; omega
    have u2 : IntKind.u32.wrap (b2.toNat : Int) = (b2.toNat : Int) := by rw [IntKind.wrap_u32']; omega
    have u3 : IntKind.u32.wrap (b3.toNat : Int) = (b3.toNat : Int) := by rw [IntKind.wrap_u32']; omega
    clear h1 h2 h3 h4 h5
    generalize (⟨[b0, b1, b2, b3].toArray⟩ : ByteArray) = st at *
    generalize b0.toNat = n0 at *
    generalize b1.toNat = n1 at *
    generalize b2.toNat = n2 at *
    generalize b3.toNat = n3 at *
    clear hr HE
    go_enter Tryz.func92, Tryz.ntmps92
    go_wp2_with fail
    go_quiet (fail)
    go_wp2
    go_ret
    exact ⟨rfl, _, rfl⟩
set_option maxRecDepth 100000 in
set_option maxHeartbeats 2000000 in
theorem rturned_any (l : List UInt8) (w : World) (hl : l.length ≤ 1000) :
    Calls Tryz.prog 91 #[.string ⟨l.toArray⟩] w fun e w' => e = .returned (.string ⟨l.reverse.toArray⟩) ∧ w = w' := by
  obtain ⟨n, hn⟩ : ∃ n, n = l.length := ⟨_, rfl⟩
  have hsz : (⟨l.toArray⟩ : ByteArray).size = n := by rw [txt_size, hn]
  have HSL : Hid (∀ k, k < n → ∀ w, Sem.run Tryz.prog (Instr.sliceAt 9 (.string ⟨l.toArray⟩) (some (.int .i64 (k : Int))) (some (.int .i64 ((k : Int) + 1))) none) w = .ok (.string ⟨[l.getD k 0].toArray⟩) w) := fun k hk w => by
    have := slice_text l k (k + 1) (by omega) (by omega) w
    rw [show k + 1 - k = 1 by omega, show (l.drop k).take 1 = [l.getD k 0] by rw [List.drop_eq_getElem_cons (by omega), List.getD_eq_getElem?_getD, List.getElem?_eq_getElem (by omega)]; rfl] at this
    exact this
  have HN := hide hn
  have hn1 : n ≤ 1000 := by omega
  clear hn hl
  obtain ⟨st, hst⟩ : ∃ st, st = (⟨l.toArray⟩ : ByteArray) := ⟨_, rfl⟩
  rw [← hst] at hsz HSL ⊢
  clear hst
  go_enter Tryz.func91, Tryz.ntmps91
  go_wp2_with fail
  go_loopw [3, 4] (fun t i wr => ∃ k : Nat, k ≤ n ∧ i = .int .i64 k ∧ t = .string ⟨(l.take k).reverse.toArray⟩ ∧ w = wr) (fun _ i _ => n - (intOf i).toNat)
  case atStart => exact ⟨0, by omega, rfl, rfl, rfl⟩
  case round =>
    obtain ⟨k, hk, rfl, rfl, rfl⟩ := hrel
    by_cases hlt : k < n
    · have hsl := HSL.out k hlt
      have hadd : (⟨[l.getD k 0].toArray⟩ ++ ⟨(l.take k).reverse.toArray⟩ : ByteArray) = ⟨(l.take (k + 1)).reverse.toArray⟩ := by
        have hk' : k < l.length := by rw [← HN.out]; exact hlt
        have h1 : l.take (k + 1) = l.take k ++ [l.getD k 0] := by
          rw [List.take_succ_eq_append_getElem hk', List.getD_eq_getElem?_getD, List.getElem?_eq_getElem hk']
          rfl
        rw [txt_append, h1, List.reverse_append]
        rfl
      have hs1 : (⟨[l.getD k 0].toArray⟩ : ByteArray).size = 1 := rfl
      have hs2 : (⟨(l.take k).reverse.toArray⟩ : ByteArray).size ≤ 1000 := by rw [txt_size, List.length_reverse, List.length_take]; omega
      generalize (⟨[l.getD k 0].toArray⟩ : ByteArray) = s1 at *
      generalize (⟨(l.take k).reverse.toArray⟩ : ByteArray) = s2 at *
      obtain ⟨s3, hs3⟩ : ∃ s3, s3 = (⟨(l.take (k + 1)).reverse.toArray⟩ : ByteArray) := ⟨_, rfl⟩
      rw [← hs3] at hadd
      have HS3 := hide hs3
      clear hs3
      go_wp2_with fail
      go_roundw
      case rel => exact ⟨k + 1, by omega, by go_num, by rw [HS3.out], by first | rfl | trivial⟩
      case measure => simp [intOf]; omega
    · obtain rfl : k = n := by omega
      rw [List.take_of_length_le (by rw [← HN.out]; exact Nat.le_refl _)]
      go_wp2_with fail
      go_ret
      exact ⟨rfl, rfl⟩
/-- A row of sixteen numbers in a block of its own. -/
def OwnW (w : World) (g : Nat) (L : List Nat) : Prop := ∃ cur : Array Value, Blk w g 28 cur ∧ 16 ≤ cur.size ∧ cur.toList.take 16 = cellsW L
theorem OwnW.get {w : World} {g : Nat} {L : List Nat} (h : OwnW w g L) (hl : L.length = 16) (k : Nat) (hk : k < 16) : w.cell? ⟨g, k, none⟩ = some (.int .u32 ((L.getD k 0 : Nat) : Int)) := by
  obtain ⟨cur, hb, hs, ht⟩ := h
  rw [hb.cell]
  have := cellsW_at L k (by omega)
  rw [← ht, List.getElem?_take, if_pos hk] at this
  simpa using this
theorem OwnW.rds {w : World} {g : Nat} {L : List Nat} (h : OwnW w g L) (hl : L.length = 16) : Rds w (some ⟨g, 0, none⟩) 16 (cellsW L) := by
  refine ⟨by rw [cellsW_length, hl], fun _ => ⟨_, rfl, fun j u hu => ?_⟩⟩
  have hj : j < 16 := by have := (List.getElem?_eq_some_iff.1 hu).1; rw [cellsW_length, hl] at this; exact this
  rw [cellsW_at L j (by omega)] at hu
  rw [addr_add, Nat.zero_add, h.get hl j hj]
  exact hu
theorem OwnW.frozen {w : World} {g : Nat} {L : List Nat} (h : OwnW w g L) (k : Nat) : w.frozen? ⟨g, k, none⟩ = false := by
  obtain ⟨cur, hb, _⟩ := h
  exact hb.frozen k
theorem OwnW.set {w : World} {g : Nat} {L : List Nat} (h : OwnW w g L) (k x : Nat) : OwnW (w.setCell ⟨g, k, none⟩ (.int .u32 (x : Int))) g (L.set k x) := by
  obtain ⟨cur, hb, hs, ht⟩ := h
  refine ⟨_, hb.set k _, by simpa using hs, ?_⟩
  rw [Array.toList_setIfInBounds, ← cellsW_set, ← ht, List.take_set]
theorem OwnW.drewN {w : World} {g : Nat} {L : List Nat} (h : OwnW w g L) (q : Nat) : OwnW (w.drewN q) g L := h
theorem qAdd_ws {s : List Nat} (h : Ws s) (a b : Nat) : Ws (qAdd s a b) := h.set a _ (ad_lt _ _)
theorem qTurn_ws {s : List Nat} (h : Ws s) (d a k : Nat) : Ws (qTurn s d a k) := h.set d _ (leftN_lt (xor_lt32 (h.get d) (h.get a)))
/-- append of sixteen numbers onto nothing. -/
theorem app_madeW {w1 w2 : World} {A : Option Addr} {c : Nat} {L : List Nat} (hl : L.length = 16) (hown : w2.ownsRow w1.heap.size 28 1 (.slice A (0 + 16) c) (0 + 16) ([] ++ cellsW L)) (hg : (w1.alloc (.cells #[] 28)).grownBy w2 (Value.slice (some ⟨w1.heap.size, 0, none⟩) 0 0).ownBlock) :
    ∃ g, A = some ⟨g, 0, none⟩ ∧ OwnW w2 g L ∧ w1.heap.size ≤ g ∧ Frm (fun _ => False) w1 w2 := by
  rw [Nat.zero_add, List.nil_append] at hown
  have f : Frm (fun _ => False) w1 w2 := (Frm.alloc w1 (.cells #[] 28) (fun _ => False)).trans (Frm.of_grown hg) (fun i hi h => by
    have : i = w1.heap.size := by simpa [Value.ownBlock] using h
    omega)
  obtain ⟨g, cur, hA, hb, hB, hn, ht, _⟩ := own_block hown (by omega)
  exact ⟨g, hA, ⟨cur, hB, hn, ht⟩, hb, f⟩
set_option maxHeartbeats 16000000 in
set_option maxRecDepth 100000 in
theorem rquarter_any (A : Option Addr) (cp : Nat) (L : List Nat) (a b c d : Nat) (w : World) (hr : Rds w A 16 (cellsW L)) (hl : L.length = 16) (hs : Ws L) (ha : a < 16) (hb : b < 16) (hc : c < 16) (hd : d < 16) :
    Calls Tryz.prog 93 #[.slice A 16 cp, .int .i64 (a : Int), .int .i64 (b : Int), .int .i64 (c : Int), .int .i64 (d : Int)] w fun e w' => ∃ A' c', e = .returned (.slice A' 16 c') ∧ Rds w' A' 16 (cellsW (quarterL L a b c d)) ∧ Below w.heap.size w w' := by
  have ha' : (a : Int) < 16 := by omega
  have hb' : (b : Int) < 16 := by omega
  have hc' : (c : Int) < 16 := by omega
  have hd' : (d : Int) < 16 := by omega
  have FA : Frm (fun _ => False) w (w.alloc (.cells #[] 28)) := Frm.alloc _ _ _
  have hr0 : Rds (w.alloc (.cells #[] 28)) A 16 (cellsW L) := hr.frm FA (fun _ _ _ h => h)
  obtain ⟨L0, hL0⟩ : ∃ L0, L0 = L := ⟨_, rfl⟩
  rw [← hL0] at hr0 hl hs
  have HE0 := hide hL0
  have HL0 := hide hl
  have HW0 := hide hs
  clear hL0 hr FA hs
  go_enter Tryz.func93, Tryz.ntmps93
  go_wp2_with (at_builtin; refine wpl_app one_u32 rfl (.tmp 12) (.tmp 13) rfl _ w.heap.size _ 0 [] rfl (World.ownsRow_made w #[] 0 (Nat.le_refl _) (by simp [maxLen]) (by simp)) A 16 cp (cellsW L0) rfl hr0 (cellsW_one L0) (by omega) (by omega) (by simp) ?_; intro A1 c1 w0 hown hg hat; have p0 := app_madeW hl hown hg)
  obtain ⟨g, rfl, own0, hg0, F0⟩ := p0
  have O0 := hide own0
  have B0 : Hid (Below w.heap.size w w0) := F0.below (Nat.le_refl _) (fun _ h => h.elim)
  clear own0 hown hat hl hr0 F0
  have cx : w0.cell? ⟨g, a, none⟩ = some (.int .u32 ((L0.getD a 0 : Nat) : Int)) := O0.out.get HL0.out a ha
  have cy : w0.cell? ⟨g, b, none⟩ = some (.int .u32 ((L0.getD b 0 : Nat) : Int)) := O0.out.get HL0.out b hb
  have fz := O0.out.frozen a
  have wz : IntKind.u32.wrap ((L0.getD a 0 : Int) + (L0.getD b 0 : Int)) = (ad (L0.getD a 0) (L0.getD b 0) : Nat) := by rw [IntKind.wrap_u32']; exact ad_int _ _
  obtain ⟨L1, hL⟩ : ∃ L1, L1 = qAdd L0 a b := ⟨_, rfl⟩
  have HL1 : Hid (L1.length = 16) := by rw [hL]; show _ = _; rw [qAdd_length, HL0.out]
  have HW1 : Hid (Ws L1) := by rw [hL]; exact qAdd_ws HW0.out _ _
  have O1 : Hid (OwnW ((w0.setCell ⟨g, a, none⟩ (.int .u32 (ad (L0.getD a 0) (L0.getD b 0) : Nat))).drew) g L1) := by rw [hL]; exact OwnW.set (w := w0.drew) O0.out a _
  have B1 : Hid (Below w.heap.size w ((w0.setCell ⟨g, a, none⟩ (.int .u32 (ad (L0.getD a 0) (L0.getD b 0) : Nat))).drew)) := below_frm B0.out (((Frm.refl (fun i => i = g) w0).drew).trans (Frm.setCell _ _ _ (fun i => i = g) rfl) (fun _ _ h => h)) B0.out.size (fun i hi => by omega)
  have HE1 := hide hL
  clear hL O0 B0 HL0 HW0
  generalize L0.getD a 0 = vx at *
  generalize L0.getD b 0 = vy at *
  generalize ad vx vy = vz at *
  go_still_tail 12, (by kernel_rfl)
  have cx' : w0.drew.cell? ⟨g, a, none⟩ = some (.int .u32 (vx : Int)) := cx
  have fz' : w0.drew.frozen? ⟨g, a, none⟩ = false := fz
  change wpList _ _ _ _ _ w0.drew
  go_wp2_with fail
  obtain ⟨w1, hwm⟩ : ∃ w1, w1 = (w0.setCell ⟨g, a, none⟩ (.int .u32 (vz : Int))).drew := ⟨_, rfl⟩
  rw [← hwm] at O1 B1 ⊢
  clear hwm cx cy fz wz cx' fz'
  have cx : w1.cell? ⟨g, d, none⟩ = some (.int .u32 ((L1.getD d 0 : Nat) : Int)) := O1.out.get HL1.out d hd
  have cy : w1.cell? ⟨g, a, none⟩ = some (.int .u32 ((L1.getD a 0 : Nat) : Int)) := O1.out.get HL1.out a ha
  have fz := O1.out.frozen d
  have lx := HW1.out.get d
  have ly := HW1.out.get a
  have xz := u32_xor_nat (L1.getD d 0) (L1.getD a 0) lx ly
  have lz := xor_lt32 lx ly
  obtain ⟨L2, hL⟩ : ∃ L2, L2 = qTurn L1 d a 16 := ⟨_, rfl⟩
  have HL2 : Hid (L2.length = 16) := by rw [hL]; show _ = _; rw [qTurn_length, HL1.out]
  have HW2 : Hid (Ws L2) := by rw [hL]; exact qTurn_ws HW1.out _ _ _
  have OQ : Hid (∀ q, OwnW ((w1.drew.drewN q).setCell ⟨g, d, none⟩ (.int .u32 (leftN (L1.getD d 0 ^^^ L1.getD a 0) 16 : Nat))) g L2) := by rw [hL]; exact fun q => OwnW.set (w := w1.drew.drewN q) O1.out d _
  have BQ : Hid (∀ q, Below w.heap.size w ((w1.drew.drewN q).setCell ⟨g, d, none⟩ (.int .u32 (leftN (L1.getD d 0 ^^^ L1.getD a 0) 16 : Nat)))) := fun q => below_frm B1.out ((((Frm.refl (fun i => i = g) w1).drew).drewN q).trans (Frm.setCell _ _ _ (fun i => i = g) rfl) (fun _ _ h => h)) B1.out.size (fun i hi => by omega)
  have HE2 := hide hL
  have HLF : Hid (∀ W, Calls Tryz.prog 110 #[.int .u32 ((L1.getD d 0 ^^^ L1.getD a 0 : Nat) : Int), .int .i64 16] W fun e w' => e = .returned (.int .u32 (leftN (L1.getD d 0 ^^^ L1.getD a 0) 16 : Nat)) ∧ ∃ q, w' = W.drewN q) := fun W => cleft_any _ 16 W lz (by omega) (by omega)
  clear hL O1 B1 HL1 HW1 lx ly lz
  generalize leftN (L1.getD d 0 ^^^ L1.getD a 0) 16 = vr at *
  generalize L1.getD d 0 ^^^ L1.getD a 0 = vz at *
  generalize L1.getD d 0 = vx at *
  generalize L1.getD a 0 = vy at *
  refine wp_region_held_drew (S := fun _ => True) (by kernel_rfl) (True.intro) ?_
  intro hHeld
  have cx0 : w1.drew.cell? ⟨g, d, none⟩ = some (.int .u32 (vx : Int)) := cx
  have cy0 : w1.drew.cell? ⟨g, a, none⟩ = some (.int .u32 (vy : Int)) := cy
  have fz0 : ∀ q, (w1.drew.drewN q).frozen? ⟨g, d, none⟩ = false := fun _ => fz
  have cx1 : ∀ q, (w1.drew.drewN q).cell? ⟨g, d, none⟩ = some (.int .u32 (vx : Int)) := fun _ => cx
  have HZ := hide fz0
  have HX1 := hide cx1
  clear fz0 cx1 cx cy fz
  obtain ⟨V0, hV0⟩ : ∃ V0, V0 = w1.drew := ⟨_, rfl⟩
  rw [← hV0] at cx0 cy0 HZ HX1 OQ BQ ⊢
  clear hV0
  refine tkH 0 (v := ?v1) rfl ?hy1 ?rest1
  case hy1 => (intro w hSw; (try dsimp only at hSw); go_simp; try with_reducible rfl)
  try simp only [Act.put, PTs]
  refine tkH 1 (v := ?v2) rfl ?hy2 ?rest2
  case hy2 => (intro w hSw; (try dsimp only at hSw); go_simp; try with_reducible rfl)
  try simp only [Act.put, PTs]
  refine tkH 2 (v := ?v3) rfl ?hy3 ?rest3
  case hy3 => (intro w hSw; (try dsimp only at hSw); go_simp; try with_reducible rfl)
  try simp only [Act.put, PTs]
  refine tkH 3 (v := ?v4) rfl ?hy4 ?rest4
  case hy4 => (intro w hSw; (try dsimp only at hSw); go_simp; try with_reducible rfl)
  try simp only [Act.put, PTs]
  refine tkH 4 (v := ?v5) rfl ?hy5 ?rest5
  case hy5 => (intro w hSw; (try dsimp only at hSw); go_simp; try with_reducible rfl)
  try simp only [Act.put, PTs]
  refine tkH 6 (v := ?v6) rfl ?hy6 ?rest6
  case hy6 => (intro w hSw; (try dsimp only at hSw); go_simp; try with_reducible rfl)
  try simp only [Act.put, PTs]
  refine tkH 7 (v := ?v7) rfl ?hy7 ?rest7
  case hy7 => (intro w hSw; (try dsimp only at hSw); go_simp; try with_reducible rfl)
  try simp only [Act.put, PTs]
  refine tkH 8 (v := ?v8) rfl ?hy8 ?rest8
  case hy8 => (intro w hSw; (try dsimp only at hSw); go_simp; try with_reducible rfl)
  try simp only [Act.put, PTs]
  refine wpAnyH_ready (rs := [5, 9]) (by kernel_rfl) (by simp) ?_
  refine AllReadyH.cons rfl (fun K hK => ?_) ?_
  go_simp
  refine hK.out _ _ (True.intro) (fun hHeld => ?_)
  clear hK K
  clear hHeld
  try simp only [Act.put, PTs]
  refine rdH 9 rfl (by kernel_rfl) (fun K hK => ?_)
  go_simp
  refine hK.out _ _ (True.intro) (fun hHeld => ?_)
  clear hK K
  clear hHeld
  try simp only [Act.put, PTs]
  refine ?shared1
  rotate_left
  refine AllReadyH.cons rfl (fun K hK => ?_) AllReadyH.nil
  go_simp
  refine hK.out _ _ (True.intro) (fun hHeld => ?_)
  clear hK K
  clear hHeld
  try simp only [Act.put, PTs]
  refine rdH 5 rfl (by kernel_rfl) (fun K hK => ?_)
  go_simp
  refine hK.out _ _ (True.intro) (fun hHeld => ?_)
  clear hK K
  clear hHeld
  try simp only [Act.put, PTs]
  exact ?shared1
  refine tkH 10 (v := ?v9) rfl ?hy9 ?rest9
  case hy9 => (intro w hSw; (try dsimp only at hSw); go_simp; try with_reducible rfl)
  try simp only [Act.put, PTs]
  refine rdH 11 rfl (by kernel_rfl) (fun K hK => ?_)
  go_simp
  refine (HLF.out V0).mono ?_
  rintro e W1 ⟨rfl, q, rfl⟩
  refine hK.out _ _ (True.intro) (fun hHeld => ?_)
  clear hK K
  try simp only [Act.put, PTs]
  refine tkH 12 (v := ?v10) rfl ?hy10 ?rest10
  case hy10 => (intro w hSw; (try dsimp only at hSw); go_simp; try with_reducible rfl)
  try simp only [Act.put, PTs]
  have fz1 := HZ.out q
  have cx2 := HX1.out q
  refine rdH 13 rfl (by kernel_rfl) (fun K hK => ?_)
  go_simp
  refine hK.out _ _ (True.intro) (fun hHeld => ?_)
  clear hK K
  try simp only [Act.put, PTs]
  refine wpAnyH_done (by kernel_rfl) ?_ _
  have O2 := hide (OQ.out q)
  have B2 := hide (BQ.out q)
  obtain ⟨w2, hwm⟩ : ∃ w2, w2 = (V0.drewN q).setCell ⟨g, d, none⟩ (.int .u32 (vr : Int)) := ⟨_, rfl⟩
  rw [← hwm] at O2 B2 ⊢
  clear hwm cx0 cy0 HZ HX1 OQ BQ HLF fz1 cx2 xz hHeld
  go_wp2_with fail
  have cx : w2.cell? ⟨g, c, none⟩ = some (.int .u32 ((L2.getD c 0 : Nat) : Int)) := O2.out.get HL2.out c hc
  have cy : w2.cell? ⟨g, d, none⟩ = some (.int .u32 ((L2.getD d 0 : Nat) : Int)) := O2.out.get HL2.out d hd
  have fz := O2.out.frozen c
  have wz : IntKind.u32.wrap ((L2.getD c 0 : Int) + (L2.getD d 0 : Int)) = (ad (L2.getD c 0) (L2.getD d 0) : Nat) := by rw [IntKind.wrap_u32']; exact ad_int _ _
  obtain ⟨L3, hL⟩ : ∃ L3, L3 = qAdd L2 c d := ⟨_, rfl⟩
  have HL3 : Hid (L3.length = 16) := by rw [hL]; show _ = _; rw [qAdd_length, HL2.out]
  have HW3 : Hid (Ws L3) := by rw [hL]; exact qAdd_ws HW2.out _ _
  have O3 : Hid (OwnW ((w2.setCell ⟨g, c, none⟩ (.int .u32 (ad (L2.getD c 0) (L2.getD d 0) : Nat))).drew) g L3) := by rw [hL]; exact OwnW.set (w := w2.drew) O2.out c _
  have B3 : Hid (Below w.heap.size w ((w2.setCell ⟨g, c, none⟩ (.int .u32 (ad (L2.getD c 0) (L2.getD d 0) : Nat))).drew)) := below_frm B2.out (((Frm.refl (fun i => i = g) w2).drew).trans (Frm.setCell _ _ _ (fun i => i = g) rfl) (fun _ _ h => h)) B2.out.size (fun i hi => by omega)
  have HE3 := hide hL
  clear hL O2 B2 HL2 HW2
  generalize L2.getD c 0 = vx at *
  generalize L2.getD d 0 = vy at *
  generalize ad vx vy = vz at *
  go_still_tail 12, (by kernel_rfl)
  have cx' : w2.drew.cell? ⟨g, c, none⟩ = some (.int .u32 (vx : Int)) := cx
  have fz' : w2.drew.frozen? ⟨g, c, none⟩ = false := fz
  change wpList _ _ _ _ _ w2.drew
  go_wp2_with fail
  obtain ⟨w3, hwm⟩ : ∃ w3, w3 = (w2.setCell ⟨g, c, none⟩ (.int .u32 (vz : Int))).drew := ⟨_, rfl⟩
  rw [← hwm] at O3 B3 ⊢
  clear hwm cx cy fz wz cx' fz'
  have cx : w3.cell? ⟨g, b, none⟩ = some (.int .u32 ((L3.getD b 0 : Nat) : Int)) := O3.out.get HL3.out b hb
  have cy : w3.cell? ⟨g, c, none⟩ = some (.int .u32 ((L3.getD c 0 : Nat) : Int)) := O3.out.get HL3.out c hc
  have fz := O3.out.frozen b
  have lx := HW3.out.get b
  have ly := HW3.out.get c
  have xz := u32_xor_nat (L3.getD b 0) (L3.getD c 0) lx ly
  have lz := xor_lt32 lx ly
  obtain ⟨L4, hL⟩ : ∃ L4, L4 = qTurn L3 b c 12 := ⟨_, rfl⟩
  have HL4 : Hid (L4.length = 16) := by rw [hL]; show _ = _; rw [qTurn_length, HL3.out]
  have HW4 : Hid (Ws L4) := by rw [hL]; exact qTurn_ws HW3.out _ _ _
  have OQ : Hid (∀ q, OwnW ((w3.drew.drewN q).setCell ⟨g, b, none⟩ (.int .u32 (leftN (L3.getD b 0 ^^^ L3.getD c 0) 12 : Nat))) g L4) := by rw [hL]; exact fun q => OwnW.set (w := w3.drew.drewN q) O3.out b _
  have BQ : Hid (∀ q, Below w.heap.size w ((w3.drew.drewN q).setCell ⟨g, b, none⟩ (.int .u32 (leftN (L3.getD b 0 ^^^ L3.getD c 0) 12 : Nat)))) := fun q => below_frm B3.out ((((Frm.refl (fun i => i = g) w3).drew).drewN q).trans (Frm.setCell _ _ _ (fun i => i = g) rfl) (fun _ _ h => h)) B3.out.size (fun i hi => by omega)
  have HE4 := hide hL
  have HLF : Hid (∀ W, Calls Tryz.prog 110 #[.int .u32 ((L3.getD b 0 ^^^ L3.getD c 0 : Nat) : Int), .int .i64 12] W fun e w' => e = .returned (.int .u32 (leftN (L3.getD b 0 ^^^ L3.getD c 0) 12 : Nat)) ∧ ∃ q, w' = W.drewN q) := fun W => cleft_any _ 12 W lz (by omega) (by omega)
  clear hL O3 B3 HL3 HW3 lx ly lz
  generalize leftN (L3.getD b 0 ^^^ L3.getD c 0) 12 = vr at *
  generalize L3.getD b 0 ^^^ L3.getD c 0 = vz at *
  generalize L3.getD b 0 = vx at *
  generalize L3.getD c 0 = vy at *
  refine wp_region_held_drew (S := fun _ => True) (by kernel_rfl) (True.intro) ?_
  intro hHeld
  have cx0 : w3.drew.cell? ⟨g, b, none⟩ = some (.int .u32 (vx : Int)) := cx
  have cy0 : w3.drew.cell? ⟨g, c, none⟩ = some (.int .u32 (vy : Int)) := cy
  have fz0 : ∀ q, (w3.drew.drewN q).frozen? ⟨g, b, none⟩ = false := fun _ => fz
  have cx1 : ∀ q, (w3.drew.drewN q).cell? ⟨g, b, none⟩ = some (.int .u32 (vx : Int)) := fun _ => cx
  have HZ := hide fz0
  have HX1 := hide cx1
  clear fz0 cx1 cx cy fz
  obtain ⟨V0, hV0⟩ : ∃ V0, V0 = w3.drew := ⟨_, rfl⟩
  rw [← hV0] at cx0 cy0 HZ HX1 OQ BQ ⊢
  clear hV0
  refine tkH 0 (v := ?v11) rfl ?hy11 ?rest11
  case hy11 => (intro w hSw; (try dsimp only at hSw); go_simp; try with_reducible rfl)
  try simp only [Act.put, PTs]
  refine tkH 1 (v := ?v12) rfl ?hy12 ?rest12
  case hy12 => (intro w hSw; (try dsimp only at hSw); go_simp; try with_reducible rfl)
  try simp only [Act.put, PTs]
  refine tkH 2 (v := ?v13) rfl ?hy13 ?rest13
  case hy13 => (intro w hSw; (try dsimp only at hSw); go_simp; try with_reducible rfl)
  try simp only [Act.put, PTs]
  refine tkH 3 (v := ?v14) rfl ?hy14 ?rest14
  case hy14 => (intro w hSw; (try dsimp only at hSw); go_simp; try with_reducible rfl)
  try simp only [Act.put, PTs]
  refine tkH 4 (v := ?v15) rfl ?hy15 ?rest15
  case hy15 => (intro w hSw; (try dsimp only at hSw); go_simp; try with_reducible rfl)
  try simp only [Act.put, PTs]
  refine tkH 6 (v := ?v16) rfl ?hy16 ?rest16
  case hy16 => (intro w hSw; (try dsimp only at hSw); go_simp; try with_reducible rfl)
  try simp only [Act.put, PTs]
  refine tkH 7 (v := ?v17) rfl ?hy17 ?rest17
  case hy17 => (intro w hSw; (try dsimp only at hSw); go_simp; try with_reducible rfl)
  try simp only [Act.put, PTs]
  refine tkH 8 (v := ?v18) rfl ?hy18 ?rest18
  case hy18 => (intro w hSw; (try dsimp only at hSw); go_simp; try with_reducible rfl)
  try simp only [Act.put, PTs]
  refine wpAnyH_ready (rs := [5, 9]) (by kernel_rfl) (by simp) ?_
  refine AllReadyH.cons rfl (fun K hK => ?_) ?_
  go_simp
  refine hK.out _ _ (True.intro) (fun hHeld => ?_)
  clear hK K
  clear hHeld
  try simp only [Act.put, PTs]
  refine rdH 9 rfl (by kernel_rfl) (fun K hK => ?_)
  go_simp
  refine hK.out _ _ (True.intro) (fun hHeld => ?_)
  clear hK K
  clear hHeld
  try simp only [Act.put, PTs]
  refine ?shared3
  rotate_left
  refine AllReadyH.cons rfl (fun K hK => ?_) AllReadyH.nil
  go_simp
  refine hK.out _ _ (True.intro) (fun hHeld => ?_)
  clear hK K
  clear hHeld
  try simp only [Act.put, PTs]
  refine rdH 5 rfl (by kernel_rfl) (fun K hK => ?_)
  go_simp
  refine hK.out _ _ (True.intro) (fun hHeld => ?_)
  clear hK K
  clear hHeld
  try simp only [Act.put, PTs]
  exact ?shared3
  refine tkH 10 (v := ?v19) rfl ?hy19 ?rest19
  case hy19 => (intro w hSw; (try dsimp only at hSw); go_simp; try with_reducible rfl)
  try simp only [Act.put, PTs]
  refine rdH 11 rfl (by kernel_rfl) (fun K hK => ?_)
  go_simp
  refine (HLF.out V0).mono ?_
  rintro e W1 ⟨rfl, q, rfl⟩
  refine hK.out _ _ (True.intro) (fun hHeld => ?_)
  clear hK K
  try simp only [Act.put, PTs]
  refine tkH 12 (v := ?v20) rfl ?hy20 ?rest20
  case hy20 => (intro w hSw; (try dsimp only at hSw); go_simp; try with_reducible rfl)
  try simp only [Act.put, PTs]
  have fz1 := HZ.out q
  have cx2 := HX1.out q
  refine rdH 13 rfl (by kernel_rfl) (fun K hK => ?_)
  go_simp
  refine hK.out _ _ (True.intro) (fun hHeld => ?_)
  clear hK K
  try simp only [Act.put, PTs]
  refine wpAnyH_done (by kernel_rfl) ?_ _
  have O4 := hide (OQ.out q)
  have B4 := hide (BQ.out q)
  obtain ⟨w4, hwm⟩ : ∃ w4, w4 = (V0.drewN q).setCell ⟨g, b, none⟩ (.int .u32 (vr : Int)) := ⟨_, rfl⟩
  rw [← hwm] at O4 B4 ⊢
  clear hwm cx0 cy0 HZ HX1 OQ BQ HLF fz1 cx2 xz hHeld
  go_wp2_with fail
  have cx : w4.cell? ⟨g, a, none⟩ = some (.int .u32 ((L4.getD a 0 : Nat) : Int)) := O4.out.get HL4.out a ha
  have cy : w4.cell? ⟨g, b, none⟩ = some (.int .u32 ((L4.getD b 0 : Nat) : Int)) := O4.out.get HL4.out b hb
  have fz := O4.out.frozen a
  have wz : IntKind.u32.wrap ((L4.getD a 0 : Int) + (L4.getD b 0 : Int)) = (ad (L4.getD a 0) (L4.getD b 0) : Nat) := by rw [IntKind.wrap_u32']; exact ad_int _ _
  obtain ⟨L5, hL⟩ : ∃ L5, L5 = qAdd L4 a b := ⟨_, rfl⟩
  have HL5 : Hid (L5.length = 16) := by rw [hL]; show _ = _; rw [qAdd_length, HL4.out]
  have HW5 : Hid (Ws L5) := by rw [hL]; exact qAdd_ws HW4.out _ _
  have O5 : Hid (OwnW ((w4.setCell ⟨g, a, none⟩ (.int .u32 (ad (L4.getD a 0) (L4.getD b 0) : Nat))).drew) g L5) := by rw [hL]; exact OwnW.set (w := w4.drew) O4.out a _
  have B5 : Hid (Below w.heap.size w ((w4.setCell ⟨g, a, none⟩ (.int .u32 (ad (L4.getD a 0) (L4.getD b 0) : Nat))).drew)) := below_frm B4.out (((Frm.refl (fun i => i = g) w4).drew).trans (Frm.setCell _ _ _ (fun i => i = g) rfl) (fun _ _ h => h)) B4.out.size (fun i hi => by omega)
  have HE5 := hide hL
  clear hL O4 B4 HL4 HW4
  generalize L4.getD a 0 = vx at *
  generalize L4.getD b 0 = vy at *
  generalize ad vx vy = vz at *
  go_still_tail 12, (by kernel_rfl)
  have cx' : w4.drew.cell? ⟨g, a, none⟩ = some (.int .u32 (vx : Int)) := cx
  have fz' : w4.drew.frozen? ⟨g, a, none⟩ = false := fz
  change wpList _ _ _ _ _ w4.drew
  go_wp2_with fail
  obtain ⟨w5, hwm⟩ : ∃ w5, w5 = (w4.setCell ⟨g, a, none⟩ (.int .u32 (vz : Int))).drew := ⟨_, rfl⟩
  rw [← hwm] at O5 B5 ⊢
  clear hwm cx cy fz wz cx' fz'
  have cx : w5.cell? ⟨g, d, none⟩ = some (.int .u32 ((L5.getD d 0 : Nat) : Int)) := O5.out.get HL5.out d hd
  have cy : w5.cell? ⟨g, a, none⟩ = some (.int .u32 ((L5.getD a 0 : Nat) : Int)) := O5.out.get HL5.out a ha
  have fz := O5.out.frozen d
  have lx := HW5.out.get d
  have ly := HW5.out.get a
  have xz := u32_xor_nat (L5.getD d 0) (L5.getD a 0) lx ly
  have lz := xor_lt32 lx ly
  obtain ⟨L6, hL⟩ : ∃ L6, L6 = qTurn L5 d a 8 := ⟨_, rfl⟩
  have HL6 : Hid (L6.length = 16) := by rw [hL]; show _ = _; rw [qTurn_length, HL5.out]
  have HW6 : Hid (Ws L6) := by rw [hL]; exact qTurn_ws HW5.out _ _ _
  have OQ : Hid (∀ q, OwnW ((w5.drew.drewN q).setCell ⟨g, d, none⟩ (.int .u32 (leftN (L5.getD d 0 ^^^ L5.getD a 0) 8 : Nat))) g L6) := by rw [hL]; exact fun q => OwnW.set (w := w5.drew.drewN q) O5.out d _
  have BQ : Hid (∀ q, Below w.heap.size w ((w5.drew.drewN q).setCell ⟨g, d, none⟩ (.int .u32 (leftN (L5.getD d 0 ^^^ L5.getD a 0) 8 : Nat)))) := fun q => below_frm B5.out ((((Frm.refl (fun i => i = g) w5).drew).drewN q).trans (Frm.setCell _ _ _ (fun i => i = g) rfl) (fun _ _ h => h)) B5.out.size (fun i hi => by omega)
  have HE6 := hide hL
  have HLF : Hid (∀ W, Calls Tryz.prog 110 #[.int .u32 ((L5.getD d 0 ^^^ L5.getD a 0 : Nat) : Int), .int .i64 8] W fun e w' => e = .returned (.int .u32 (leftN (L5.getD d 0 ^^^ L5.getD a 0) 8 : Nat)) ∧ ∃ q, w' = W.drewN q) := fun W => cleft_any _ 8 W lz (by omega) (by omega)
  clear hL O5 B5 HL5 HW5 lx ly lz
  generalize leftN (L5.getD d 0 ^^^ L5.getD a 0) 8 = vr at *
  generalize L5.getD d 0 ^^^ L5.getD a 0 = vz at *
  generalize L5.getD d 0 = vx at *
  generalize L5.getD a 0 = vy at *
  refine wp_region_held_drew (S := fun _ => True) (by kernel_rfl) (True.intro) ?_
  intro hHeld
  have cx0 : w5.drew.cell? ⟨g, d, none⟩ = some (.int .u32 (vx : Int)) := cx
  have cy0 : w5.drew.cell? ⟨g, a, none⟩ = some (.int .u32 (vy : Int)) := cy
  have fz0 : ∀ q, (w5.drew.drewN q).frozen? ⟨g, d, none⟩ = false := fun _ => fz
  have cx1 : ∀ q, (w5.drew.drewN q).cell? ⟨g, d, none⟩ = some (.int .u32 (vx : Int)) := fun _ => cx
  have HZ := hide fz0
  have HX1 := hide cx1
  clear fz0 cx1 cx cy fz
  obtain ⟨V0, hV0⟩ : ∃ V0, V0 = w5.drew := ⟨_, rfl⟩
  rw [← hV0] at cx0 cy0 HZ HX1 OQ BQ ⊢
  clear hV0
  refine tkH 0 (v := ?v21) rfl ?hy21 ?rest21
  case hy21 => (intro w hSw; (try dsimp only at hSw); go_simp; try with_reducible rfl)
  try simp only [Act.put, PTs]
  refine tkH 1 (v := ?v22) rfl ?hy22 ?rest22
  case hy22 => (intro w hSw; (try dsimp only at hSw); go_simp; try with_reducible rfl)
  try simp only [Act.put, PTs]
  refine tkH 2 (v := ?v23) rfl ?hy23 ?rest23
  case hy23 => (intro w hSw; (try dsimp only at hSw); go_simp; try with_reducible rfl)
  try simp only [Act.put, PTs]
  refine tkH 3 (v := ?v24) rfl ?hy24 ?rest24
  case hy24 => (intro w hSw; (try dsimp only at hSw); go_simp; try with_reducible rfl)
  try simp only [Act.put, PTs]
  refine tkH 4 (v := ?v25) rfl ?hy25 ?rest25
  case hy25 => (intro w hSw; (try dsimp only at hSw); go_simp; try with_reducible rfl)
  try simp only [Act.put, PTs]
  refine tkH 6 (v := ?v26) rfl ?hy26 ?rest26
  case hy26 => (intro w hSw; (try dsimp only at hSw); go_simp; try with_reducible rfl)
  try simp only [Act.put, PTs]
  refine tkH 7 (v := ?v27) rfl ?hy27 ?rest27
  case hy27 => (intro w hSw; (try dsimp only at hSw); go_simp; try with_reducible rfl)
  try simp only [Act.put, PTs]
  refine tkH 8 (v := ?v28) rfl ?hy28 ?rest28
  case hy28 => (intro w hSw; (try dsimp only at hSw); go_simp; try with_reducible rfl)
  try simp only [Act.put, PTs]
  refine wpAnyH_ready (rs := [5, 9]) (by kernel_rfl) (by simp) ?_
  refine AllReadyH.cons rfl (fun K hK => ?_) ?_
  go_simp
  refine hK.out _ _ (True.intro) (fun hHeld => ?_)
  clear hK K
  clear hHeld
  try simp only [Act.put, PTs]
  refine rdH 9 rfl (by kernel_rfl) (fun K hK => ?_)
  go_simp
  refine hK.out _ _ (True.intro) (fun hHeld => ?_)
  clear hK K
  clear hHeld
  try simp only [Act.put, PTs]
  refine ?shared5
  rotate_left
  refine AllReadyH.cons rfl (fun K hK => ?_) AllReadyH.nil
  go_simp
  refine hK.out _ _ (True.intro) (fun hHeld => ?_)
  clear hK K
  clear hHeld
  try simp only [Act.put, PTs]
  refine rdH 5 rfl (by kernel_rfl) (fun K hK => ?_)
  go_simp
  refine hK.out _ _ (True.intro) (fun hHeld => ?_)
  clear hK K
  clear hHeld
  try simp only [Act.put, PTs]
  exact ?shared5
  refine tkH 10 (v := ?v29) rfl ?hy29 ?rest29
  case hy29 => (intro w hSw; (try dsimp only at hSw); go_simp; try with_reducible rfl)
  try simp only [Act.put, PTs]
  refine rdH 11 rfl (by kernel_rfl) (fun K hK => ?_)
  go_simp
  refine (HLF.out V0).mono ?_
  rintro e W1 ⟨rfl, q, rfl⟩
  refine hK.out _ _ (True.intro) (fun hHeld => ?_)
  clear hK K
  try simp only [Act.put, PTs]
  refine tkH 12 (v := ?v30) rfl ?hy30 ?rest30
  case hy30 => (intro w hSw; (try dsimp only at hSw); go_simp; try with_reducible rfl)
  try simp only [Act.put, PTs]
  have fz1 := HZ.out q
  have cx2 := HX1.out q
  refine rdH 13 rfl (by kernel_rfl) (fun K hK => ?_)
  go_simp
  refine hK.out _ _ (True.intro) (fun hHeld => ?_)
  clear hK K
  try simp only [Act.put, PTs]
  refine wpAnyH_done (by kernel_rfl) ?_ _
  have O6 := hide (OQ.out q)
  have B6 := hide (BQ.out q)
  obtain ⟨w6, hwm⟩ : ∃ w6, w6 = (V0.drewN q).setCell ⟨g, d, none⟩ (.int .u32 (vr : Int)) := ⟨_, rfl⟩
  rw [← hwm] at O6 B6 ⊢
  clear hwm cx0 cy0 HZ HX1 OQ BQ HLF fz1 cx2 xz hHeld
  go_wp2_with fail
  have cx : w6.cell? ⟨g, c, none⟩ = some (.int .u32 ((L6.getD c 0 : Nat) : Int)) := O6.out.get HL6.out c hc
  have cy : w6.cell? ⟨g, d, none⟩ = some (.int .u32 ((L6.getD d 0 : Nat) : Int)) := O6.out.get HL6.out d hd
  have fz := O6.out.frozen c
  have wz : IntKind.u32.wrap ((L6.getD c 0 : Int) + (L6.getD d 0 : Int)) = (ad (L6.getD c 0) (L6.getD d 0) : Nat) := by rw [IntKind.wrap_u32']; exact ad_int _ _
  obtain ⟨L7, hL⟩ : ∃ L7, L7 = qAdd L6 c d := ⟨_, rfl⟩
  have HL7 : Hid (L7.length = 16) := by rw [hL]; show _ = _; rw [qAdd_length, HL6.out]
  have HW7 : Hid (Ws L7) := by rw [hL]; exact qAdd_ws HW6.out _ _
  have O7 : Hid (OwnW ((w6.setCell ⟨g, c, none⟩ (.int .u32 (ad (L6.getD c 0) (L6.getD d 0) : Nat))).drew) g L7) := by rw [hL]; exact OwnW.set (w := w6.drew) O6.out c _
  have B7 : Hid (Below w.heap.size w ((w6.setCell ⟨g, c, none⟩ (.int .u32 (ad (L6.getD c 0) (L6.getD d 0) : Nat))).drew)) := below_frm B6.out (((Frm.refl (fun i => i = g) w6).drew).trans (Frm.setCell _ _ _ (fun i => i = g) rfl) (fun _ _ h => h)) B6.out.size (fun i hi => by omega)
  have HE7 := hide hL
  clear hL O6 B6 HL6 HW6
  generalize L6.getD c 0 = vx at *
  generalize L6.getD d 0 = vy at *
  generalize ad vx vy = vz at *
  go_still_tail 12, (by kernel_rfl)
  have cx' : w6.drew.cell? ⟨g, c, none⟩ = some (.int .u32 (vx : Int)) := cx
  have fz' : w6.drew.frozen? ⟨g, c, none⟩ = false := fz
  change wpList _ _ _ _ _ w6.drew
  go_wp2_with fail
  obtain ⟨w7, hwm⟩ : ∃ w7, w7 = (w6.setCell ⟨g, c, none⟩ (.int .u32 (vz : Int))).drew := ⟨_, rfl⟩
  rw [← hwm] at O7 B7 ⊢
  clear hwm cx cy fz wz cx' fz'
  have cx : w7.cell? ⟨g, b, none⟩ = some (.int .u32 ((L7.getD b 0 : Nat) : Int)) := O7.out.get HL7.out b hb
  have cy : w7.cell? ⟨g, c, none⟩ = some (.int .u32 ((L7.getD c 0 : Nat) : Int)) := O7.out.get HL7.out c hc
  have fz := O7.out.frozen b
  have lx := HW7.out.get b
  have ly := HW7.out.get c
  have xz := u32_xor_nat (L7.getD b 0) (L7.getD c 0) lx ly
  have lz := xor_lt32 lx ly
  obtain ⟨L8, hL⟩ : ∃ L8, L8 = qTurn L7 b c 7 := ⟨_, rfl⟩
  have HL8 : Hid (L8.length = 16) := by rw [hL]; show _ = _; rw [qTurn_length, HL7.out]
  have HW8 : Hid (Ws L8) := by rw [hL]; exact qTurn_ws HW7.out _ _ _
  have OQ : Hid (∀ q, OwnW ((w7.drew.drewN q).setCell ⟨g, b, none⟩ (.int .u32 (leftN (L7.getD b 0 ^^^ L7.getD c 0) 7 : Nat))) g L8) := by rw [hL]; exact fun q => OwnW.set (w := w7.drew.drewN q) O7.out b _
  have BQ : Hid (∀ q, Below w.heap.size w ((w7.drew.drewN q).setCell ⟨g, b, none⟩ (.int .u32 (leftN (L7.getD b 0 ^^^ L7.getD c 0) 7 : Nat)))) := fun q => below_frm B7.out ((((Frm.refl (fun i => i = g) w7).drew).drewN q).trans (Frm.setCell _ _ _ (fun i => i = g) rfl) (fun _ _ h => h)) B7.out.size (fun i hi => by omega)
  have HE8 := hide hL
  have HLF : Hid (∀ W, Calls Tryz.prog 110 #[.int .u32 ((L7.getD b 0 ^^^ L7.getD c 0 : Nat) : Int), .int .i64 7] W fun e w' => e = .returned (.int .u32 (leftN (L7.getD b 0 ^^^ L7.getD c 0) 7 : Nat)) ∧ ∃ q, w' = W.drewN q) := fun W => cleft_any _ 7 W lz (by omega) (by omega)
  clear hL O7 B7 HL7 HW7 lx ly lz
  generalize leftN (L7.getD b 0 ^^^ L7.getD c 0) 7 = vr at *
  generalize L7.getD b 0 ^^^ L7.getD c 0 = vz at *
  generalize L7.getD b 0 = vx at *
  generalize L7.getD c 0 = vy at *
  refine wp_region_held_drew (S := fun _ => True) (by kernel_rfl) (True.intro) ?_
  intro hHeld
  have cx0 : w7.drew.cell? ⟨g, b, none⟩ = some (.int .u32 (vx : Int)) := cx
  have cy0 : w7.drew.cell? ⟨g, c, none⟩ = some (.int .u32 (vy : Int)) := cy
  have fz0 : ∀ q, (w7.drew.drewN q).frozen? ⟨g, b, none⟩ = false := fun _ => fz
  have cx1 : ∀ q, (w7.drew.drewN q).cell? ⟨g, b, none⟩ = some (.int .u32 (vx : Int)) := fun _ => cx
  have HZ := hide fz0
  have HX1 := hide cx1
  clear fz0 cx1 cx cy fz
  obtain ⟨V0, hV0⟩ : ∃ V0, V0 = w7.drew := ⟨_, rfl⟩
  rw [← hV0] at cx0 cy0 HZ HX1 OQ BQ ⊢
  clear hV0
  refine tkH 0 (v := ?v31) rfl ?hy31 ?rest31
  case hy31 => (intro w hSw; (try dsimp only at hSw); go_simp; try with_reducible rfl)
  try simp only [Act.put, PTs]
  refine tkH 1 (v := ?v32) rfl ?hy32 ?rest32
  case hy32 => (intro w hSw; (try dsimp only at hSw); go_simp; try with_reducible rfl)
  try simp only [Act.put, PTs]
  refine tkH 2 (v := ?v33) rfl ?hy33 ?rest33
  case hy33 => (intro w hSw; (try dsimp only at hSw); go_simp; try with_reducible rfl)
  try simp only [Act.put, PTs]
  refine tkH 3 (v := ?v34) rfl ?hy34 ?rest34
  case hy34 => (intro w hSw; (try dsimp only at hSw); go_simp; try with_reducible rfl)
  try simp only [Act.put, PTs]
  refine tkH 4 (v := ?v35) rfl ?hy35 ?rest35
  case hy35 => (intro w hSw; (try dsimp only at hSw); go_simp; try with_reducible rfl)
  try simp only [Act.put, PTs]
  refine tkH 6 (v := ?v36) rfl ?hy36 ?rest36
  case hy36 => (intro w hSw; (try dsimp only at hSw); go_simp; try with_reducible rfl)
  try simp only [Act.put, PTs]
  refine tkH 7 (v := ?v37) rfl ?hy37 ?rest37
  case hy37 => (intro w hSw; (try dsimp only at hSw); go_simp; try with_reducible rfl)
  try simp only [Act.put, PTs]
  refine tkH 8 (v := ?v38) rfl ?hy38 ?rest38
  case hy38 => (intro w hSw; (try dsimp only at hSw); go_simp; try with_reducible rfl)
  try simp only [Act.put, PTs]
  refine wpAnyH_ready (rs := [5, 9]) (by kernel_rfl) (by simp) ?_
  refine AllReadyH.cons rfl (fun K hK => ?_) ?_
  go_simp
  refine hK.out _ _ (True.intro) (fun hHeld => ?_)
  clear hK K
  clear hHeld
  try simp only [Act.put, PTs]
  refine rdH 9 rfl (by kernel_rfl) (fun K hK => ?_)
  go_simp
  refine hK.out _ _ (True.intro) (fun hHeld => ?_)
  clear hK K
  clear hHeld
  try simp only [Act.put, PTs]
  refine ?shared7
  rotate_left
  refine AllReadyH.cons rfl (fun K hK => ?_) AllReadyH.nil
  go_simp
  refine hK.out _ _ (True.intro) (fun hHeld => ?_)
  clear hK K
  clear hHeld
  try simp only [Act.put, PTs]
  refine rdH 5 rfl (by kernel_rfl) (fun K hK => ?_)
  go_simp
  refine hK.out _ _ (True.intro) (fun hHeld => ?_)
  clear hK K
  clear hHeld
  try simp only [Act.put, PTs]
  exact ?shared7
  refine tkH 10 (v := ?v39) rfl ?hy39 ?rest39
  case hy39 => (intro w hSw; (try dsimp only at hSw); go_simp; try with_reducible rfl)
  try simp only [Act.put, PTs]
  refine rdH 11 rfl (by kernel_rfl) (fun K hK => ?_)
  go_simp
  refine (HLF.out V0).mono ?_
  rintro e W1 ⟨rfl, q, rfl⟩
  refine hK.out _ _ (True.intro) (fun hHeld => ?_)
  clear hK K
  try simp only [Act.put, PTs]
  refine tkH 12 (v := ?v40) rfl ?hy40 ?rest40
  case hy40 => (intro w hSw; (try dsimp only at hSw); go_simp; try with_reducible rfl)
  try simp only [Act.put, PTs]
  have fz1 := HZ.out q
  have cx2 := HX1.out q
  refine rdH 13 rfl (by kernel_rfl) (fun K hK => ?_)
  go_simp
  refine hK.out _ _ (True.intro) (fun hHeld => ?_)
  clear hK K
  try simp only [Act.put, PTs]
  refine wpAnyH_done (by kernel_rfl) ?_ _
  have O8 := hide (OQ.out q)
  have B8 := hide (BQ.out q)
  obtain ⟨w8, hwm⟩ : ∃ w8, w8 = (V0.drewN q).setCell ⟨g, b, none⟩ (.int .u32 (vr : Int)) := ⟨_, rfl⟩
  rw [← hwm] at O8 B8 ⊢
  clear hwm cx0 cy0 HZ HX1 OQ BQ HLF fz1 cx2 xz hHeld
  go_wp2_with fail
  go_ret
  have hq : quarterL L a b c d = L8 := by
    rw [HE8.out, HE7.out, HE6.out, HE5.out, HE4.out, HE3.out, HE2.out, HE1.out, HE0.out]
    rfl
  rw [hq]
  exact ⟨_, _, rfl, O8.out.rds HL8.out, B8.out⟩
theorem own_ge {w : World} {base n : Nat} {e : TypeId} {v : Value} {xs : List Value} (h : w.ownsRow base e 1 v n xs) (k : Nat) (hk : some k = v.ownBlock) : base ≤ k := by
  rcases h.2 with ⟨rfl, _⟩ | ⟨g, cap, cur, rfl, hb, _⟩
  · cases hk
  · have : k = g := by simpa [Value.ownBlock] using hk
    omega
theorem own_alloc {w : World} {base n : Nat} {e : TypeId} {v : Value} {xs : List Value} (h : w.ownsRow base e 1 v n xs) (o : Obj) : (w.alloc o).ownsRow base e 1 v n xs := own_frm h (Frm.alloc w o (fun _ => False)) (fun _ _ h => h)
theorem chaAll_length (key : List UInt8) (ctr : Nat) (nonce : List UInt8) (hk : key.length = 32) (hn : nonce.length = 12) : (chaAll key ctr nonce).length = 64 := by
  rw [chaAll, List.length_append, List.length_append, List.length_append, hk, hn, le4_length]
  rfl
theorem words_take (S : List Nat) (k : Nat) (h : k < S.length) : cellsW (S.take k) ++ [.int .u32 ((S.getD k 0 : Nat) : Int)] = cellsW (S.take (k + 1)) := by
  rw [List.take_succ_eq_append_getElem h, cellsW_append, List.getD_eq_getElem?_getD, List.getElem?_eq_getElem h]
  rfl
structure RInv (w : World) (A1 As : Option Addr) (S M : List Nat) (W : World) : Prop where
  first : Rds W A1 16 (cellsW S)
  now : Rds W As 16 (cellsW M)
  below : Below w.heap.size w W
theorem RInv.of_below {w : World} {A1 As : Option Addr} {S M : List Nat} {W W' : World} (h : RInv w A1 As S M W) (hb : Below W.heap.size W W') : RInv w A1 As S M W' :=
  ⟨h.first.below hb, h.now.below hb, h.below.trans (hb.mono h.below.size)⟩
theorem Rds.at {w : World} {A : Option Addr} {M : List Nat} (h : Rds w A 16 (cellsW M)) : ∃ a, A = some a ∧ ∀ k, k < 16 → w.cell? (a.add k) = some (.int .u32 ((M.getD k 0 : Nat) : Int)) := by
  obtain ⟨a, rfl, hc⟩ := h.2 (by omega)
  have hl : M.length = 16 := by have := h.1; rwa [cellsW_length] at this
  exact ⟨a, rfl, fun k hk => hc k _ (cellsW_at M k (by omega))⟩
set_option maxHeartbeats 16000000 in
set_option maxRecDepth 100000 in
theorem rblock_any (key nonce : List UInt8) (ctr : Nat) (w : World) (hk : key.length = 32) (hno : nonce.length = 12) (hc : ctr < 4294967296) :
    Calls Tryz.prog 68 #[.string ⟨key.toArray⟩, .int .u32 (ctr : Int), .string ⟨nonce.toArray⟩] w fun e w' => e = .returned (.string ⟨(chaL key ctr nonce).toArray⟩) ∧ Below w.heap.size w w' := by
  obtain ⟨sk, hsk⟩ : ∃ sk, sk = (⟨key.toArray⟩ : ByteArray) := ⟨_, rfl⟩
  obtain ⟨sn, hsn⟩ : ∃ sn, sn = (⟨nonce.toArray⟩ : ByteArray) := ⟨_, rfl⟩
  obtain ⟨sc, hsc⟩ : ∃ sc, sc = (⟨(be 4 ctr).toArray⟩ : ByteArray) := ⟨_, rfl⟩
  obtain ⟨sl, hsl⟩ : ∃ sl, sl = (⟨(le4 ctr).toArray⟩ : ByteArray) := ⟨_, rfl⟩
  obtain ⟨s1, hs1⟩ : ∃ s1, s1 = (⟨(expandL ++ key).toArray⟩ : ByteArray) := ⟨_, rfl⟩
  obtain ⟨s2, hs2⟩ : ∃ s2, s2 = (⟨(expandL ++ key ++ le4 ctr).toArray⟩ : ByteArray) := ⟨_, rfl⟩
  obtain ⟨s3, hs3⟩ : ∃ s3, s3 = (⟨(chaAll key ctr nonce).toArray⟩ : ByteArray) := ⟨_, rfl⟩
  have a1 : (⟨#[101, 120, 112, 97, 110, 100, 32, 51, 50, 45, 98, 121, 116, 101, 32, 107]⟩ : ByteArray) ++ sk = s1 := by rw [hsk, hs1]; exact txt_append expandL key
  have a2 : s1 ++ sl = s2 := by rw [hs1, hsl, hs2]; exact txt_append _ _
  have a3 : s2 ++ sn = s3 := by rw [hs2, hsn, hs3]; exact txt_append _ _
  have z0 : sk.size = 32 := by rw [hsk, txt_size, hk]
  have z1 : s1.size = 48 := by rw [hs1, txt_size, List.length_append, hk]; rfl
  have z2 : s2.size = 52 := by rw [hs2, txt_size, List.length_append, List.length_append, hk, le4_length]; rfl
  have z3 : sl.size = 4 := by rw [hsl, txt_size, le4_length]
  have z4 : sn.size = 12 := by rw [hsn, txt_size, hno]
  have ze : (⟨#[101, 120, 112, 97, 110, 100, 32, 51, 50, 45, 98, 121, 116, 101, 32, 107]⟩ : ByteArray).size = 16 := rfl
  have hu : IntKind.u64.wrap (ctr : Int) = (ctr : Int) := by rw [IntKind.wrap_u64]; omega
  have HTX : Hid (∀ W, Calls Tryz.prog 46 #[.int .u64 (ctr : Int), .int .i64 4] W fun e w' => e = .returned (.string sc) ∧ Below W.heap.size W w') := by rw [hsc]; exact fun W => text_any ctr 4 W (by omega) (by omega)
  have HTU : Hid (∀ W, Calls Tryz.prog 91 #[.string sc] W fun e w' => e = .returned (.string sl) ∧ W = w') := by rw [hsc, hsl]; exact fun W => rturned_any (be 4 ctr) W (by rw [be_length]; omega)
  have HAL := hide (chaAll_length key ctr nonce hk hno)
  have HSL := hide (chaWords_length (chaAll key ctr nonce))
  have HSW := hide (chaWords_ws (chaAll key ctr nonce))
  obtain ⟨al, hal⟩ : ∃ al, al = chaAll key ctr nonce := ⟨_, rfl⟩
  have HCH : Hid (chaL key ctr nonce = (plus (tensL (chaWords al) 10) (chaWords al)).flatMap le4) := by show _ = _; rw [hal, chaL, plus]
  rw [← hal] at HAL HSL HSW hs3
  have HGT : Hid (∀ (k : Nat), k < 16 → (chaWords al).getD k 0 = lowN ((al.drop (4 * k)).take 4)) := fun k hk => by rw [List.getD_eq_getElem?_getD, chaWords_get _ _ hk]; rfl
  have HST : Hid (∀ (k : Nat), k < 16 → ∀ w, Sem.run Tryz.prog (Instr.sliceAt 9 (.string s3) (some (.int .i64 (4 * (k : Int)))) (some (.int .i64 (4 * (k : Int) + 4))) none) w = .ok (.string ⟨((al.drop (4 * k)).take 4).toArray⟩) w) := fun k hk w => by
    have := slice_text al (4 * k) (4 * k + 4) (by omega) (by rw [HAL.out]; omega) w
    rw [show 4 * k + 4 - 4 * k = 4 by omega, ← hs3] at this
    exact this
  have HLO : Hid (∀ (k : Nat), k < 16 → ∀ W, Calls Tryz.prog 92 #[.string ⟨((al.drop (4 * k)).take 4).toArray⟩] W fun e w' => e = .returned (.int .u32 ((chaWords al).getD k 0 : Nat)) ∧ ∃ q, w' = W.drewN q) := fun k hk W => by
    rw [HGT.out k hk]
    exact rlow_any _ W (by rw [List.length_take, List.length_drop, HAL.out]; omega)
  obtain ⟨TN, hTN⟩ : ∃ TN, TN = tensL (chaWords al) := ⟨_, rfl⟩
  obtain ⟨S, hS⟩ : ∃ S, S = chaWords al := ⟨_, rfl⟩
  rw [← hS] at HSL HSW HLO hTN
  rw [← hS] at HCH
  rw [← hTN] at HCH
  have HT0 : Hid (TN 0 = S) := by rw [hTN]; rfl
  have HTL : Hid (∀ n, (TN n).length = 16) := by rw [hTN]; intro n; rw [tensL_length, HSL.out]
  have HTW : Hid (∀ n, Ws (TN n)) := by
    rw [hTN]
    intro n
    rw [← mixL_eq _ HSL.out]
    exact mixL_ws HSW.out n
  have HTS : Hid (∀ n, TN (n + 1) = slantL (downL (TN n) 4) 4) := by rw [hTN]; intro n; rw [tensL]
  rw [HCH.out, ← hsk, ← hsn]
  clear hsk hsn hsc hsl hs1 hs2 hs3 hk hno hc hal hTN hS HGT HCH
  go_enter Tryz.func68, Tryz.ntmps68
  go_wp2_with fail
  refine (HTX.out w).mono ?_
  rintro e w1 ⟨rfl, hb1⟩
  go_wp2_with fail
  refine (HTU.out w1).mono ?_
  rintro e w1' ⟨rfl, rfl⟩
  have own0 : (w1.alloc (.cells #[] 28)).ownsRow w.heap.size 28 1 (.slice (some ⟨w1.heap.size, 0, none⟩) 0 0) 0 [] := World.ownsRow_made w1 #[] 0 hb1.size (by simp [maxLen]) (by simp)
  have HS0 : Hid ((w1.alloc (.cells #[] 28)).ownsRow w.heap.size 28 1 (.slice (some ⟨w1.heap.size, 0, none⟩) 0 0) 0 (cellsW (S.take 0)) ∧ Below w.heap.size w (w1.alloc (.cells #[] 28))) := ⟨own0, hb1.alloc hb1.size _⟩
  clear own0 hb1 HTX HTU
  go_wp2_with fail
  clear a1 a2 a3 z0 z1 z2 z3 z4 ze hu
  go_loopw [8, 9] (fun v i wr => ∃ (k : Nat) (A : Option Addr) (c : Nat), k ≤ 16 ∧ i = .int .i64 (4 * (k : Int)) ∧ v = .slice A k c ∧ wr.ownsRow w.heap.size 28 1 (.slice A k c) k (cellsW (S.take k)) ∧ Below w.heap.size w wr) (fun _ i _ => 64 - (intOf i).toNat)
  case atStart => exact ⟨0, _, _, by omega, rfl, rfl, HS0.out⟩
  case round =>
    clear HS0
    obtain ⟨k, A, c, hk, rfl, rfl, hown, hbel⟩ := hrel
    by_cases hlt : k < 16
    · have hst := HST.out k hlt
      have hw4 : IntKind.i64.wrap (4 * (k : Int) + 4) = 4 * (k : Int) + 4 := IntWalk.i64_in _ (by omega)
      have HLK := hide (HLO.out k hlt)
      have HWT := hide (words_take S k (by rw [HSL.out]; exact hlt))
      generalize (⟨((al.drop (4 * k)).take 4).toArray⟩ : ByteArray) = sp at *
      generalize S.getD k 0 = x at *
      have HOWN := hide hown
      have HBEL := hide hbel
      clear hown hbel
      go_wp2_with fail
      refine (HLK.out wr).mono ?_
      rintro e wq' ⟨rfl, q, rfl⟩
      obtain ⟨wq, hwq⟩ : ∃ wq, wq = wr.drewN q := ⟨_, rfl⟩
      have own1 : (wq.alloc (.cells #[.int .u32 (x : Int)] 28)).ownsRow w.heap.size 28 1 (.slice A k c) k (cellsW (S.take k)) := by rw [hwq]; exact own_alloc (own_drewN HOWN.out) _
      have rd1 : Rds (wq.alloc (.cells #[.int .u32 (x : Int)] 28)) (some ⟨wq.heap.size, 0, none⟩) 1 [.int .u32 (x : Int)] := Rds.new1 _ _ _
      have bel1 : Below w.heap.size w wq := by rw [hwq]; exact below_drewN HBEL.out q
      have HB1 := hide (bel1.alloc bel1.size (.cells #[.int .u32 (x : Int)] 28))
      have hsz1 : w.heap.size ≤ (wq.alloc (.cells #[.int .u32 (x : Int)] 28)).heap.size := HB1.out.size
      have h11 := one1 .u32 (x : Int)
      rw [← hwq]
      clear hwq bel1 HOWN HBEL HLK
      have hk1 : (k + 1) * 4 ≤ 140737488355328 := by omega
      have hk2 : k + 1 ≤ 140737488355328 := by omega
      go_wp2_with (at_builtin; refine wpl_app one_u32 rfl (.tmp 30) (.tmp 37) rfl _ w.heap.size _ k (cellsW (S.take k)) rfl own1 (some ⟨wq.heap.size, 0, none⟩) 1 1 [.int .u32 (x : Int)] rfl rd1 h11 hk1 hk2 hsz1 ?_; intro A2 c2 w2 hown2 hg2 hat2)
      have FIN : Hid (w2.ownsRow w.heap.size 28 1 (.slice A2 (k + 1) c2) (k + 1) (cellsW (S.take (k + 1))) ∧ Below w.heap.size w w2) := by
        rw [HWT.out] at hown2
        exact ⟨hown2, below_frm HB1.out (Frm.of_grown hg2) HB1.out.size (fun i hi => own_ge own1 i hi)⟩
      clear hown2 hg2 hat2 own1 rd1
      have he : 4 * (k : Int) + 4 = 4 * ((k + 1 : Nat) : Int) := by omega
      go_roundw
      case rel => first | exact ⟨k + 1, _, _, by omega, by rw [← he], rfl, FIN.out⟩ | ((repeat apply Exists.intro); exact ⟨⟨k + 1, _, _, by omega, by rw [← he], rfl, FIN.out⟩, rfl⟩)
      case measure => simp [intOf]; omega
    · obtain rfl : k = 16 := by omega
      rw [List.take_of_length_le (by rw [HSL.out]; exact Nat.le_refl _)] at hown
      have rd := (Seg.of_own (xs := cellsW S) (by rw [show (16 : Nat) = (cellsW S).length by rw [cellsW_length, HSL.out]] at hown; exact hown)).rds
      rw [cellsW_length, HSL.out] at rd
      have FA : Frm (fun _ => False) wr (wr.alloc (.cells #[] 28)) := Frm.alloc _ _ _
      have rd1 := rd.frm FA (fun _ _ _ h => h)
      have HSL' := HSL.out
      have h16 : (64 : Int) = 4 * ((16 : Nat) : Int) := by omega
      clear FA
      go_wp2_with (at_builtin; refine wpl_app one_u32 rfl (.tmp 39) (.tmp 40) rfl _ wr.heap.size _ 0 [] rfl (World.ownsRow_made wr #[] 0 (Nat.le_refl _) (by simp [maxLen]) (by simp)) A 16 c (cellsW S) rfl rd1 (cellsW_one S) (by omega) (by omega) (by simp) ?_; intro A3 c3 w3 hown3 hg3 hat3; have p3 := app_madeW HSL' hown3 hg3)
      obtain ⟨gs, rfl, ow3, hgs, F3⟩ := p3
      have HI0 : Hid (RInv w A (some ⟨gs, 0, none⟩) S (TN 0) w3) := by
        rw [HT0.out]
        exact ⟨rd.frm F3 (fun _ _ _ h => h), ow3.rds HSL.out, below_frm hbel F3 hbel.size (fun _ h => h.elim)⟩
      clear hown hbel rd rd1 hown3 hg3 hat3 ow3 F3 HST HLO h16 HSL'
      go_loopw [10, 11] (fun v i wr => ∃ (n : Nat) (As : Option Addr) (cs : Nat), n ≤ 10 ∧ i = .int .i64 (n : Int) ∧ v = .slice As 16 cs ∧ RInv w A As S (TN n) wr) (fun _ i _ => 10 - (intOf i).toNat)
      case atStart => exact ⟨0, _, _, by omega, rfl, rfl, HI0.out⟩
      case round =>
        clear HI0
        obtain ⟨n, As, cs, hn, rfl, rfl, hi⟩ := hrel
        by_cases hlt : n < 10
        · obtain ⟨DN, hDN⟩ : ∃ DN, DN = downL (TN n) := ⟨_, rfl⟩
          have HD0 : Hid (DN 0 = TN n) := by rw [hDN]; rfl
          have HDE : Hid (∀ k, k ≤ 4 → DN k = eightL (TN n) k) := by rw [hDN]; exact fun k hk => down_eight _ (HTL.out n) k hk
          have HDL : Hid (∀ k, (DN k).length = 16) := by rw [hDN]; intro k; rw [downL_length, HTL.out]
          have HDW : Hid (∀ k, k ≤ 4 → Ws (DN k)) := fun k hk => by rw [HDE.out k hk]; exact eightL_ws (HTW.out n) _
          have HDS : Hid (∀ k, DN (k + 1) = quarterL (DN k) k (4 + k) (8 + k) (12 + k)) := by rw [hDN]; intro k; rw [downL]
          obtain ⟨SN, hSN⟩ : ∃ SN, SN = slantL (DN 4) := ⟨_, rfl⟩
          have HS0 : Hid (SN 0 = DN 4) := by rw [hSN]; rfl
          have HSL2 : Hid (∀ k, (SN k).length = 16) := by rw [hSN]; intro k; rw [slantL_length, HDL.out]
          have HSW2 : Hid (∀ k, k ≤ 4 → Ws (SN k)) := fun k hk => by
            rw [hSN, HDE.out 4 (by omega), slant_eight _ (HTL.out n) k hk]
            exact eightL_ws (HTW.out n) _
          have HSS : Hid (∀ k, SN (k + 1) = quarterL (SN k) k (4 + (k + 1) % 4) (8 + (k + 2) % 4) (12 + (k + 3) % 4)) := by rw [hSN]; intro k; rw [slantL]
          have HSE : Hid (TN (n + 1) = SN 4) := by show _ = _; rw [hSN, hDN]; exact HTS.out n
          have HI1 : Hid (RInv w A As S (DN 0) wr) := by rw [HD0.out]; exact hi
          have hlt' : (n : Int) < 10 := by omega
          clear hDN hSN hi HDE HD0
          go_wp2_with fail
          go_loopw [10, 12] (fun v i wr => ∃ (k : Nat) (As : Option Addr) (cs : Nat), k ≤ 4 ∧ i = .int .i64 (k : Int) ∧ v = .slice As 16 cs ∧ RInv w A As S (DN k) wr) (fun _ i _ => 4 - (intOf i).toNat)
          case atStart => exact ⟨0, _, _, by omega, rfl, rfl, HI1.out⟩
          case round =>
            clear HI1
            obtain ⟨k, As, cs, hk, rfl, rfl, hi⟩ := hrel
            by_cases hkt : k < 4
            · have w1' : IntKind.i64.wrap (4 + (k : Int)) = 4 + (k : Int) := IntWalk.i64_in _ (by omega)
              have w2' : IntKind.i64.wrap (8 + (k : Int)) = 8 + (k : Int) := IntWalk.i64_in _ (by omega)
              have w3' : IntKind.i64.wrap (12 + (k : Int)) = 12 + (k : Int) := IntWalk.i64_in _ (by omega)
              have HQ : Hid (Calls Tryz.prog 93 #[.slice As 16 cs, .int .i64 (k : Int), .int .i64 (4 + (k : Int)), .int .i64 (8 + (k : Int)), .int .i64 (12 + (k : Int))] wr fun e w' => ∃ A' c', e = .returned (.slice A' 16 c') ∧ Rds w' A' 16 (cellsW (DN (k + 1))) ∧ Below wr.heap.size wr w') := by
                rw [HDS.out]
                exact rquarter_any As cs (DN k) k (4 + k) (8 + k) (12 + k) wr hi.now (HDL.out k) (HDW.out k hk) (by omega) (by omega) (by omega) (by omega)
              have HI := hide hi
              clear hi
              go_wp2_with fail
              refine HQ.out.mono ?_
              rintro e w5 ⟨A5, c5, rfl, rd5, hb5⟩
              have FIN : Hid (RInv w A A5 S (DN (k + 1)) w5) := ⟨HI.out.first.below hb5, rd5, HI.out.below.trans (hb5.mono HI.out.below.size)⟩
              clear HI rd5 hb5 HQ
              go_wp2_with fail
              go_roundw
              case rel => first | exact ⟨k + 1, _, _, by omega, by go_num, rfl, FIN.out⟩ | ((repeat apply Exists.intro); exact ⟨⟨k + 1, _, _, by omega, by go_num, rfl, FIN.out⟩, rfl⟩)
              case measure => simp [intOf]; omega
            · obtain rfl : k = 4 := by omega
              have HI2 : Hid (RInv w A As S (SN 0) wr) := by rw [HS0.out]; exact hi
              clear hi
              go_wp2_with fail
              go_loopw [10, 13] (fun v i wr => ∃ (k : Nat) (As : Option Addr) (cs : Nat), k ≤ 4 ∧ i = .int .i64 (k : Int) ∧ v = .slice As 16 cs ∧ RInv w A As S (SN k) wr) (fun _ i _ => 4 - (intOf i).toNat)
              case atStart => exact ⟨0, _, _, by omega, rfl, rfl, HI2.out⟩
              case round =>
                clear HI2
                obtain ⟨k, As, cs, hk, rfl, rfl, hi⟩ := hrel
                by_cases hkt : k < 4
                · obtain ⟨r1, hr1⟩ : ∃ r1, r1 = (k + 1) % 4 := ⟨_, rfl⟩
                  obtain ⟨r2, hr2⟩ : ∃ r2, r2 = (k + 2) % 4 := ⟨_, rfl⟩
                  obtain ⟨r3, hr3⟩ : ∃ r3, r3 = (k + 3) % 4 := ⟨_, rfl⟩
                  have t1 : Int.tmod ((k : Int) + 1) 4 = (r1 : Int) := by rw [Int.tmod_eq_emod_of_nonneg (by omega)]; omega
                  have t2 : Int.tmod ((k : Int) + 2) 4 = (r2 : Int) := by rw [Int.tmod_eq_emod_of_nonneg (by omega)]; omega
                  have t3 : Int.tmod ((k : Int) + 3) 4 = (r3 : Int) := by rw [Int.tmod_eq_emod_of_nonneg (by omega)]; omega
                  have u1 : IntKind.i64.wrap ((k : Int) + 1) = (k : Int) + 1 := IntWalk.i64_in _ (by omega)
                  have u2 : IntKind.i64.wrap ((k : Int) + 2) = (k : Int) + 2 := IntWalk.i64_in _ (by omega)
                  have u3 : IntKind.i64.wrap ((k : Int) + 3) = (k : Int) + 3 := IntWalk.i64_in _ (by omega)
                  have w1' : IntKind.i64.wrap (4 + (r1 : Int)) = 4 + (r1 : Int) := IntWalk.i64_in _ (by omega)
                  have w2' : IntKind.i64.wrap (8 + (r2 : Int)) = 8 + (r2 : Int) := IntWalk.i64_in _ (by omega)
                  have w3' : IntKind.i64.wrap (12 + (r3 : Int)) = 12 + (r3 : Int) := IntWalk.i64_in _ (by omega)
                  have HQ : Hid (Calls Tryz.prog 93 #[.slice As 16 cs, .int .i64 (k : Int), .int .i64 (4 + (r1 : Int)), .int .i64 (8 + (r2 : Int)), .int .i64 (12 + (r3 : Int))] wr fun e w' => ∃ A' c', e = .returned (.slice A' 16 c') ∧ Rds w' A' 16 (cellsW (SN (k + 1))) ∧ Below wr.heap.size wr w') := by
                    rw [HSS.out, ← hr1, ← hr2, ← hr3]
                    exact rquarter_any As cs (SN k) k (4 + r1) (8 + r2) (12 + r3) wr hi.now (HSL2.out k) (HSW2.out k hk) (by omega) (by omega) (by omega) (by omega)
                  have HI := hide hi
                  clear hi hr1 hr2 hr3
                  go_wp2_with fail
                  refine HQ.out.mono ?_
                  rintro e w5 ⟨A5, c5, rfl, rd5, hb5⟩
                  have FIN : Hid (RInv w A A5 S (SN (k + 1)) w5) := ⟨HI.out.first.below hb5, rd5, HI.out.below.trans (hb5.mono HI.out.below.size)⟩
                  clear HI rd5 hb5 HQ t1 t2 t3 u2 u3 w1' w2' w3'
                  go_wp2_with fail
                  go_roundw
                  case rel => first | exact ⟨k + 1, _, _, by omega, by go_num, rfl, FIN.out⟩ | ((repeat apply Exists.intro); exact ⟨⟨k + 1, _, _, by omega, by go_num, rfl, FIN.out⟩, rfl⟩)
                  case measure => simp [intOf]; omega
                · obtain rfl : k = 4 := by omega
                  have FIN : Hid (RInv w A As S (TN (n + 1)) wr) := by rw [HSE.out]; exact hi
                  clear hi
                  go_wp2_with fail
                  go_roundw
                  case rel => first | exact ⟨n + 1, _, _, by omega, by go_num, rfl, FIN.out⟩ | ((repeat apply Exists.intro); exact ⟨⟨n + 1, _, _, by omega, by go_num, rfl, FIN.out⟩, rfl⟩)
                  case measure => simp [intOf]; omega
        · obtain rfl : n = 10 := by omega
          obtain ⟨M, hM⟩ : ∃ M, M = TN 10 := ⟨_, rfl⟩
          have HML : Hid (M.length = 16) := by rw [hM]; exact HTL.out 10
          rw [← hM] at hi
          have HPL : Hid ((plus M S).length = 16) := by show _ = _; rw [plus_length _ _ (by rw [HML.out, HSL.out]), HML.out]
          have HPA : Hid (∀ k, k < 16 → (plus M S).getD k 0 = ad (M.getD k 0) (S.getD k 0)) := fun k hk => by
            rw [List.getD_eq_getElem?_getD, plus_at M S k (by rw [HML.out]; exact hk) (by rw [HSL.out]; exact hk)]; rfl
          obtain ⟨PP, hPP⟩ : ∃ PP, PP = plus M S := ⟨_, rfl⟩
          rw [← hPP] at HPL HPA
          have HPE : Hid ((plus (TN 10) S).flatMap le4 = PP.flatMap le4) := by show _ = _; rw [hPP, hM]
          have HI2 := hide hi
          clear hi hM hPP HTL HTW HTS HT0
          go_wp2_with fail
          go_loopw [14, 15] (fun v i wr => ∃ (k : Nat), k ≤ 16 ∧ i = .int .i64 (k : Int) ∧ v = .string ⟨((PP.take k).flatMap le4).toArray⟩ ∧ RInv w A As S M wr) (fun _ i _ => 16 - (intOf i).toNat)
          case atStart => exact ⟨0, by omega, rfl, rfl, HI2.out⟩
          case round =>
            clear HI2
            obtain ⟨k, hk, rfl, rfl, hi⟩ := hrel
            by_cases hkt : k < 16
            · obtain ⟨pa, rfl, ca⟩ := hi.now.at
              obtain ⟨pb, rfl, cb⟩ := hi.first.at
              have ck : (k : Int) < 16 := by omega
              have HCA := hide (ca k hkt)
              have HCB := hide (cb k hkt)
              have wz : IntKind.u32.wrap ((M.getD k 0 : Int) + (S.getD k 0 : Int)) = (ad (M.getD k 0) (S.getD k 0) : Nat) := by rw [IntKind.wrap_u32']; exact ad_int _ _
              have lz := ad_lt (M.getD k 0) (S.getD k 0)
              have HNX : Hid ((PP.take (k + 1)).flatMap le4 = (PP.take k).flatMap le4 ++ le4 (ad (M.getD k 0) (S.getD k 0))) := by
                show _ = _
                rw [← HPA.out k hkt, List.take_succ_eq_append_getElem (by rw [HPL.out]; exact hkt), List.flatMap_append, List.getD_eq_getElem?_getD, List.getElem?_eq_getElem (by rw [HPL.out]; exact hkt)]
                simp
              generalize ad (M.getD k 0) (S.getD k 0) = z at *
              generalize M.getD k 0 = x at *
              generalize S.getD k 0 = y at *
              have uz : IntKind.u64.wrap (z : Int) = (z : Int) := by rw [IntKind.wrap_u64]; omega
              obtain ⟨sb, hsb⟩ : ∃ sb, sb = (⟨(be 4 z).toArray⟩ : ByteArray) := ⟨_, rfl⟩
              obtain ⟨sl, hsl⟩ : ∃ sl, sl = (⟨(le4 z).toArray⟩ : ByteArray) := ⟨_, rfl⟩
              obtain ⟨so, hso⟩ : ∃ so, so = (⟨((PP.take k).flatMap le4).toArray⟩ : ByteArray) := ⟨_, rfl⟩
              obtain ⟨st, hst⟩ : ∃ st, st = (⟨((PP.take (k + 1)).flatMap le4).toArray⟩ : ByteArray) := ⟨_, rfl⟩
              have HTX : Hid (∀ W, Calls Tryz.prog 46 #[.int .u64 (z : Int), .int .i64 4] W fun e w' => e = .returned (.string sb) ∧ Below W.heap.size W w') := by rw [hsb]; exact fun W => text_any z 4 W (by omega) (by omega)
              have HTU : Hid (∀ W, Calls Tryz.prog 91 #[.string sb] W fun e w' => e = .returned (.string sl) ∧ W = w') := by rw [hsb, hsl]; exact fun W => rturned_any (be 4 z) W (by rw [be_length]; omega)
              have hadd : so ++ sl = st := by rw [hso, hsl, hst, HNX.out]; exact txt_append _ _
              have zl : sl.size = 4 := by rw [hsl, txt_size, le4_length]
              have zo : so.size ≤ 1000 := by rw [hso, txt_size, flatle_length, List.length_take]; omega
              have HST2 := hide hst
              rw [← hso]
              have FD : Frm (fun _ => False) wr wr.drew := (Frm.refl _ _).drew
              have H0 : RInv w (some pb) (some pa) S M wr.drew := ⟨hi.first, hi.now, ⟨hi.below.os, hi.below.tape, hi.below.output, hi.below.size, hi.below.block⟩⟩
              have cA : wr.drew.cell? (pa.add k) = some (.int .u32 (x : Int)) := HCA.out
              have cB : wr.drew.cell? (pb.add k) = some (.int .u32 (y : Int)) := HCB.out
              clear hi ca cb hsb hsl hso hst HCA HCB FD lz HNX
              go_wp2_with fail
              refine wp_region_held_drew (S := fun W => W.cell? (pa.add k) = some (.int .u32 (x : Int)) ∧ W.cell? (pb.add k) = some (.int .u32 (y : Int))) (by kernel_rfl) (⟨cA, cB⟩) ?_
              intro hHeld
              obtain ⟨W0, hW0⟩ : ∃ W', W' = wr.drew := ⟨_, rfl⟩
              rw [← hW0] at H0 cA cB hHeld ⊢
              clear hW0
              refine tkH 0 (v := ?v1) rfl ?hy1 ?rest1
              case hy1 => (intro w hSw; (try dsimp only at hSw); go_simp; try with_reducible rfl)
              try simp only [Act.put, PTs]
              refine tkH 1 (v := ?v2) rfl ?hy2 ?rest2
              case hy2 => (intro w hSw; (try dsimp only at hSw); go_simp; try with_reducible rfl)
              try simp only [Act.put, PTs]
              refine tkH 2 (v := ?v3) rfl ?hy3 ?rest3
              case hy3 => (intro w hSw; (try dsimp only at hSw); go_simp; try with_reducible rfl)
              try simp only [Act.put, PTs]
              refine tkH 3 (v := ?v4) rfl ?hy4 ?rest4
              case hy4 => (intro w hSw; (try dsimp only at hSw); go_simp; try with_reducible rfl)
              try simp only [Act.put, PTs]
              refine tkH 4 (v := ?v5) rfl ?hy5 ?rest5
              case hy5 => (intro w hSw; obtain ⟨h1, h2⟩ := hSw; go_simp; try with_reducible rfl)
              try simp only [Act.put, PTs]
              refine tkH 5 (v := ?v6) rfl ?hy6 ?rest6
              case hy6 => (intro w hSw; (try dsimp only at hSw); go_simp; try with_reducible rfl)
              try simp only [Act.put, PTs]
              refine tkH 6 (v := ?v7) rfl ?hy7 ?rest7
              case hy7 => (intro w hSw; (try dsimp only at hSw); go_simp; try with_reducible rfl)
              try simp only [Act.put, PTs]
              refine tkH 7 (v := ?v8) rfl ?hy8 ?rest8
              case hy8 => (intro w hSw; (try dsimp only at hSw); go_simp; try with_reducible rfl)
              try simp only [Act.put, PTs]
              refine tkH 8 (v := ?v9) rfl ?hy9 ?rest9
              case hy9 => (intro w hSw; obtain ⟨h1, h2⟩ := hSw; go_simp; try with_reducible rfl)
              try simp only [Act.put, PTs]
              refine tkH 9 (v := ?v10) rfl ?hy10 ?rest10
              case hy10 => (intro w hSw; (try dsimp only at hSw); go_simp; try with_reducible rfl)
              try simp only [Act.put, PTs]
              refine tkH 10 (v := ?v11) rfl ?hy11 ?rest11
              case hy11 => (intro w hSw; (try dsimp only at hSw); go_simp; try with_reducible rfl)
              try simp only [Act.put, PTs]
              refine rdH 11 rfl (by kernel_rfl) (fun K hK => ?_)
              go_simp
              refine (HTX.out W0).mono ?_
              rintro e W1 ⟨rfl, hb1⟩
              have H1 := H0.of_below hb1
              have cA1 : W1.cell? (pa.add k) = some (.int .u32 (x : Int)) := by rw [hb1.cell (World.block_lt_of_cell? W0 _ cA)]; exact cA
              have cB1 : W1.cell? (pb.add k) = some (.int .u32 (y : Int)) := by rw [hb1.cell (World.block_lt_of_cell? W0 _ cB)]; exact cB
              refine hK.out _ _ (⟨cA1, cB1⟩) (fun hHeld => ?_)
              clear hK K
              try simp only [Act.put, PTs]
              refine rdH 12 rfl (by kernel_rfl) (fun K hK => ?_)
              go_simp
              refine (HTU.out W1).mono ?_
              rintro e W2 ⟨rfl, rfl⟩
              refine hK.out _ _ (⟨cA1, cB1⟩) (fun hHeld => ?_)
              clear hK K
              try simp only [Act.put, PTs]
              refine tkH 13 (v := ?v12) rfl ?hy12 ?rest12
              case hy12 => (intro w hSw; go_simp; rw [if_neg (by omega)])
              try simp only [Act.put, PTs]
              refine tkH 14 (v := ?v13) rfl ?hy13 ?rest13
              case hy13 => (intro w hSw; (try dsimp only at hSw); go_simp; try with_reducible rfl)
              try simp only [Act.put, PTs]
              refine wpAnyH_done (by kernel_rfl) ?_ _
              have FIN := hide H1
              clear cA cB cA1 cB1 H0 H1 hHeld HTX HTU
              go_wp2_with fail
              go_roundw
              case rel => first | exact ⟨k + 1, by omega, by go_num, by rw [HST2.out], FIN.out⟩ | ((repeat apply Exists.intro); exact ⟨⟨k + 1, by omega, by go_num, by rw [HST2.out], FIN.out⟩, rfl⟩)
              case measure => simp [intOf]; omega
            · obtain rfl : k = 16 := by omega
              rw [List.take_of_length_le (by rw [HPL.out]; exact Nat.le_refl _)]
              have HB := hide hi.below
              clear hi
              go_wp2_with fail
              go_ret
              exact ⟨congrArg (fun l : List UInt8 => Ending.returned (.string ⟨l.toArray⟩)) HPE.out.symm, HB.out⟩
theorem blocks_cut (key nonce : List UInt8) (k M : Nat) (h : M ≤ 64 * k) (h2 : k = 0 ∨ 64 * (k - 1) < M) : (blocksL key nonce k).take M = streamL key nonce M := by
  rw [streamL]
  by_cases h0 : M = 0
  · subst h0
    simp
  · have : (M + 63) / 64 = k := by omega
    rw [this]
set_option maxRecDepth 100000 in
set_option maxHeartbeats 4000000 in
theorem rstream_any (key nonce : List UInt8) (n : Int) (w : World) (hk : key.length = 32) (hno : nonce.length = 12) (hn : n ≤ 1000) :
    Calls Tryz.prog 45 #[.string ⟨key.toArray⟩, .string ⟨nonce.toArray⟩, .int .i64 n] w fun e w' => e = .returned (.string ⟨(streamL key nonce n.toNat).toArray⟩) ∧ Below w.heap.size w w' := by
  have HRB := hide (fun ctr W hc => rblock_any key nonce ctr W hk hno hc)
  obtain ⟨BL, hBL⟩ : ∃ BL, BL = blocksL key nonce := ⟨_, rfl⟩
  obtain ⟨CH, hCH⟩ : ∃ CH : Nat → List UInt8, CH = fun i => chaL key i nonce := ⟨_, rfl⟩
  have HB0 : Hid (BL 0 = []) := by rw [hBL]; rfl
  have HBS : Hid (∀ k, BL (k + 1) = BL k ++ CH k) := by rw [hBL, hCH]; intro k; rw [blocksL]
  have HBL : Hid (∀ k, (BL k).length = 64 * k) := by rw [hBL]; exact fun k => blocksL_length _ _ _
  have HCL : Hid (∀ k, (CH k).length = 64) := by rw [hCH]; exact fun k => chaL_length _ _ _
  have HRB2 : Hid (∀ (ctr : Nat) (W : World), ctr < 4294967296 → Calls Tryz.prog 68 #[.string ⟨key.toArray⟩, .int .u32 (ctr : Int), .string ⟨nonce.toArray⟩] W fun e w' => e = .returned (.string ⟨(CH ctr).toArray⟩) ∧ Below W.heap.size W w') := by rw [hCH]; exact HRB.out
  have HCT : Hid (∀ k, n.toNat ≤ 64 * k → (k = 0 ∨ 64 * (k - 1) < n.toNat) → (BL k).take n.toNat = streamL key nonce n.toNat) := by rw [hBL]; exact fun k h1 h2 => blocks_cut key nonce k _ h1 h2
  obtain ⟨T, hT⟩ : ∃ T, T = streamL key nonce n.toNat := ⟨_, rfl⟩
  rw [← hT] at HCT ⊢
  obtain ⟨N, hN⟩ : ∃ N, N = n.toNat := ⟨_, rfl⟩
  rw [← hN] at HCT
  have HMX : Hid ((N : Int) = if (0 : Int) > n then 0 else n) := by show _ = _; rw [hN]; split <;> omega
  have hN1 : N ≤ 1000 := by omega
  have hNn : ∀ z : Nat, ¬ ((z : Int) < n) → N ≤ z := fun z h => by omega
  have hNp : ∀ z : Nat, (z : Int) < n → z < N := fun z h => by omega
  have HNn := hide hNn
  have HNp := hide hNp
  clear hBL hCH HRB hT hN hk hno hNn hNp
  generalize (⟨key.toArray⟩ : ByteArray) = sk at *
  generalize (⟨nonce.toArray⟩ : ByteArray) = sn at *
  have hs0 : (⟨#[]⟩ : ByteArray) = ⟨(BL 0).toArray⟩ := by rw [HB0.out]
  go_enter Tryz.func45, Tryz.ntmps45
  go_wp2_with fail
  go_loopw [7, 8] (fun v i wr => ∃ k : Nat, k ≤ 16 ∧ i = .int .i64 (k : Int) ∧ v = .string ⟨(BL k).toArray⟩ ∧ (k = 0 ∨ 64 * (k - 1) < N) ∧ Below w.heap.size w wr) (fun _ i _ => 16 - (intOf i).toNat)
  case atStart => exact ⟨0, by omega, rfl, by rw [HB0.out], .inl rfl, Below.refl _ _⟩
  case round =>
    obtain ⟨k, hk, rfl, rfl, hk1, hbel⟩ := hrel
    obtain ⟨z, hz⟩ : ∃ z, z = 64 * k := ⟨_, rfl⟩
    have hsz : (⟨(BL k).toArray⟩ : ByteArray).size = z := by rw [txt_size, HBL.out, hz]
    by_cases hlt : (z : Int) < n
    · have hzN := HNp.out z hlt
      have hu : IntKind.u32.wrap (k : Int) = (k : Int) := by rw [IntKind.wrap_u32']; omega
      have HRK := hide (fun W => HRB2.out k W (by omega))
      have hadd : (⟨(BL k).toArray⟩ ++ ⟨(CH k).toArray⟩ : ByteArray) = ⟨(BL (k + 1)).toArray⟩ := by rw [HBS.out]; exact txt_append _ _
      have hs2 : (⟨(CH k).toArray⟩ : ByteArray).size = 64 := by rw [txt_size, HCL.out]
      obtain ⟨st, hst⟩ : ∃ st, st = (⟨(BL (k + 1)).toArray⟩ : ByteArray) := ⟨_, rfl⟩
      rw [← hst] at hadd
      have HST := hide hst
      generalize (⟨(BL k).toArray⟩ : ByteArray) = so at *
      generalize (⟨(CH k).toArray⟩ : ByteArray) = sc at *
      have HBE := hide hbel
      have hz1 : z ≤ 100000 := by omega
      have hk15 : k + 1 ≤ 16 := by omega
      have hk2 : k + 1 = 0 ∨ 64 * (k + 1 - 1) < N := by omega
      clear hbel hst hz hk1
      go_wp2_with fail
      refine (HRK.out wr).mono ?_
      rintro e w2 ⟨rfl, hb2⟩
      have HB2 := hide (HBE.out.trans (hb2.mono HBE.out.size))
      clear hb2 HRK HBE
      go_wp2_with fail
      go_roundw
      case rel => first | exact ⟨k + 1, hk15, by go_num, by rw [HST.out], hk2, HB2.out⟩ | ((repeat apply Exists.intro); exact ⟨⟨k + 1, hk15, by go_num, by rw [HST.out], hk2, HB2.out⟩, rfl⟩)
      case measure => simp [intOf]; omega
    · have hzN := HNn.out z (by omega)
      have hct := HCT.out k (by omega) hk1
      have hsl : ∀ w, Sem.run Tryz.prog (Instr.sliceAt 9 (.string ⟨(BL k).toArray⟩) none (some (.int .i64 (N : Int))) none) w = .ok (.string ⟨T.toArray⟩) w := fun w => by
        have := str_to (BL k) N (by rw [HBL.out]; omega) w
        rwa [hct] at this
      generalize (⟨(BL k).toArray⟩ : ByteArray) = so at *
      have HBE := hide hbel
      clear hbel hct
      go_wp2_with (with_reducible refine wpl_max (op := ⟨some 24, _, _, _, _, _⟩) rfl _ _ _ _ rfl _ _ _ (N : Int) rfl rfl HMX.out ?_)
      go_ret
      exact ⟨rfl, HBE.out⟩
end Go.Proofs.YtoiiiflnnhkjbaaGreatDoor
