/-
  The document's own words for ChaCha20: turns, numbers, bytes turned round.
-/
import Derived.Test.YtjdffceeinflcaaDoorCh9
import Derived.Test.YtjdffceeinflcaaDoorGenT
namespace Go.Proofs.YtjdffceeinflcaaDoor
set_option linter.unusedVariables false
open Go.RowKit

theorem left_eq (x k : Nat) (hx : x < 4294967296) (h1 : 1 ≤ k) (h2 : k ≤ 31) : x * 2 ^ k % 4294967296 + x / 2 ^ (32 - k) = leftN x k := by
  have hp : (4294967296 : Nat) = 2 ^ (32 - k) * 2 ^ k := by rw [← Nat.pow_add, show 32 - k + k = 32 by omega]
  have h3 : x / 2 ^ (32 - k) < 2 ^ k := by
    rw [Nat.div_lt_iff_lt_mul (Nat.two_pow_pos _), Nat.mul_comm, ← hp]
    exact hx
  have h4 : x * 2 ^ k % 4294967296 = (x % 2 ^ (32 - k)) * 2 ^ k := by rw [hp, Nat.mul_mod_mul_right]
  rw [leftN, rotN, show 32 - (32 - k) = k by omega, h4]
  exact (Nat.shiftLeft_eq _ _ ▸ Nat.shiftLeft_add_eq_or_of_lt h3 (x % 2 ^ (32 - k)) : _)

set_option maxHeartbeats 2000000 in
theorem left_any (x k : Nat) (w : World) (hx : x < 4294967296) (h1 : 1 ≤ k) (h2 : k ≤ 31) :
    Calls Tryd.prog 26 #[.int .u32 (x : Int), .int .i64 (k : Int)] w fun e w' => e = .returned (.int .u32 (leftN x k : Nat)) ∧ ∃ q, w' = w.drewN q := by
  obtain ⟨p, hp⟩ : ∃ p : Nat, p = 2 ^ k := ⟨_, rfl⟩
  obtain ⟨q, hq⟩ : ∃ q : Nat, q = 2 ^ (32 - k) := ⟨_, rfl⟩
  have hpl : p < 4294967296 := by
    rw [hp]
    have : (2 : Nat) ^ k ≤ 2 ^ 31 := Nat.pow_le_pow_right (by omega) h2
    omega
  have hql : q < 4294967296 := by
    rw [hq]
    have : (2 : Nat) ^ (32 - k) ≤ 2 ^ 31 := Nat.pow_le_pow_right (by omega) (by omega)
    omega
  have hq0 : 0 < q := by rw [hq]; exact Nat.two_pow_pos _
  have f1 : IntKind.u32.wrap (2 ^ k) = (p : Int) := by
    rw [IntKind.wrap_u32', ← pow_cast, ← hp]
    omega
  have f2 : IntKind.u32.wrap (2 ^ (32 - k)) = (q : Int) := by
    rw [IntKind.wrap_u32', ← pow_cast, ← hq]
    omega
  have w1 : IntKind.i64.wrap (32 - (k : Int)) = 32 - (k : Int) := IntWalk.i64_in _ (by omega)
  obtain ⟨y, hy⟩ : ∃ y : Nat, y = x * p % 4294967296 := ⟨_, rfl⟩
  obtain ⟨z, hz⟩ : ∃ z : Nat, z = x / q := ⟨_, rfl⟩
  have w2 : IntKind.u32.wrap ((x : Int) * (p : Int)) = (y : Int) := by rw [IntKind.wrap_u32', hy]; simp
  have hzx : z ≤ x := by rw [hz]; exact Nat.div_le_self _ _
  have w3 : Int.tdiv (x : Int) (q : Int) = (z : Int) := by rw [Int.tdiv_eq_ediv_of_nonneg (by omega), hz]; rfl
  have w3' : IntKind.u32.wrap (z : Int) = (z : Int) := by rw [IntKind.wrap_u32']; omega
  have w4 : IntKind.u32.wrap ((y : Int) + (z : Int)) = (leftN x k : Nat) := by
    have h := left_eq x k hx h1 h2
    rw [← hp, ← hq, ← hy, ← hz] at h
    rw [IntKind.wrap_u32', ← h]
    have := leftN_lt (k := k) hx
    omega
  have hq0' : ¬ ((q : Int) = 0) := by omega
  generalize leftN x k = r at *
  clear hp hq hy hz hpl hql hzx hq0
  go_enter Tryd.func26, Tryd.ntmps26
  go_wp2_with fail
  go_quiet (fail)
  go_wp2
  go_ret
  exact ⟨rfl, _, rfl⟩

set_option maxHeartbeats 2000000 in
theorem rlow_any (l : List UInt8) (w : World) (hl : l.length = 4) :
    Calls Tryd.prog 22 #[.string ⟨l.toArray⟩] w fun e w' => e = .returned (.int .u32 (lowN l : Nat)) ∧ ∃ q, w' = w.drewN q := by
  match l, hl with
  | [b0, b1, b2, b3], _ =>
    have l0 := b0.toNat_lt
    have l1 := b1.toNat_lt
    have l2 := b2.toNat_lt
    have l3 := b3.toNat_lt
    have i0 : ∀ w, Sem.run Tryd.prog (Instr.index 9 (.string ⟨[b0, b1, b2, b3].toArray⟩) (.int .i64 0)) w = .ok (.int .u8 (b0.toNat : Int)) w := fun w => str_index [b0, b1, b2, b3] 0 (by simp) w
    have i1 : ∀ w, Sem.run Tryd.prog (Instr.index 9 (.string ⟨[b0, b1, b2, b3].toArray⟩) (.int .i64 1)) w = .ok (.int .u8 (b1.toNat : Int)) w := fun w => str_index [b0, b1, b2, b3] 1 (by simp) w
    have i2 : ∀ w, Sem.run Tryd.prog (Instr.index 9 (.string ⟨[b0, b1, b2, b3].toArray⟩) (.int .i64 2)) w = .ok (.int .u8 (b2.toNat : Int)) w := fun w => str_index [b0, b1, b2, b3] 2 (by simp) w
    have i3 : ∀ w, Sem.run Tryd.prog (Instr.index 9 (.string ⟨[b0, b1, b2, b3].toArray⟩) (.int .i64 3)) w = .ok (.int .u8 (b3.toNat : Int)) w := fun w => str_index [b0, b1, b2, b3] 3 (by simp) w
    have HE := hide (low_eq b0 b1 b2 b3)
    obtain ⟨r, hr⟩ : ∃ r, r = lowN [b0, b1, b2, b3] := ⟨_, rfl⟩
    rw [← hr] at HE ⊢
    obtain ⟨x1, h1⟩ : ∃ x1 : Nat, x1 = b1.toNat * 256 := ⟨_, rfl⟩
    obtain ⟨x2, h2⟩ : ∃ x2 : Nat, x2 = b0.toNat + x1 := ⟨_, rfl⟩
    obtain ⟨x3, h3⟩ : ∃ x3 : Nat, x3 = b2.toNat * 65536 := ⟨_, rfl⟩
    obtain ⟨x4, h4⟩ : ∃ x4 : Nat, x4 = x2 + x3 := ⟨_, rfl⟩
    obtain ⟨x5, h5⟩ : ∃ x5 : Nat, x5 = b3.toNat * 16777216 := ⟨_, rfl⟩
    have e1 : IntKind.u32.wrap ((b1.toNat : Int) * 256) = (x1 : Int) := by rw [IntKind.wrap_u32']; omega
    have e2 : IntKind.u32.wrap ((b0.toNat : Int) + (x1 : Int)) = (x2 : Int) := by rw [IntKind.wrap_u32']; omega
    have e3 : IntKind.u32.wrap ((b2.toNat : Int) * 65536) = (x3 : Int) := by rw [IntKind.wrap_u32']; omega
    have e4 : IntKind.u32.wrap ((x2 : Int) + (x3 : Int)) = (x4 : Int) := by rw [IntKind.wrap_u32']; omega
    have e5 : IntKind.u32.wrap ((b3.toNat : Int) * 16777216) = (x5 : Int) := by rw [IntKind.wrap_u32']; omega
    have e6 : IntKind.u32.wrap ((x4 : Int) + (x5 : Int)) = (r : Int) := by rw [IntKind.wrap_u32', HE.out]; omega
    have u0 : IntKind.u32.wrap (b0.toNat : Int) = (b0.toNat : Int) := by rw [IntKind.wrap_u32']; omega
    have u1 : IntKind.u32.wrap (b1.toNat : Int) = (b1.toNat : Int) := by rw [IntKind.wrap_u32']; omega
    have u2 : IntKind.u32.wrap (b2.toNat : Int) = (b2.toNat : Int) := by rw [IntKind.wrap_u32']; omega
    have u3 : IntKind.u32.wrap (b3.toNat : Int) = (b3.toNat : Int) := by rw [IntKind.wrap_u32']; omega
    clear h1 h2 h3 h4 h5
    generalize (⟨[b0, b1, b2, b3].toArray⟩ : ByteArray) = st at *
    generalize b0.toNat = n0 at *
    generalize b1.toNat = n1 at *
    generalize b2.toNat = n2 at *
    generalize b3.toNat = n3 at *
    clear hr HE
    go_enter Tryd.func22, Tryd.ntmps22
    go_wp2_with fail
    go_quiet (fail)
    go_wp2
    go_ret
    exact ⟨rfl, _, rfl⟩

set_option maxHeartbeats 2000000 in
theorem rturned_any (l : List UInt8) (w : World) (hl : l.length ≤ 1000) :
    Calls Tryd.prog 20 #[.string ⟨l.toArray⟩] w fun e w' => e = .returned (.string ⟨l.reverse.toArray⟩) ∧ w = w' := by
  obtain ⟨n, hn⟩ : ∃ n, n = l.length := ⟨_, rfl⟩
  have hsz : (⟨l.toArray⟩ : ByteArray).size = n := by rw [txt_size, hn]
  have HSL : Hid (∀ k, k < n → ∀ w, Sem.run Tryd.prog (Instr.sliceAt 9 (.string ⟨l.toArray⟩) (some (.int .i64 (k : Int))) (some (.int .i64 ((k : Int) + 1))) none) w = .ok (.string ⟨[l.getD k 0].toArray⟩) w) := fun k hk w => by
    have := slice_text l k (k + 1) (by omega) (by omega) w
    rw [show k + 1 - k = 1 by omega, show (l.drop k).take 1 = [l.getD k 0] by rw [List.drop_eq_getElem_cons (by omega), List.getD_eq_getElem?_getD, List.getElem?_eq_getElem (by omega)]; rfl] at this
    exact this
  have HN := hide hn
  have hn1 : n ≤ 1000 := by omega
  clear hn hl
  obtain ⟨st, hst⟩ : ∃ st, st = (⟨l.toArray⟩ : ByteArray) := ⟨_, rfl⟩
  rw [← hst] at hsz HSL ⊢
  clear hst
  go_enter Tryd.func20, Tryd.ntmps20
  go_wp2_with fail
  go_loopw [3, 4] (fun t i wr => ∃ k : Nat, k ≤ n ∧ i = .int .i64 k ∧ t = .string ⟨(l.take k).reverse.toArray⟩ ∧ w = wr) (fun _ i _ => n - (intOf i).toNat)
  case atStart => exact ⟨0, by omega, rfl, rfl, rfl⟩
  case round =>
    obtain ⟨k, hk, rfl, rfl, rfl⟩ := hrel
    by_cases hlt : k < n
    · have hsl := HSL.out k hlt
      have hadd : (⟨[l.getD k 0].toArray⟩ ++ ⟨(l.take k).reverse.toArray⟩ : ByteArray) = ⟨(l.take (k + 1)).reverse.toArray⟩ := by
        have hk' : k < l.length := by rw [← HN.out]; exact hlt
        have h1 : l.take (k + 1) = l.take k ++ [l.getD k 0] := by
          rw [List.take_succ_eq_append_getElem hk', List.getD_eq_getElem?_getD, List.getElem?_eq_getElem hk']
          rfl
        rw [txt_append, h1, List.reverse_append]
        rfl
      have hs1 : (⟨[l.getD k 0].toArray⟩ : ByteArray).size = 1 := rfl
      have hs2 : (⟨(l.take k).reverse.toArray⟩ : ByteArray).size ≤ 1000 := by rw [txt_size, List.length_reverse, List.length_take]; omega
      generalize (⟨[l.getD k 0].toArray⟩ : ByteArray) = s1 at *
      generalize (⟨(l.take k).reverse.toArray⟩ : ByteArray) = s2 at *
      obtain ⟨s3, hs3⟩ : ∃ s3, s3 = (⟨(l.take (k + 1)).reverse.toArray⟩ : ByteArray) := ⟨_, rfl⟩
      rw [← hs3] at hadd
      have HS3 := hide hs3
      clear hs3
      go_wp2_with fail
      go_roundw
      case rel => exact ⟨k + 1, by omega, by go_num, by rw [HS3.out], by first | rfl | trivial⟩
      case measure => simp [intOf]; omega
    · obtain rfl : k = n := by omega
      rw [List.take_of_length_le (by rw [← HN.out]; exact Nat.le_refl _)]
      go_wp2_with fail
      go_ret
      exact ⟨rfl, rfl⟩
end Go.Proofs.YtjdffceeinflcaaDoor
