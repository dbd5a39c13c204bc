/-
  ReplayFull's walk: whatever comes in, the law returns true, and what lay lies as it lay.
-/
import Derived.Test.YtdilfiojfjgejaaRp6
namespace Go.Proofs.Ytdilfiojfjgejaa
set_option linter.unusedVariables false
set_option linter.unusedSimpArgs false
open Go.RowKit

theorem mask16 (n : Int) : bits .and .i64 n 65535 = n % 65536 := by
  have h1 : (BitVec.ofInt 64 65535).toNat = 2 ^ 16 - 1 := by decide
  have key : (BitVec.ofInt 64 n &&& BitVec.ofInt 64 65535).toNat = (n % ((2 ^ 64 : Nat) : Int)).toNat % 2 ^ 16 := by
    rw [BitVec.toNat_and, BitVec.toNat_ofInt, h1, Nat.and_two_pow_sub_one_eq_mod]
  show IntKind.i64.wrap ((BitVec.ofInt 64 n &&& BitVec.ofInt 64 65535).toNat : Nat) = n % 65536
  rw [key, IntKind.wrap_i64]
  omega
theorem mask_nat (n : Int) : ∃ x : Nat, bits .and .i64 n 65535 = (x : Int) ∧ x ≤ 65535 := ⟨(n % 65536).toNat, by rw [mask16]; omega, by omega⟩
def tgk (k : Nat) : Tg := tg2 (UInt8.ofNat k) 5
theorem ofNat8 {k : Nat} (h : k < 256) : (UInt8.ofNat k).toNat = k := by rw [UInt8.toNat_ofNat']; omega
theorem build_tagk (k : Nat) (h : k < 256) (w : World) : Sem.run Try.prog (Instr.build 30 #[(0, .int .u8 (k : Int)), (1, .int .u8 5)]) w = .ok (.agg (tgC (tgk k)).toArray) w := by
  have := build_tag2 (UInt8.ofNat k) 5 w
  rw [ofNat8 h] at this
  exact this
theorem tgk_inj {i k : Nat} (hi : i < 256) (hk : k < 256) (h : tgk i = tgk k) : i = k := by
  have h1 : (UInt8.ofNat i) = (UInt8.ofNat k) := by
    have := congrArg (fun x : Tg => x.1.head?) h
    simpa [tgk, tg2] using this
  have h2 := congrArg UInt8.toNat h1
  rw [ofNat8 hi, ofNat8 hk] at h2
  exact h2
/-- What is remembered behind k tags. -/
def fullL (e k : Nat) : List Ent := (List.range k).map fun i => ⟨e, tgk i⟩
def fullT (K e k : Nat) : T := ⟨K, 0, fullL e (Nat.min k K)⟩
theorem fullL_length (e k : Nat) : (fullL e k).length = k := by simp [fullL]
theorem fullL_mem {e k i : Nat} (hk : k ≤ 256) (hi : i < 256) : (⟨e, tgk i⟩ : Ent) ∈ fullL e k ↔ i < k := by
  unfold fullL
  rw [List.mem_map]
  constructor
  · rintro ⟨j, hj, he⟩
    injection he with _ he
    have hj := List.mem_range.1 hj
    have := tgk_inj (by omega) hi he
    omega
  · exact fun h => ⟨i, List.mem_range.2 h, rfl⟩
theorem fullL_cnt (e k : Nat) : cnt (fullL e k) e = k := by
  unfold cnt
  rw [List.countP_eq_length.2 (fun s hs => by
    obtain ⟨j, _, rfl⟩ := List.mem_map.1 hs
    simp), fullL_length]
theorem fullT_has {K e k i : Nat} (hk : k ≤ 256) (hi : i < 256) : (fullT K e k).has e (tgk i) = decide (i < Nat.min k K) := by
  unfold T.has fullT
  exact decide_eq_decide.2 (fullL_mem (Nat.le_trans (Nat.min_le_left _ _) hk) hi)
theorem fullT_len (K e k : Nat) : (fullT K e k).len e = Nat.min k K := fullL_cnt _ _
theorem fullT_why {K e k : Nat} (hk : k < 256) : (fullT K e k).why e (tgk k) = if k < K then 0 else 8 := by
  unfold T.why
  have h1 : ¬ k < Nat.min k K := Nat.not_lt.2 (Nat.min_le_left k K)
  rw [if_neg (by exact Nat.not_lt_zero _), fullT_has (by omega) hk, decide_eq_false h1, if_neg (by decide), fullT_len]
  show (if K ≤ Nat.min k K then 8 else 0) = _
  by_cases h : k < K
  · rw [if_pos h, if_neg (by rw [show Nat.min k K = k from Nat.min_eq_left (by omega)]; omega)]
  · rw [if_neg h, if_pos (by rw [show Nat.min k K = K from Nat.min_eq_right (by omega)]; exact Nat.le_refl _)]
theorem fullT_add {K e k : Nat} (hk : k < 256) : (fullT K e k).add e (tgk k) = fullT K e (k + 1) := by
  unfold T.add
  rw [fullT_why hk]
  by_cases h : k < K
  · rw [if_pos h, if_pos rfl]
    unfold fullT
    rw [show Nat.min k K = k from Nat.min_eq_left (by omega), show Nat.min (k + 1) K = k + 1 from Nat.min_eq_left (by omega)]
    show T.mk K 0 (fullL e k ++ [⟨e, tgk k⟩]) = _
    unfold fullL
    rw [List.range_succ, List.map_append]
    rfl
  · rw [if_neg h, if_neg (by decide)]
    unfold fullT
    rw [show Nat.min k K = K from Nat.min_eq_right (by omega), show Nat.min (k + 1) K = K from Nat.min_eq_right (by omega)]
theorem fullT_new {K : Nat} (e : Nat) (h : 1 ≤ K) : newT (K : Int) = fullT K e 0 := by
  unfold newT fullT
  rw [if_neg (by omega), Int.toNat_natCast, show Nat.min 0 K = 0 from Nat.zero_min K]
  rfl
theorem wrap8 {k : Nat} (h : k < 256) : IntKind.u8.wrap (k : Int) = (k : Int) := by rw [IntKind.wrap_u8]; omega

set_option maxHeartbeats 8000000 in
set_option maxRecDepth 100000 in
theorem full_walk (m n0 : Int) (e : Nat) (w : World) (he : e < 4294967296) :
    Calls Try.prog 7 #[.int .i64 m, .int .i64 n0, .int .u32 (e : Int)] w fun e w' => e = .returned (.bool true) ∧ Below w.heap.size w w' := by
  have HE := hide he
  obtain ⟨k0, hk0, _⟩ := mask_nat m
  obtain ⟨n1, hn1, _⟩ := mask_nat n0
  obtain ⟨K, hK⟩ : ∃ K : Nat, K = 1 + k0 % 60 := ⟨_, rfl⟩
  obtain ⟨n, hn⟩ : ∃ n : Nat, n = n1 % 100 := ⟨_, rfl⟩
  have hK1 : 1 ≤ K := by omega
  have hK60 : K ≤ 60 := by omega
  have hn100 : n ≤ 99 := by omega
  have e1 : 1 + (k0 : Int) % 60 = (K : Int) := by omega
  have e2 : (n1 : Int) % 100 = (n : Int) := by omega
  clear hK hn he
  have HK1 := hide hK1
  have HSH := hide (fun W (h : Below w.heap.size w W) => shown_from (w := w) (W := W) h)
  go_enter Try.func7, Try.ntmps7
  go_wp2_with (first
    | (go_at_call 8; refine (HSH.out _ (Below.refl _ w)).mono ?_; rintro r w1 ⟨rfl, hb1⟩; have HB1 := hide hb1; clear hb1)
    | (go_at_call 9; refine (LT.new HB1.out (K : Int) (by omega)).mono ?_; rintro r w2 ⟨g, bs, bc, rfl, h2, _⟩; rw [fullT_new e HK1.out] at h2; have HT0 := hide h2; clear h2 HB1))
  go_loopw [9, 10] (fun i _ wr => ∃ (k : Nat), k ≤ n ∧ i = .int .i64 (k : Int) ∧ LT w wr g bs bc (fullT K e k)) (fun i _ _ => 100 - (intOf i).toNat)
  case atStart => exact ⟨0, by omega, rfl, HT0.out⟩
  case round =>
    clear HT0
    obtain ⟨k, hk, rfl, hT⟩ := hrel
    have HT := hide hT
    clear hT
    by_cases hkn : k < n
    · have hkl : (k : Int) < (n : Int) := by omega
      have hk256 : k < 256 := by omega
      have ew := wrap8 hk256
      have hadd := fullT_add (K := K) (e := e) hk256
      have hwhy := fullT_why (K := K) (e := e) hk256
      have HADD := hide hadd
      clear hadd
      by_cases hkK : k < K
      · have hkK' : (k : Int) < (K : Int) := by omega
        rw [if_pos hkK] at hwhy
        have HWHY := hide hwhy
        clear hwhy
        go_wp2_with (first
          | (with_reducible refine wpl_held (op := ⟨some 33, _, _, _, _, _⟩) (.agg (tgC (tgk k)).toArray) (held_build _ _ rfl [(0, .int .u8 (k : Int)), (1, .int .u8 5)] _ (build_tagk k hk256 _) rfl) rfl ?_)
          | (go_at_call 11; refine (HT.out.add e (tgk k) HE.out).mono ?_; rintro r w3 ⟨rfl, h3, _⟩; rw [HWHY.out]; rw [HADD.out] at h3; have HT3 := hide h3; clear h3))
        go_roundw
        case rel => exact ⟨k + 1, by omega, by go_num, HT3.out⟩
        case measure => simp [intOf]; omega
      · have hkK' : ¬ (k : Int) < (K : Int) := by omega
        rw [if_neg hkK] at hwhy
        have HWHY := hide hwhy
        clear hwhy
        go_wp2_with (first
          | (with_reducible refine wpl_held (op := ⟨some 33, _, _, _, _, _⟩) (.agg (tgC (tgk k)).toArray) (held_build _ _ rfl [(0, .int .u8 (k : Int)), (1, .int .u8 5)] _ (build_tagk k hk256 _) rfl) rfl ?_)
          | (go_at_call 11; refine (HT.out.add e (tgk k) HE.out).mono ?_; rintro r w3 ⟨rfl, h3, _⟩; rw [HWHY.out]; rw [HADD.out] at h3; have HT3 := hide h3; clear h3))
        go_roundw
        case rel => exact ⟨k + 1, by omega, by go_num, HT3.out⟩
        case measure => simp [intOf]; omega
    · obtain rfl : k = n := by omega
      have hkl : ¬ (k : Int) < (k : Int) := by omega
      go_wp2_with fail
      go_loopw [11] (fun i wr => ∃ (j : Nat), j ≤ k ∧ i = .int .i64 (j : Int) ∧ LT w wr g bs bc (fullT K e k)) (fun i _ => 100 - (intOf i).toNat)
      case atStart => exact ⟨0, by omega, rfl, HT.out⟩
      case round =>
        clear HT
        obtain ⟨j, hj, rfl, hT⟩ := hrel
        have HT := hide hT
        clear hT
        by_cases hjk : j < k
        · have hkl2 : (j : Int) < (k : Int) := by omega
          have hk256 : j < 256 := by omega
          have ew := wrap8 hk256
          have hhas := fullT_has (K := K) (e := e) (k := k) (i := j) (by omega) hk256
          have hmin : j < Nat.min k K ↔ j < K := by
            constructor
            · exact fun h => Nat.lt_of_lt_of_le h (Nat.min_le_right _ _)
            · exact fun h => Nat.lt_min.2 ⟨hjk, h⟩
          have hhas : (fullT K e k).has e (tgk j) = decide (j < K) := hhas.trans (decide_eq_decide.2 hmin)
          clear hmin
          by_cases hjK : j < K
          · have hkK' : (j : Int) < (K : Int) := by omega
            rw [decide_eq_true hjK] at hhas
            have HHAS := hide hhas
            clear hhas
            go_wp2_with (first
              | (with_reducible refine wpl_held (op := ⟨some 58, _, _, _, _, _⟩) (.agg (tgC (tgk j)).toArray) (held_build _ _ rfl [(0, .int .u8 (j : Int)), (1, .int .u8 5)] _ (build_tagk j hk256 _) rfl) rfl ?_)
              | (go_at_call 15; refine (HT.out.has e (tgk j) HE.out).mono ?_; rintro r w3 ⟨rfl, h3, _⟩; rw [HHAS.out]; have HT3 := hide h3; clear h3))
            go_roundw
            case rel => exact ⟨j + 1, by omega, by go_num, HT3.out⟩
            case measure => simp [intOf]; omega
          · have hkK' : ¬ (j : Int) < (K : Int) := by omega
            rw [decide_eq_false hjK] at hhas
            have HHAS := hide hhas
            clear hhas
            go_wp2_with (first
              | (with_reducible refine wpl_held (op := ⟨some 58, _, _, _, _, _⟩) (.agg (tgC (tgk j)).toArray) (held_build _ _ rfl [(0, .int .u8 (j : Int)), (1, .int .u8 5)] _ (build_tagk j hk256 _) rfl) rfl ?_)
              | (go_at_call 15; refine (HT.out.has e (tgk j) HE.out).mono ?_; rintro r w3 ⟨rfl, h3, _⟩; rw [HHAS.out]; have HT3 := hide h3; clear h3))
            go_roundw
            case rel => exact ⟨j + 1, by omega, by go_num, HT3.out⟩
            case measure => simp [intOf]; omega
        · obtain rfl : j = k := by omega
          have hkl2 : ¬ (j : Int) < (j : Int) := by omega
          obtain ⟨mn, hmn⟩ : ∃ mn, mn = Nat.min j K := ⟨_, rfl⟩
          have HMN : Hid ((mn : Int) = if (K : Int) < (j : Int) then (K : Int) else (j : Int)) := by show _ = _; rw [hmn]; exact min_int j K
          have HLEN : Hid ((fullT K e j).len e = mn) := by show _ = _; rw [hmn]; exact fullT_len K e j
          clear hmn
          go_wp2_with (first
            | (go_at_call 17; refine (HT.out.len e HE.out).mono ?_; rintro r w3 ⟨rfl, hw⟩; rw [hw]; clear hw; rw [HLEN.out])
            | (refine wpl_held (op := ⟨some 71, _, _, _, _, _⟩) (.int .i64 (mn : Int)) (held_minQ (.tmp 69) (.tmp 70) _ _ rfl _ _ _ rfl rfl HMN.out) rfl ?_))
          go_ret
          exact ⟨rfl, HT.out.below⟩
end Go.Proofs.Ytdilfiojfjgejaa
