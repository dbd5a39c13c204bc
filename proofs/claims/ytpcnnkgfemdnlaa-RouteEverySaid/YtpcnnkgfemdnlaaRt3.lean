/-
  route: fault and Count by contracts, and the document's Count. What lay when a call began lies as it lay.
-/
import Derived.Test.YtpcnnkgfemdnlaaRt2
namespace Go.Proofs.Ytpcnnkgfemdnlaa
set_option linter.unusedVariables false
open Go.RowKit

theorem rise_yes {A : Option Addr} {n c : Nat} {l : List Nat} (hR : Rise l) (hn : n ≤ 1000000) (w : World) (hA : Rds w A n (cellsI .u16 l)) :
    Calls Try.prog 18 #[.slice A n c] w fun e w' => e = .returned (.bool true) ∧ ∃ q, w' = w.drewN q := by
  refine (rise_any A n c l w hA hn).mono ?_
  rintro e w' ⟨⟨b, rfl, hb⟩, hq⟩
  exact ⟨by rw [hb.2 hR], hq⟩
theorem rise_no {A : Option Addr} {n c : Nat} {l : List Nat} (hR : ¬ Rise l) (hn : n ≤ 1000000) (w : World) (hA : Rds w A n (cellsI .u16 l)) :
    Calls Try.prog 18 #[.slice A n c] w fun e w' => e = .returned (.bool false) ∧ ∃ q, w' = w.drewN q := by
  refine (rise_any A n c l w hA hn).mono ?_
  rintro e w' ⟨⟨b, rfl, hb⟩, hq⟩
  exact ⟨by rw [Bool.eq_false_iff.2 (fun h => hR (hb.1 h))], hq⟩
theorem contains_yes {A : Option Addr} {n c : Nat} {l : List Nat} {x : Nat} (hR : x ∈ l) (hn : n ≤ 1000000) (w : World) (hA : Rds w A n (cellsI .u16 l)) :
    Calls Try.prog 19 #[.slice A n c, .int .u16 (x : Int)] w fun e w' => e = .returned (.bool true) ∧ w = w' := by
  refine (contains_any A n c l x w hA hn).mono ?_
  rintro e w' ⟨⟨b, rfl, hb⟩, hq⟩
  exact ⟨by rw [hb.2 hR], hq⟩
theorem contains_no {A : Option Addr} {n c : Nat} {l : List Nat} {x : Nat} (hR : x ∉ l) (hn : n ≤ 1000000) (w : World) (hA : Rds w A n (cellsI .u16 l)) :
    Calls Try.prog 19 #[.slice A n c, .int .u16 (x : Int)] w fun e w' => e = .returned (.bool false) ∧ w = w' := by
  refine (contains_any A n c l x w hA hn).mono ?_
  rintro e w' ⟨⟨b, rfl, hb⟩, hq⟩
  exact ⟨by rw [Bool.eq_false_iff.2 (fun h => hR (hb.1 h))], hq⟩

set_option maxHeartbeats 2000000 in
theorem fault_fine (A B : Option Addr) (nw ca n cb : Nat) (nodes : List Nat) (hops : Int) (last : Nat) (w : World) (hB : Rds w B n (cellsI .u16 nodes)) (hw : nw ≤ 1000000) (hF : Fine nw nodes hops last) :
    Calls Try.prog 14 #[.slice A nw ca, .slice B n cb, .int .i64 hops, .int .u16 (last : Int)] w fun e w' => e = .returned (.int .i64 0) ∧ ∃ q, w' = w.drewN q := by
  have hal : nodes.length = n := by have := hB.1; rwa [cellsI_length] at this
  obtain ⟨f0, f1, f2, f3, f4, f5, f6⟩ := hF
  rw [hal] at f2 f5
  have HH := hops_yes hops
  have HR := rise_yes (A := B) (n := n) (c := cb) f3 (by omega)
  have HC := contains_yes (A := B) (n := n) (c := cb) f4 (by omega)
  have HB := hide hB
  have f2' : (n : Int) ≤ 16 := by omega
  have hwr : IntKind.i64.wrap (hops - 1) = hops - 1 := by rw [IntKind.wrap_i64]; omega
  clear hB hal f3 f4 f2
  go_enter Try.func14, Try.ntmps14
  go_wp2_with (first
    | (go_at_call 16; refine (HH _ f0 f1).mono ?_; rintro e w1 ⟨rfl, rfl⟩)
    | (go_at_call 18; refine (HR _ HB.out).mono ?_; rintro e w2 ⟨rfl, q, rfl⟩)
    | (go_at_call 19; refine (HC _ (HB.out.frm0 ((Frm.refl _ _).drewN q))).mono ?_; rintro e w3 ⟨rfl, rfl⟩))
  go_ret
  exact ⟨rfl, _, rfl⟩

set_option maxHeartbeats 4000000 in
theorem fault_bad (A B : Option Addr) (nw ca n cb : Nat) (nodes : List Nat) (hops : Int) (last : Nat) (f : Int) (w : World) (hB : Rds w B n (cellsI .u16 nodes)) (hn : n ≤ 1000000) (hw : nw ≤ 1000000) (hF : Fault nw nodes hops last f) :
    Calls Try.prog 14 #[.slice A nw ca, .slice B n cb, .int .i64 hops, .int .u16 (last : Int)] w fun e w' => e = .returned (.int .i64 f) ∧ ∃ q, w' = w.drewN q := by
  have hal : nodes.length = n := by have := hB.1; rwa [cellsI_length] at this
  have HB := hide hB
  clear hB
  cases hF with
  | arg h =>
    rw [hal] at h
    by_cases g : 1 ≤ hops ∧ hops ≤ 5
    · have HH := fun w => hops_yes hops w g.1 g.2
      by_cases g2 : 16 < n
      · have f2' : 16 < (n : Int) := by omega
        clear h hal g2
        go_enter Try.func14, Try.ntmps14
        go_wp2_with (go_at_call 16; refine (HH _).mono ?_; rintro e w1 ⟨rfl, rfl⟩)
        go_ret
        exact ⟨rfl, 0, rfl⟩
      · have f2' : (n : Int) ≤ 16 := by omega
        have HR := rise_no (A := B) (n := n) (c := cb) (l := nodes) (by rcases h with h | h | h; exact absurd g h; omega; exact h) hn
        clear h hal g2
        go_enter Try.func14, Try.ntmps14
        go_wp2_with (first
          | (go_at_call 16; refine (HH _).mono ?_; rintro e w1 ⟨rfl, rfl⟩)
          | (go_at_call 18; refine (HR _ HB.out).mono ?_; rintro e w2 ⟨rfl, q, rfl⟩))
        go_ret
        exact ⟨rfl, _, rfl⟩
    · have HH := fun w => hops_no hops w g
      clear h hal g
      go_enter Try.func14, Try.ntmps14
      go_wp2_with (go_at_call 16; refine (HH _).mono ?_; rintro e w1 ⟨rfl, rfl⟩)
      go_ret
      exact ⟨rfl, 0, rfl⟩
  | none f0 f1 f2 f3 f4 =>
    rw [hal] at f2
    have HH := hops_yes hops
    have HR := rise_yes (A := B) (n := n) (c := cb) f3 (by omega)
    have HC := contains_no (A := B) (n := n) (c := cb) f4 (by omega)
    have f2' : (n : Int) ≤ 16 := by omega
    clear hal f3 f4 f2
    go_enter Try.func14, Try.ntmps14
    go_wp2_with (first
      | (go_at_call 16; refine (HH _ f0 f1).mono ?_; rintro e w1 ⟨rfl, rfl⟩)
      | (go_at_call 18; refine (HR _ HB.out).mono ?_; rintro e w2 ⟨rfl, q, rfl⟩)
      | (go_at_call 19; refine (HC _ (HB.out.frm0 ((Frm.refl _ _).drewN q))).mono ?_; rintro e w3 ⟨rfl, rfl⟩))
    go_ret
    exact ⟨rfl, _, rfl⟩
  | full f0 f1 f2 f3 f4 f5 =>
    rw [hal] at f2 f5
    have HH := hops_yes hops
    have HR := rise_yes (A := B) (n := n) (c := cb) f3 (by omega)
    have HC := contains_yes (A := B) (n := n) (c := cb) f4 (by omega)
    have f2' : (n : Int) ≤ 16 := by omega
    clear hal f3 f4 f2
    go_enter Try.func14, Try.ntmps14
    go_wp2_with (first
      | (go_at_call 16; refine (HH _ f0 f1).mono ?_; rintro e w1 ⟨rfl, rfl⟩)
      | (go_at_call 18; refine (HR _ HB.out).mono ?_; rintro e w2 ⟨rfl, q, rfl⟩)
      | (go_at_call 19; refine (HC _ (HB.out.frm0 ((Frm.refl _ _).drewN q))).mono ?_; rintro e w3 ⟨rfl, rfl⟩))
    go_ret
    exact ⟨rfl, _, rfl⟩
  | short f0 f1 f2 f3 f4 f5 f6 =>
    rw [hal] at f2 f5
    have HH := hops_yes hops
    have HR := rise_yes (A := B) (n := n) (c := cb) f3 (by omega)
    have HC := contains_yes (A := B) (n := n) (c := cb) f4 (by omega)
    have f2' : (n : Int) ≤ 16 := by omega
    have hwr : IntKind.i64.wrap (hops - 1) = hops - 1 := by rw [IntKind.wrap_i64]; omega
    clear hal f3 f4 f2
    go_enter Try.func14, Try.ntmps14
    go_wp2_with (first
      | (go_at_call 16; refine (HH _ f0 f1).mono ?_; rintro e w1 ⟨rfl, rfl⟩)
      | (go_at_call 18; refine (HR _ HB.out).mono ?_; rintro e w2 ⟨rfl, q, rfl⟩)
      | (go_at_call 19; refine (HC _ (HB.out.frm0 ((Frm.refl _ _).drewN q))).mono ?_; rintro e w3 ⟨rfl, rfl⟩))
    go_ret
    exact ⟨rfl, _, rfl⟩

/-- How many routes, behind k hops. -/
def cnt (n : Int) : Nat → Int
  | 0 => 1
  | k + 1 => IntKind.u64.wrap (cnt n k * (n - (k + 1 : Nat)))
theorem cnt_succ (n : Int) (k : Nat) : cnt n (k + 1) = IntKind.u64.wrap (cnt n k * (n - (k + 1 : Nat))) := rfl

set_option maxHeartbeats 4000000 in
theorem count_fine (n hops : Int) (w : World) (f0 : 1 ≤ hops) (f1 : hops ≤ 5) (f2 : hops ≤ n) (f3 : n ≤ 16) :
    Calls Try.prog 12 #[.int .i64 n, .int .i64 hops] w fun e w' => e = .returned (.int .u64 (cnt n (hops - 1).toNat)) ∧ Below w.heap.size w w' := by
  have HH := hops_yes hops
  have HK := fun w => counter_any n w (by omega) (by omega)
  have HS := hide (cnt_succ n)
  have H0 : Hid (cnt n 0 = 1) := rfl
  obtain ⟨m, hm⟩ : ∃ m : Nat, (m : Int) = hops - 1 := ⟨(hops - 1).toNat, by omega⟩
  have hm2 : (hops - 1).toNat = m := by omega
  rw [hm2]
  generalize cnt n = C at *
  have hwr : IntKind.i64.wrap (hops - 1) = (m : Int) := by rw [IntKind.wrap_i64]; omega
  have hm5 : m ≤ 4 := by omega
  have HM : Hid ((m : Int) < n) := by show _ < _; omega
  clear hm hm2
  go_enter Try.func12, Try.ntmps12
  go_wp2_with (first
    | (go_at_call 16; refine (HH _ f0 f1).mono ?_; rintro e w1 ⟨rfl, rfl⟩)
    | (go_at_call 17; refine (HK _).mono ?_; rintro e w2 ⟨rfl, rfl⟩))
  have HB0 := hide (Blk.new w 31 #[.int .u64 n])
  have HF0 : Hid (Below w.heap.size w (w.alloc (.cells #[.int .u64 n] 31))) := (Below.refl _ _).alloc (Nat.le_refl _) _
  go_loopw [6, 23] (fun r i wr => ∃ k : Nat, k ≤ m ∧ i = .int .i64 k ∧ r = .int .u64 (C k) ∧ Blk wr w.heap.size 31 #[.int .u64 (n - (k : Int))] ∧ Below w.heap.size w wr) (fun _ i _ => m - (intOf i).toNat)
  case atStart => exact ⟨0, by omega, rfl, by rw [H0.out], by simpa using HB0.out, HF0.out⟩
  case round =>
    clear HB0 HF0
    obtain ⟨k, hk, rfl, rfl, hb, hbl⟩ := hrel
    have HB := hide hb
    have HL := hide hbl
    clear hb hbl
    by_cases hlt : k < m
    · have hki : (k : Int) < (m : Int) := by omega
      have h1 := HM.out
      have hj0 : 1 ≤ n - (k : Int) := by omega
      have hj1 : n - (k : Int) ≤ 1000 := by omega
      have HE : Hid (C (k + 1) = IntKind.u64.wrap (C k * (n - (k : Int) - 1))) := by
        show _ = _
        rw [HS.out k]
        congr 2
        omega
      have HN : Hid (n - ((k + 1 : Nat) : Int) = n - (k : Int) - 1) := by show _ = _; omega
      go_wp2_with (go_at_call 22; refine (count1_any w.heap.size _ _ hj0 hj1 HB.out).mono ?_; rintro e w3 ⟨rfl, hB3, hF3, _⟩)
      go_roundw
      case rel =>
        refine ⟨k + 1, by omega, by go_num, ?_, ?_, ?_⟩
        · rw [HE.out]
        · rw [HN.out]; exact hB3
        · exact HL.out.trans (hF3.below HL.out.size (fun k hk => by omega))
      case measure => simp [intOf]; omega
    · have hki : (m : Int) ≤ (k : Int) := by omega
      obtain rfl : k = m := by omega
      go_wp2_with fail
      go_ret
      exact ⟨rfl, HL.out⟩

set_option maxHeartbeats 4000000 in
theorem count_bad (n hops : Int) (w : World) (h : ¬ (1 ≤ hops ∧ hops ≤ 5 ∧ hops ≤ n ∧ n ≤ 16)) :
    Calls Try.prog 12 #[.int .i64 n, .int .i64 hops] w fun e w' => e = .returned (.int .u64 0) ∧ Below w.heap.size w w' := by
  by_cases g : 1 ≤ hops ∧ hops ≤ 5
  · have HH := fun w => hops_yes hops w g.1 g.2
    by_cases g2 : n < hops
    · clear h g
      go_enter Try.func12, Try.ntmps12
      go_wp2_with (go_at_call 16; refine (HH _).mono ?_; rintro e w1 ⟨rfl, rfl⟩)
      go_ret
      exact ⟨rfl, Below.refl _ _⟩
    · have g3 : 16 < n := by omega
      have g4 : hops ≤ n := by omega
      clear h g g2
      go_enter Try.func12, Try.ntmps12
      go_wp2_with (go_at_call 16; refine (HH _).mono ?_; rintro e w1 ⟨rfl, rfl⟩)
      go_ret
      exact ⟨rfl, Below.refl _ _⟩
  · have HH := fun w => hops_no hops w g
    clear h g
    go_enter Try.func12, Try.ntmps12
    go_wp2_with (go_at_call 16; refine (HH _).mono ?_; rintro e w1 ⟨rfl, rfl⟩)
    go_ret
    exact ⟨rfl, Below.refl _ _⟩

set_option maxHeartbeats 4000000 in
theorem rcount_bad (n hops : Int) (w : World) (h : ¬ (1 ≤ hops ∧ hops ≤ 5 ∧ hops ≤ n ∧ n ≤ 16)) :
    Calls Try.prog 13 #[.int .i64 n, .int .i64 hops] w fun e w' => e = .returned (.int .u64 0) ∧ w = w' := by
  by_cases g1 : hops < 1
  · clear h
    go_enter Try.func13, Try.ntmps13
    go_wp2
    go_ret
    exact ⟨rfl, rfl⟩
  · have g1' : 1 ≤ hops := by omega
    by_cases g2 : 5 < hops
    · clear h g1
      go_enter Try.func13, Try.ntmps13
      go_wp2
      go_ret
      exact ⟨rfl, rfl⟩
    · have g2' : hops ≤ 5 := by omega
      by_cases g3 : n < hops
      · clear h g1 g2
        go_enter Try.func13, Try.ntmps13
        go_wp2
        go_ret
        exact ⟨rfl, rfl⟩
      · have g3' : hops ≤ n := by omega
        have g4 : 16 < n := by omega
        clear h g1 g2 g3
        go_enter Try.func13, Try.ntmps13
        go_wp2
        go_ret
        exact ⟨rfl, rfl⟩

set_option maxHeartbeats 4000000 in
theorem rcount_fine (n hops : Int) (w : World) (f0 : 1 ≤ hops) (f1 : hops ≤ 5) (f2 : hops ≤ n) (f3 : n ≤ 16) :
    Calls Try.prog 13 #[.int .i64 n, .int .i64 hops] w fun e w' => e = .returned (.int .u64 (cnt n (hops - 1).toNat)) ∧ w = w' := by
  have HS := hide (cnt_succ n)
  have H0 : Hid (cnt n 0 = 1) := rfl
  obtain ⟨m, hm⟩ : ∃ m : Nat, (m : Int) = hops - 1 := ⟨(hops - 1).toNat, by omega⟩
  have hm2 : (hops - 1).toNat = m := by omega
  rw [hm2]
  generalize cnt n = C at *
  have hm5 : m ≤ 4 := by omega
  have HM := hide hm
  clear hm hm2
  go_enter Try.func13, Try.ntmps13
  go_wp2
  go_loopw [5, 6] (fun r i wr => ∃ (k : Nat) (x : Int), k ≤ m ∧ x = k + 1 ∧ i = .int .i64 x ∧ r = .int .u64 (C k) ∧ wr = w) (fun _ i _ => m + 1 - (intOf i).toNat)
  case atStart => exact ⟨0, 1, by omega, rfl, rfl, by rw [H0.out], rfl⟩
  case round =>
    obtain ⟨k, x, hk, hx, rfl, rfl, rfl⟩ := hrel
    have HX := hide hx
    by_cases hlt : k < m
    · have hki : x < hops := by have := HM.out; omega
      have HE : Hid (C (k + 1) = IntKind.u64.wrap (C k * (n - x))) := by
        show _ = _
        rw [HS.out k, hx]
        rfl
      have hx0 : 0 ≤ n - x := by have := HM.out; omega
      have hx1 : IntKind.i64.wrap (n - x) = n - x := by rw [IntKind.wrap_i64]; omega
      have hx2 : IntKind.u64.wrap (n - x) = n - x := by rw [IntKind.wrap_u64]; omega
      have hx3 : IntKind.i64.wrap (x + 1) = x + 1 := by rw [IntKind.wrap_i64]; omega
      clear hx
      go_wp2_with fail
      go_roundw
      case rel =>
        refine ⟨k + 1, x + 1, by omega, by have := HX.out; omega, rfl, by rw [HE.out], trivial⟩
      case measure => have := HX.out; simp [intOf]; omega
    · have hki : hops ≤ x := by have := HM.out; omega
      obtain rfl : k = m := by omega
      clear hx
      go_wp2_with fail
      go_ret
      exact ⟨rfl, rfl⟩
end Go.Proofs.Ytpcnnkgfemdnlaa
