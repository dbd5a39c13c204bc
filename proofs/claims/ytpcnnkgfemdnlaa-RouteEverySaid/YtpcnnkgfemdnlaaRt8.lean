/-
  Draw as the laws ask it: so many hops, by whole numbers.
-/
import Derived.Test.YtpcnnkgfemdnlaaRt7
namespace Go.Proofs.Ytpcnnkgfemdnlaa
set_option linter.unusedVariables false
open Go.RowKit

/-- The route of m hops and the last one. -/
def routeN (ws nodes : List Nat) (m last : Nat) : List Nat := outs ws (others nodes last) m ++ [last]
theorem routeN_length (ws nodes : List Nat) (m last : Nat) : (routeN ws nodes m last).length = m + 1 := by rw [routeN, List.length_append, outs_length]; rfl

theorem draw_ok {A B : Option Addr} {nw ca n cb : Nat} {ws nodes : List Nat} {hops : Int} {last m N : Nat} (w : World) (hh : hops = (m : Int) + 1) (hN : N = m + 1) (hF : Fine nw nodes hops last) (hu : ∀ x ∈ ws, x < 18446744073709551616) (hw : nw ≤ 1000000)
    (hA : Rds w A nw (cellsI .u64 ws)) (hB : Rds w B n (cellsI .u16 nodes)) :
    Calls Try.prog 9 #[.slice A nw ca, .slice B n cb, .int .i64 hops, .int .u16 (last : Int)] w fun e w' => ∃ A c, e = .returned (.tuple #[.slice A N c, .int .i64 (m : Int), .int .i64 0]) ∧
      w'.ownsRow w.heap.size 25 1 (.slice A N c) N (cellsI .u16 (routeN ws nodes m last)) ∧ Below w.heap.size w w' := by
  subst hN
  refine (draw_fine A B nw ca n cb ws nodes hops last w hA hu hB hw hF).mono ?_
  have e1 : routeL ws nodes hops last = routeN ws nodes m last := by
    rw [routeL, routeN, hh]
    congr 2
    omega
  rw [e1, show hops - 1 = (m : Int) by omega]
  rintro e w' ⟨A, c, rfl, h1, h2⟩
  rw [routeN_length] at h1 ⊢
  exact ⟨A, c, rfl, h1, h2⟩
theorem draw_not {A B : Option Addr} {nw ca n cb : Nat} {nodes : List Nat} {hops : Int} {last : Nat} {f : Int} (w : World) (hF : Fault nw nodes hops last f) (hn : n ≤ 1000000) (hw : nw ≤ 1000000) (hB : Rds w B n (cellsI .u16 nodes)) :
    Calls Try.prog 9 #[.slice A nw ca, .slice B n cb, .int .i64 hops, .int .u16 (last : Int)] w fun e w' => (∃ A c, e = .returned (.tuple #[.slice A 0 c, .int .i64 0, .int .i64 f]) ∧ w'.ownsRow w.heap.size 25 1 (.slice A 0 c) 0 []) ∧ Below w.heap.size w w' := by
  refine (draw_bad A B nw ca n cb nodes hops last f w hB hn hw hF).mono ?_
  rintro e w' ⟨A, c, rfl, h1, h2⟩
  exact ⟨⟨A, c, rfl, h1⟩, h2⟩
theorem Fine.fewer {nw : Nat} {nodes : List Nat} {hops h2 : Int} {last : Nat} (h : Fine nw nodes hops last) (h1 : 1 ≤ h2) (hl : h2 ≤ hops) : Fine nw nodes h2 last :=
  ⟨h1, by have := h.h1; omega, h.h2, h.h3, h.h4, by have := h.h5; omega, by have := h.h6; omega⟩
theorem Fine.last {nw : Nat} {nodes : List Nat} {hops : Int} {last : Nat} (h : Fine nw nodes hops last) : (others nodes last).length + 1 = nodes.length := by
  rw [others_length h.h3 h.h4]
  have : 0 < nodes.length := List.length_pos_of_mem h.h4
  omega

theorem mask16 (n : Int) : bits .and .i64 n 65535 = n % 65536 := by
  have h1 : (BitVec.ofInt 64 65535).toNat = 2 ^ 16 - 1 := by decide
  have key : (BitVec.ofInt 64 n &&& BitVec.ofInt 64 65535).toNat = (n % ((2 ^ 64 : Nat) : Int)).toNat % 2 ^ 16 := by
    rw [BitVec.toNat_and, BitVec.toNat_ofInt, h1, Nat.and_two_pow_sub_one_eq_mod]
  show IntKind.i64.wrap ((BitVec.ofInt 64 n &&& BitVec.ofInt 64 65535).toNat : Nat) = n % 65536
  rw [key, IntKind.wrap_i64]
  omega
theorem mask15 (n : Int) : bits .and .i64 n 15 = n % 16 := by
  have h1 : (BitVec.ofInt 64 15).toNat = 2 ^ 4 - 1 := by decide
  have key : (BitVec.ofInt 64 n &&& BitVec.ofInt 64 15).toNat = (n % ((2 ^ 64 : Nat) : Int)).toNat % 2 ^ 4 := by
    rw [BitVec.toNat_and, BitVec.toNat_ofInt, h1, Nat.and_two_pow_sub_one_eq_mod]
  show IntKind.i64.wrap ((BitVec.ofInt 64 n &&& BitVec.ofInt 64 15).toNat : Nat) = n % 16
  rw [key, IntKind.wrap_i64]
  omega

/-- What came in, cut to at most so many. -/
theorem Rds.first {w : World} {A : Option Addr} {n m : Nat} {k : IntKind} {l : List Nat} (h : Rds w A n (cellsI k l)) (hm : m ≤ n) : Rds w A m (cellsI k (l.take m)) := by
  have := h.take m hm
  rwa [cellsI_take] at this
theorem same_quiet {A B : Option Addr} {n m c d k : Nat} {a : List Nat} {w : World} (hA : Rds (w.drewN k) A n (cellsI .u16 a)) (hB : Rds (w.drewN k) B m (cellsI .u16 a)) (hn : n ≤ 1000000) (hm : m ≤ 1000000) :
    Calls Try.prog 11 #[.slice A n c, .slice B m d] (w.drewN k) fun e w' => e = .returned (.bool true) ∧ ∃ q, w' = w.drewN q := by
  refine (same_yes _ hA hB hn hm).mono ?_
  rintro e w' ⟨he, q, rfl⟩
  exact ⟨he, _, World.drewN_drewN _ _ _⟩
end Go.Proofs.Ytpcnnkgfemdnlaa
