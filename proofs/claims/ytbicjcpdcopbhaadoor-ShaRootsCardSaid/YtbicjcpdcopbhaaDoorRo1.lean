/-
  The document's roots of primes: long numbers, over lists.
-/
import Derived.Test.YtbicjcpdcopbhaaDoorRSha2
namespace Go.Proofs.YtbicjcpdcopbhaaDoor
set_option linter.unusedVariables false
set_option linter.unusedSimpArgs false
open Go.RowKit

def cellsQ (l : List Nat) : List Value := l.map fun n : Nat => .int .u64 (n : Int)
theorem cellsQ_length (l : List Nat) : (cellsQ l).length = l.length := by simp [cellsQ]
theorem cellsQ_at (l : List Nat) (j : Nat) (h : j < l.length) : (cellsQ l)[j]? = some (.int .u64 ((l.getD j 0 : Nat) : Int)) := by
  simp [cellsQ, List.getD_eq_getElem?_getD, List.getElem?_eq_getElem h]
theorem cellsQ_set (l : List Nat) (k x : Nat) : (cellsQ l).set k (.int .u64 (x : Int)) = cellsQ (l.set k x) := by simp [cellsQ, List.map_set]
theorem cellsQ_one (l : List Nat) : ∀ u ∈ cellsQ l, u.oneCell' = true := by
  intro u hu
  obtain ⟨_, _, rfl⟩ := List.mem_map.1 hu
  rfl
def mod64 (n : Nat) : Nat := n % 18446744073709551616
theorem wrap64 (n : Nat) : IntKind.u64.wrap (n : Int) = (mod64 n : Nat) := by rw [IntKind.wrap_u64, mod64]; omega
theorem wrap64a (x y : Nat) : IntKind.u64.wrap ((x : Int) + (y : Int)) = (mod64 (x + y) : Nat) := by rw [← wrap64]; simp
theorem wrap64m (x y : Nat) : IntKind.u64.wrap ((x : Int) * (y : Int)) = (mod64 (x * y) : Nat) := by rw [← wrap64]; simp
theorem tdivN (x k : Nat) : Int.tdiv (x : Int) (k : Int) = ((x / k : Nat) : Int) := by rw [Int.tdiv_eq_ediv_of_nonneg (by omega)]; simp
theorem tmodN (x k : Nat) : Int.tmod (x : Int) (k : Int) = ((x % k : Nat) : Int) := by rw [Int.tmod_eq_emod_of_nonneg (by omega)]; simp

def digL (n : Nat) : List Nat := [mod64 (n % 65536), mod64 (mod64 (n / 65536) % 65536), mod64 (mod64 (n / 4294967296) % 65536), mod64 (n / 281474976710656)]
def tIn (a b : List Nat) (o : List Nat) (i : Nat) : Nat → List Nat
  | 0 => o
  | k + 1 => (tIn a b o i k).set (i + k) (mod64 ((tIn a b o i k).getD (i + k) 0 + mod64 (a.getD i 0 * b.getD k 0)))
def tOut (a b : List Nat) : Nat → List Nat
  | 0 => List.replicate (a.length + b.length) 0
  | i + 1 => tIn a b (tOut a b i) i b.length
def tUp (c : List Nat) (i : Nat) : List Nat := c.set (i + 1) (mod64 (c.getD (i + 1) 0 + mod64 (c.getD i 0 / 65536)))
def tCar (o : List Nat) : Nat → List Nat
  | 0 => o
  | i + 1 => (tUp (tCar o i) i).set i (mod64 ((tUp (tCar o i) i).getD i 0 % 65536))
def timesL (a b : List Nat) : List Nat := tCar (tOut a b a.length) (a.length + b.length - 1)
def abv (a b : List Nat) : Nat → Bool
  | 0 => false
  | i + 1 => if a.getD i 0 = b.getD i 0 then abv a b i else decide (b.getD i 0 < a.getD i 0)
def mostL (p : Nat) (cube : Bool) : List Nat := if cube then [0, 0, 0, 0, 0, 0, p] else [0, 0, 0, 0, p]
def powL (n : Nat) (cube : Bool) : List Nat := if cube then timesL (timesL (digL n) (digL n)) (digL n) else timesL (digL n) (digL n)
def overL (p : Nat) (cube : Bool) (n : Nat) : Bool := abv (powL n cube) (mostL p cube) (max (powL n cube).length (mostL p cube).length)
def rootX (p : Nat) (cube : Bool) : Nat → Nat
  | 0 => 0
  | j + 1 => if overL p cube (mod64 (rootX p cube j + 2 ^ (36 - j))) then rootX p cube j else mod64 (rootX p cube j + 2 ^ (36 - j))
def rootL (p : Nat) (cube : Bool) : Nat := rootX p cube 37 % 4294967296
def isP (n : Nat) : Nat → Bool
  | 0 => true
  | k + 1 => isP n k && decide (n % (k + 2) ≠ 0)
/-- Is n + 2 a prime? -/
def prm (n : Nat) : Bool := isP (n + 2) n
def piN : Nat → Nat
  | 0 => 0
  | n + 1 => piN n + if prm n then 1 else 0
def chk : Nat → Nat → Nat → Bool
  | 0, _, _ => true
  | f + 1, n, c => if prm n then (decide (kL.getD c 0 = rootL (n + 2) true) && (decide (8 ≤ c) || decide (firstL.getD c 0 = rootL (n + 2) false))) && chk f (n + 1) (c + 1) else chk f (n + 1) c
theorem root2 : rootL 2 false = firstL.getD 0 0 := by kernel_rfl
theorem root2c : rootL 311 true = kL.getD 63 0 := by kernel_rfl
end Go.Proofs.YtbicjcpdcopbhaaDoor
