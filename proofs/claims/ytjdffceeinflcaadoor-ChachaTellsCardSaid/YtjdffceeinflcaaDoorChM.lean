/-
  What a block of ChaCha20 is, over lists (laid ahead of stage 5).
-/
import Derived.Test.YtjdffceeinflcaaDoorGen
namespace Go.Proofs.YtjdffceeinflcaaDoor
set_option linter.unusedVariables false
open Go.RowKit

/-- Bytes with the lowest first. -/
def le4 (n : Nat) : List UInt8 := (be 4 n).reverse
theorem le4_length (n : Nat) : (le4 n).length = 4 := by rw [le4, List.length_reverse, be_length]
def lowN (l : List UInt8) : Nat := num l.reverse
/-- Turned left. -/
def leftN (x k : Nat) : Nat := rotN x (32 - k)
def qAdd (s : List Nat) (a b : Nat) : List Nat := s.set a (ad (s.getD a 0) (s.getD b 0))
def qTurn (s : List Nat) (d a k : Nat) : List Nat := s.set d (leftN (s.getD d 0 ^^^ s.getD a 0) k)
def quarterL (s : List Nat) (a b c d : Nat) : List Nat :=
  qTurn (qAdd (qTurn (qAdd (qTurn (qAdd (qTurn (qAdd s a b) d a 16) c d) b c 12) a b) d a 8) c d) b c 7
theorem qAdd_length (s : List Nat) (a b : Nat) : (qAdd s a b).length = s.length := by rw [qAdd, List.length_set]
theorem qTurn_length (s : List Nat) (d a k : Nat) : (qTurn s d a k).length = s.length := by rw [qTurn, List.length_set]
theorem quarterL_length (s : List Nat) (a b c d : Nat) : (quarterL s a b c d).length = s.length := by simp only [quarterL, qAdd_length, qTurn_length]
def downL (s : List Nat) : Nat → List Nat
  | 0 => s
  | k + 1 => quarterL (downL s k) k (4 + k) (8 + k) (12 + k)
def slantL (s : List Nat) : Nat → List Nat
  | 0 => s
  | k + 1 => quarterL (slantL s k) k (4 + (k + 1) % 4) (8 + (k + 2) % 4) (12 + (k + 3) % 4)
def tensL (s : List Nat) : Nat → List Nat
  | 0 => s
  | n + 1 => slantL (downL (tensL s n) 4) 4
def chaWords (all : List UInt8) : List Nat := (List.range 16).map fun i => lowN ((all.drop (4 * i)).take 4)
def expandL : List UInt8 := [101, 120, 112, 97, 110, 100, 32, 51, 50, 45, 98, 121, 116, 101, 32, 107]
def chaAll (key : List UInt8) (ctr : Nat) (nonce : List UInt8) : List UInt8 := expandL ++ key ++ le4 ctr ++ nonce
def chaL (key : List UInt8) (ctr : Nat) (nonce : List UInt8) : List UInt8 :=
  (List.zipWith ad (tensL (chaWords (chaAll key ctr nonce)) 10) (chaWords (chaAll key ctr nonce))).flatMap le4
theorem downL_length (s : List Nat) (k : Nat) : (downL s k).length = s.length := by
  induction k with
  | zero => rfl
  | succ k ih => rw [downL, quarterL_length, ih]
theorem slantL_length (s : List Nat) (k : Nat) : (slantL s k).length = s.length := by
  induction k with
  | zero => rfl
  | succ k ih => rw [slantL, quarterL_length, ih]
theorem tensL_length (s : List Nat) (n : Nat) : (tensL s n).length = s.length := by
  induction n with
  | zero => rfl
  | succ n ih => rw [tensL, slantL_length, downL_length, ih]
theorem chaWords_length (all : List UInt8) : (chaWords all).length = 16 := by simp [chaWords]
theorem flatle_length (ws : List Nat) : (ws.flatMap le4).length = 4 * ws.length := by
  induction ws with
  | nil => rfl
  | cons a l ih => rw [List.flatMap_cons, List.length_append, ih, le4_length, List.length_cons]; omega
theorem chaL_length (key : List UInt8) (ctr : Nat) (nonce : List UInt8) : (chaL key ctr nonce).length = 64 := by
  rw [chaL, flatle_length, List.length_zipWith, tensL_length, chaWords_length]
  rfl
/-- The first n bytes of the blocks from 0 on. -/
def blocksL (key nonce : List UInt8) : Nat → List UInt8
  | 0 => []
  | k + 1 => blocksL key nonce k ++ chaL key k nonce
def streamL (key nonce : List UInt8) (n : Nat) : List UInt8 := (blocksL key nonce ((n + 63) / 64)).take n
theorem blocksL_length (key nonce : List UInt8) (k : Nat) : (blocksL key nonce k).length = 64 * k := by
  induction k with
  | zero => rfl
  | succ k ih => rw [blocksL, List.length_append, ih, chaL_length]; omega
theorem streamL_length (key nonce : List UInt8) (n : Nat) : (streamL key nonce n).length = n := by rw [streamL, List.length_take, blocksL_length]; omega
theorem cha_zero : (chaL (List.replicate 32 0) 0 (List.replicate 12 0)).take 4 = [118, 184, 224, 173] := by kernel_rfl
theorem cha_rfc : ((chaL ((List.range 32).map UInt8.ofNat) 1 [0, 0, 0, 9, 0, 0, 0, 74, 0, 0, 0, 0]).take 16, (chaL ((List.range 32).map UInt8.ofNat) 1 [0, 0, 0, 9, 0, 0, 0, 74, 0, 0, 0, 0]).drop 48) = ([16, 241, 231, 228, 209, 59, 89, 21, 80, 15, 221, 31, 163, 32, 113, 196], [181, 18, 156, 209, 222, 22, 78, 185, 203, 208, 131, 232, 162, 80, 60, 78]) := by kernel_rfl
end Go.Proofs.YtjdffceeinflcaaDoor
