/-
  What a sum is, over lists: blocks, words, rounds; what a stream holds.
-/
import Derived.Test.YtjicnfkodieaaaaDoorSha1
namespace Go.Proofs.YtjicnfkodieaaaaDoor
set_option linter.unusedVariables false
open Go.RowKit

def ad (a b : Nat) : Nat := (a + b) % 4294967296
theorem ad_lt (a b : Nat) : ad a b < 4294967296 := Nat.mod_lt _ (by decide)
theorem ad_int (a b : Nat) : ((a : Int) + b) % 4294967296 = (ad a b : Nat) := by unfold ad; omega

def kL : List Nat := [1116352408, 1899447441, 3049323471, 3921009573, 961987163, 1508970993, 2453635748, 2870763221, 3624381080, 310598401, 607225278, 1426881987, 1925078388, 2162078206, 2614888103, 3248222580, 3835390401, 4022224774, 264347078, 604807628, 770255983, 1249150122, 1555081692, 1996064986, 2554220882, 2821834349, 2952996808, 3210313671, 3336571891, 3584528711, 113926993, 338241895, 666307205, 773529912, 1294757372, 1396182291, 1695183700, 1986661051, 2177026350, 2456956037, 2730485921, 2820302411, 3259730800, 3345764771, 3516065817, 3600352804, 4094571909, 275423344, 430227734, 506948616, 659060556, 883997877, 958139571, 1322822218, 1537002063, 1747873779, 1955562222, 2024104815, 2227730452, 2361852424, 2428436474, 2756734187, 3204031479, 3329325298]
def firstL : List Nat := [1779033703, 3144134277, 1013904242, 2773480762, 1359893119, 2600822924, 528734635, 1541459225]

/-- Words of 32 bits. -/
def Ws (l : List Nat) : Prop := ∀ x ∈ l, x < 4294967296
theorem Ws.get {l : List Nat} (h : Ws l) (i : Nat) : l.getD i 0 < 4294967296 := by
  rw [List.getD_eq_getElem?_getD]
  rcases hx : l[i]? with _ | x
  · simp
  · exact h x (List.mem_of_getElem? hx)
theorem Ws.append {l m : List Nat} (h : Ws l) (k : Ws m) : Ws (l ++ m) := fun x hx => (List.mem_append.1 hx).elim (h x) (k x)
theorem kL_ws : Ws kL := by unfold Ws; decide
theorem firstL_ws : Ws firstL := by unfold Ws; decide

/-- The cells of words. -/
def cellsW (l : List Nat) : List Value := l.map fun n : Nat => .int .u32 (n : Int)
theorem cellsW_length (l : List Nat) : (cellsW l).length = l.length := by simp [cellsW]
theorem cellsW_get (l : List Nat) (j : Nat) : (cellsW l)[j]? = (l[j]?).map fun n : Nat => .int .u32 (n : Int) := by simp [cellsW]
theorem cellsW_append (l m : List Nat) : cellsW (l ++ m) = cellsW l ++ cellsW m := by simp [cellsW]
theorem cellsW_one (l : List Nat) : ∀ u ∈ cellsW l, u.oneCell' = true := by
  intro u hu
  obtain ⟨_, _, rfl⟩ := List.mem_map.1 hu
  rfl
theorem cellsW_at (l : List Nat) (j : Nat) (h : j < l.length) : (cellsW l)[j]? = some (.int .u32 ((l.getD j 0 : Nat) : Int)) := by
  rw [cellsW_get, List.getD_eq_getElem?_getD, List.getElem?_eq_getElem h]; rfl

structure S8 where
  a : Nat
  b : Nat
  c : Nat
  d : Nat
  e : Nat
  f : Nat
  g : Nat
  h : Nat
def S8.list (s : S8) : List Nat := [s.a, s.b, s.c, s.d, s.e, s.f, s.g, s.h]
def S8.of (l : List Nat) : S8 := ⟨l.getD 0 0, l.getD 1 0, l.getD 2 0, l.getD 3 0, l.getD 4 0, l.getD 5 0, l.getD 6 0, l.getD 7 0⟩
def tOf (s : S8) (k w : Nat) : Nat := ad (ad (ad (ad s.h (turnN s.e 6 11 25)) ((s.e &&& s.f) ^^^ (s.g &&& (4294967295 - s.e)))) k) w
def uOf (s : S8) : Nat := ad (turnN s.a 2 13 22) ((s.a &&& s.b) ^^^ (s.a &&& s.c) ^^^ (s.b &&& s.c))
def S8.step (s : S8) (k w : Nat) : S8 := ⟨ad (tOf s k w) (uOf s), s.a, s.b, s.c, ad s.d (tOf s k w), s.e, s.f, s.g⟩
def rounds (ws : List Nat) : Nat → S8 → S8
  | 0, s => s
  | n + 1, s => (rounds ws n s).step (kL.getD n 0) (ws.getD n 0)
structure S8.ok (s : S8) : Prop where
  a : s.a < 4294967296
  b : s.b < 4294967296
  c : s.c < 4294967296
  d : s.d < 4294967296
  e : s.e < 4294967296
  f : s.f < 4294967296
  g : s.g < 4294967296
  h : s.h < 4294967296
theorem S8.ok.step {s : S8} (o : s.ok) (k w : Nat) : (s.step k w).ok := ⟨ad_lt _ _, o.a, o.b, o.c, ad_lt _ _, o.e, o.f, o.g⟩
theorem S8.of_ok {l : List Nat} (h : Ws l) : (S8.of l).ok := ⟨h.get 0, h.get 1, h.get 2, h.get 3, h.get 4, h.get 5, h.get 6, h.get 7⟩
theorem rounds_ok (ws : List Nat) (n : Nat) {s : S8} (o : s.ok) : (rounds ws n s).ok := by
  induction n with
  | zero => exact o
  | succ n ih => exact ih.step _ _

/-- W of a block. -/
def words (b : List UInt8) : List Nat := (List.range 16).map fun i => num ((b.drop (4 * i)).take 4)
def wNext (l : List Nat) (i : Nat) : Nat := ad (ad (ad (tasN (l.getD (i - 2) 0) 17 19 10) (l.getD (i - 7) 0)) (tasN (l.getD (i - 15) 0) 7 18 3)) (l.getD (i - 16) 0)
def sch (l : List Nat) : Nat → List Nat
  | 0 => l
  | n + 1 => sch l n ++ [wNext (sch l n) (16 + n)]
def schedN (b : List UInt8) : List Nat := sch (words b) 48
theorem words_length (b : List UInt8) : (words b).length = 16 := by simp [words]
theorem sch_length (l : List Nat) (n : Nat) : (sch l n).length = l.length + n := by
  induction n with
  | zero => rfl
  | succ n ih => simp [sch, ih]; omega
theorem words_ws (b : List UInt8) : Ws (words b) := by
  intro x hx
  obtain ⟨i, _, rfl⟩ := List.mem_map.1 hx
  have := num_take_lt (b.drop (4 * i)) 4 4 (Nat.le_refl _)
  omega
theorem sch_ws {l : List Nat} (h : Ws l) (n : Nat) : Ws (sch l n) := by
  induction n with
  | zero => exact h
  | succ n ih => exact ih.append (fun x hx => by simp at hx; subst hx; exact ad_lt _ _)
theorem schedN_length (b : List UInt8) : (schedN b).length = 64 := by rw [schedN, sch_length, words_length]
theorem schedN_ws (b : List UInt8) : Ws (schedN b) := sch_ws (words_ws b) _

/-- What is added to H by the blocks. -/
def plus (l m : List Nat) : List Nat := List.zipWith ad l m
theorem plus_length (l m : List Nat) (h : l.length = m.length) : (plus l m).length = l.length := by simp [plus, h]
theorem plus_ws (l m : List Nat) : Ws (plus l m) := by
  induction l generalizing m with
  | nil => intro x hx; cases hx
  | cons a l ih =>
    cases m with
    | nil => intro x hx; cases hx
    | cons b m =>
      intro x hx
      rcases List.mem_cons.1 hx with rfl | hx
      · exact ad_lt _ _
      · exact ih m x hx
def addB (a : List Nat) (b : List UInt8) : List Nat := plus a (rounds (schedN b) 64 (S8.of (plus a firstL))).list
def addedN (l : List UInt8) : Nat → List Nat
  | 0 => List.replicate 8 0
  | n + 1 => addB (addedN l n) ((l.drop (64 * n)).take 64)
theorem addB_length (a : List Nat) (b : List UInt8) (h : a.length = 8) : (addB a b).length = 8 := by rw [addB, plus_length]; exact h; rw [h]; rfl
theorem addedN_length (l : List UInt8) (n : Nat) : (addedN l n).length = 8 := by
  induction n with
  | zero => rfl
  | succ n ih => exact addB_length _ _ ih
theorem addedN_ws (l : List UInt8) (n : Nat) : Ws (addedN l n) := by
  cases n with
  | zero => intro x hx; have := List.eq_of_mem_replicate hx; omega
  | succ n => exact plus_ws _ _
theorem addedN_append (l m : List UInt8) (n : Nat) (h : 64 * n ≤ l.length) : addedN (l ++ m) n = addedN l n := by
  induction n with
  | zero => rfl
  | succ n ih =>
    have h1 : ((l ++ m).drop (64 * n)).take 64 = (l.drop (64 * n)).take 64 := by
      rw [List.drop_append_of_le_length (by omega), List.take_append_of_le_length (by rw [List.length_drop]; omega)]
    rw [addedN, addedN, ih (by omega), h1]

/-- What comes behind n bytes. -/
def endL (n : Nat) : List UInt8 := 128 :: (List.replicate ((64 - (n + 9) % 64) % 64) 0 ++ be 8 (8 * n))
theorem endL_length (n : Nat) : (endL n).length = 1 + (64 - (n + 9) % 64) % 64 + 8 := by simp [endL, be_length]; omega
theorem endL_le (n : Nat) : (endL n).length ≤ 72 := by rw [endL_length]; omega

def shaWords (l : List UInt8) : List Nat := plus (addedN l (l.length / 64)) firstL
def shaL (l : List UInt8) : List UInt8 := (shaWords (l ++ endL l.length)).flatMap (be 4)
theorem shaWords_length (l : List UInt8) : (shaWords l).length = 8 := by rw [shaWords, plus_length]; exact addedN_length _ _; rw [addedN_length]; rfl
theorem flat4_length (ws : List Nat) : (ws.flatMap (be 4)).length = 4 * ws.length := by
  induction ws with
  | nil => rfl
  | cons a l ih => rw [List.flatMap_cons, List.length_append, ih, be_length, List.length_cons]; omega
theorem shaL_length (l : List UInt8) : (shaL l).length = 32 := by rw [shaL, flat4_length, shaWords_length]

/-- What is left of a block. -/
def leftL (l : List UInt8) : List UInt8 := l.drop (64 * (l.length / 64)) ++ List.replicate (64 - l.length % 64) 0
theorem leftL_length (l : List UInt8) : (leftL l).length = 64 := by simp [leftL]; omega

/-- The cells of a stream. -/
def cellsS (a : List Nat) (b : List UInt8) (n : Nat) : List Value := cellsW a ++ (cellsB b ++ [.int .u64 (n : Int)])
theorem cellsS_length (a : List Nat) (b : List UInt8) (n : Nat) : (cellsS a b n).length = a.length + b.length + 1 := by simp [cellsS, cellsW_length, cellsB_length]; omega
def St (w : World) (g : Nat) (l : List UInt8) : Prop := Blk w g 101 (cellsS (addedN l (l.length / 64)) (leftL l) l.length).toArray

def abcL : List UInt8 := [97, 98, 99]
theorem sha_abc : shaL abcL = [0xba, 0x78, 0x16, 0xbf, 0x8f, 0x01, 0xcf, 0xea, 0x41, 0x41, 0x40, 0xde, 0x5d, 0xae, 0x22, 0x23, 0xb0, 0x03, 0x61, 0xa3, 0x96, 0x17, 0x7a, 0x9c, 0xb4, 0x10, 0xff, 0x61, 0xf2, 0x00, 0x15, 0xad] := by kernel_rfl
end Go.Proofs.YtjicnfkodieaaaaDoor
